import PyProof.Rows.All
import Wide.All
import OpenK.AllK
import Wide.FinOn
import Lean
import PyProof.EqAt
import PyProof.EqKinds
import PyProof.TupleCall
import PyProof.StrWalks
import KE.KTryMore
import PyProof.ZipIter
import PyProof.Rows.Range3
import PyProof.Draws
import PyProof.WalksMore
import PyProof.ExcBaseAll.ValueError
import PySem.Challenge.RW_pathshape_k21_rows_let_by
section
set_option Elab.async false
set_option linter.all false
set_option maxRecDepth 100000
namespace L2
open PySem PySem.Spec PyProof.Rows
noncomputable abbrev Key := Sum Int Str
noncomputable def vU : Key → Value → Bool
  | .inl k, v => Value.isInt k v
  | .inr x, v => Value.isStrOf x v
noncomputable def Pn (w : World) : Key → Int
  | .inl k => hashInt k
  | .inr x => hashStr w x
theorem dF : ∀ {k : Key} {v : Value}, vU k v = true → (∃ i t, k = Sum.inl i ∧ v = Value.int i t) ∨ (∃ x t, k = Sum.inr x ∧ v = Value.str x t)
  | .inl i, v, h => by
    obtain ⟨t, e⟩ := Value.isInt_shape (k := i) (v := v) h
    exact .inl ⟨i, t, rfl, e⟩
  | .inr x, v, h => by
    obtain ⟨t, e⟩ := Value.isStrOf_shape (x := x) (v := v) h
    exact .inr ⟨x, t, rfl, e⟩
theorem CU (i : Int) (t : Tok) : vU (.inl i) (.int i t) = true := by simp [vU, Value.isInt]
theorem CV (x : Str) (t : Tok) : vU (.inr x) (.str x t) = true := by simp [vU, Value.isStrOf]
theorem JQ (a b : Int) : decide ((Sum.inl a : Key) = Sum.inl b) = (a == b) := by
  by_cases e : a = b
  · subst e; simp
  · have h : ¬ (Sum.inl a : Key) = Sum.inl b := fun q => e (Sum.inl.inj q)
    rw [decide_eq_false h]
    exact (beq_eq_false_iff_ne.mpr e).symm
theorem JR (a b : Str) : decide ((Sum.inr a : Key) = Sum.inr b) = decide (a = b) := by
  by_cases e : a = b
  · subst e; simp
  · have h : ¬ (Sum.inr a : Key) = Sum.inr b := fun q => e (Sum.inr.inj q)
    rw [decide_eq_false h, decide_eq_false e]
theorem JS (a : Int) (b : Str) : decide ((Sum.inl a : Key) = Sum.inr b) = false := decide_eq_false (fun q => nomatch q)
theorem JT (a : Str) (b : Int) : decide ((Sum.inr a : Key) = Sum.inl b) = false := decide_eq_false (fun q => nomatch q)
noncomputable def dG (prog : Program) (w : World) : PySem.KeyKind prog w Key where
  is := vU
  hash := Pn w
  inj := fun v a b ha hb => by
    rcases dF ha with ⟨i, t, rfl, rfl⟩ | ⟨x, t, rfl, rfl⟩
    · rcases dF hb with ⟨j, u, rfl, e⟩ | ⟨y, u, rfl, e⟩
      · injection e with e1 _; rw [e1]
      · exact nomatch e
    · rcases dF hb with ⟨j, u, rfl, e⟩ | ⟨y, u, rfl, e⟩
      · exact nomatch e
      · injection e with e1 _; rw [e1]
  byValue := fun k v h => by
    rcases dF h with ⟨i, t, rfl, rfl⟩ | ⟨x, t, rfl, rfl⟩ <;> rfl
  pyHash := fun hv h => by
    rcases dF hv with ⟨i, t, rfl, rfl⟩ | ⟨x, t, rfl, rfl⟩
    · exact wpAny_pyHash_int h
    · exact wpAny_pyHash_str h
  eqBool := fun hu hv h => by
    rcases dF hu with ⟨i, t, rfl, rfl⟩ | ⟨x, t, rfl, rfl⟩
    · rcases dF hv with ⟨j, u, rfl, rfl⟩ | ⟨y, u, rfl, rfl⟩
      · rw [JQ] at h; exact wpAny_eqBool_int h
      · rw [JS] at h; exact SeqAt.EqAt.int_str i t y u _ _ _ _ h
    · rcases dF hv with ⟨j, u, rfl, rfl⟩ | ⟨y, u, rfl, rfl⟩
      · rw [JT] at h; exact SeqAt.EqAt.str_int x t j u _ _ _ _ h
      · rw [JR] at h; exact wpAny_eqBool_str h
  «strs» := fun k x t v h => by
    rcases dF h with ⟨i, u, rfl, e⟩ | ⟨y, u, rfl, e⟩
    · exact nomatch e
    · injection e with e1 _
      subst e1
      cases v <;> rfl
theorem yL (prog : Program) (w : World) (i : Int) (t : Tok) : (dG prog w).is (.inl i) (.int i t) = true := CU i t
theorem yM (prog : Program) (w : World) (x : Str) (t : Tok) : (dG prog w).is (.inr x) (.str x t) = true := CV x t
end L2
namespace L2
open PySem PySem.Spec PyProof.Rows
inductive V where
  | cj | bl (b : Bool) | int (i : Int) | str (x : Str) | Mj (b : Array UInt8) | Ml (b : UInt64) | ref (a : Addr) | ty (n : String)
  deriving DecidableEq
noncomputable def RelV : V → Value → Prop
  | .cj, u => u = Value.none
  | .bl b, u => u = Value.bool b
  | .int i, u => ∃ t, u = Value.int i t
  | .str x, u => ∃ t, u = Value.str x t
  | .Mj b, u => ∃ t, u = Value.bytes b t
  | .Ml b, u => ∃ t, u = Value.float b t
  | .ref a, u => u = Value.ref a
  | .ty n, u => u = Value.type n
noncomputable abbrev Vals : List V → List Value → Prop := Paired RelV
theorem Vals.length {xs : List V} {us : List Value} (r : Vals xs us) : xs.length = us.length := Paired.length r
theorem Vals.get : ∀ {xs : List V} {us : List Value} {i : Nat} {x : V}, Vals xs us → xs[i]? = some x → ∃ u, us[i]? = some u ∧ RelV x u
  | _, _, _, _, .nil, e => by simp at e
  | _, _, 0, _, .cons r _, e => by simp at e; subst e; exact ⟨_, rfl, r⟩
  | _, _, i + 1, x, .cons _ t, e => by
    obtain ⟨u, h1, h2⟩ := Vals.get (i := i) (x := x) t (by simpa using e)
    exact ⟨u, by simpa using h1, h2⟩
theorem Vals.set {x : V} {u : Value} (r : RelV x u) : ∀ {xs : List V} {us : List Value} (i : Nat), Vals xs us → Vals (xs.set i x) (us.set i u)
  | _, _, _, .nil => .nil
  | _, _, 0, .cons _ t => .cons r t
  | _, _, i + 1, .cons q t => .cons q (Vals.set r i t)
theorem Vals.append : ∀ {xs ys : List V} {us ws : List Value}, Vals xs us → Vals ys ws → Vals (xs ++ ys) (us ++ ws)
  | _, _, _, _, .nil, s => s
  | _, _, _, _, .cons r t, s => .cons r (Vals.append t s)
theorem Vals.take : ∀ {xs : List V} {us : List Value} (n : Nat), Vals xs us → Vals (xs.take n) (us.take n)
  | _, _, 0, _ => .nil
  | _, _, _ + 1, .nil => .nil
  | _, _, n + 1, .cons r t => .cons r (Vals.take n t)
theorem Vals.drop : ∀ {xs : List V} {us : List Value} (n : Nat), Vals xs us → Vals (xs.drop n) (us.drop n)
  | _, _, 0, r => r
  | _, _, _ + 1, .nil => .nil
  | _, _, n + 1, .cons _ t => Vals.drop n t
noncomputable def sL : Option V → Option Value → Prop
  | some v, some u => RelV v u
  | none, none => True
  | _, _ => False
noncomputable def KV {κ : Type} : List (κ × V) → List (κ × Value) → Prop := Paired fun (p : κ × V) (q : κ × Value) => p.1 = q.1 ∧ RelV p.2 q.2
noncomputable def kV : Key → V
  | .inl i => .int i
  | .inr x => .str x
inductive HO where
  | lst (xs : List V)
  | tup (xs : List V)
  | dK (kvs : List (Key × V)) | dT (kvs : List (List Key × V))
  | set (S : Int → Bool) (n : Nat)
  | ins (C dx : Addr) (fs : List (Str × V))
  | own (x : Addr)
  | xd (fs : List (Str × V))
  | met (f x : Addr)
  | CW (lo hi : Int)
  | jc (o : Obj) (u : HO)
  | BV (ps : Array Value)
  | ext (φ : Heap → Prop)
noncomputable abbrev Hp := Addr → Option HO
noncomputable def upd (H : Hp) (a : Addr) (o : HO) : Hp := fun b => if b = a then some o else H b
theorem bX {H : Hp} {a : Addr} {o : HO} : upd H a o a = some o := by unfold upd; rw [if_pos rfl]
theorem aJ {H : Hp} {a b : Addr} {o : HO} (h : b ≠ a) : upd H a o b = H b := by unfold upd; rw [if_neg h]
theorem gT {H : Hp} {a b : Addr} {o u : HO} (h : H a = some o) (h' : H b = some u) (d : o ≠ u) : a ≠ b := by
  intro e; subst e; rw [h] at h'; exact d (Option.some.inj h')
theorem dg {H : Hp} {a b : Addr} {o : HO} (h : H a = some o) (h' : H b = none) : a ≠ b := by
  intro e; subst e; rw [h] at h'; cases h'
section
variable (P : Program) (w : World)
noncomputable def fk (H : Hp) (h : Heap) (a : Addr) : HO → Prop
  | .lst xs => xs.length ≤ sizeLine ∧ ∃ (its : List Value) (n : Nat), Vals xs its ∧ h.get? a = some { cls := .type "list", data := .seq its.toArray n }
  | .tup xs => xs.length ≤ sizeLine ∧ ∃ its : List Value, Vals xs its ∧ IsTup h a its.toArray
  | .dK kvs => kvs.length ≤ sizeLine ∧ (a == sysModules) = false ∧ ∃ vs, KV kvs vs ∧ h.DictOf (dG P w) a vs
  | .dT kvs => kvs.length ≤ sizeLine ∧ (a == sysModules) = false ∧ ∃ xs : List (List Key × Addr × Value),
      Paired (fun (p : List Key × V) (q : List Key × Addr × Value) => p.1 = q.1 ∧ H q.2.1 = some (.tup (p.1.map kV)) ∧ RelV p.2 q.2.2) kvs xs ∧
      ∃ o es ep, h.get? a = some o ∧ o.ExactDict ∧ o.data = .dict es ep ∧ es.toList = xs.map (entryOfKey (tupleKind (dG P w))) ∧ (xs.map (·.1)).Nodup
  | .set S n => h.SetOf (intKind P w) a S n
  | .ins C dx fs => H dx = some (.own a) ∧ fs.length ≤ 1000 ∧ dx ≠ a ∧ h.get? a = some (PySem.W.instObj C dx) ∧
      ∃ mA, h.Ns1 dx mA ∧ (∀ f, sL (fs.lookup f) (mA f)) ∧ PySem.Within mA (fs.map (·.1))
  | .own _ => ∃ o, h.get? a = some o
  | .xd fs => ∃ mA, h.Ns1 a mA ∧ ∀ f, sL (fs.lookup f) (mA f)
  | .CW lo hi => ∃ t u v, h.get? a = some { cls := .type "range", data := .fields #[.int lo t, .int hi u, .int 1 v] }
  | .jc o u => h.get? a = some o ∧ fk H h a u
  | .BV ps => h.get? a = some { cls := .none, data := .fields ps }
  | .met f x => h.get? a = some (PySem.W.methodObj (.ref f) (.ref x))
  | .ext φ => φ h ∧ (∃ o, h.get? a = some o) ∧ ∀ h1 h2 : Heap, φ h1 → (∀ o, h1.get? a = some o → h2.get? a = some o) → φ h2
noncomputable def mW (H : Hp) (h : Heap) : Prop := ∀ a o, H a = some o → fk P w H h a o
end
section
variable {P : Program} {w : World} {H H' : Hp} {h h' : Heap} {a : Addr} {o : HO}
theorem fk.lt (x : fk P w H h a o) : a < h.objs.size := by
  cases o with
  | lst xs => obtain ⟨_, _, _, _, e⟩ := x; exact Heap.lt_size e
  | tup xs => obtain ⟨_, _, _, p⟩ := x; exact p.lt
  | dK kvs => obtain ⟨_, _, _, _, o, _, _, e, _⟩ := x; exact Heap.lt_size e
  | dT kvs => obtain ⟨_, _, _, _, o, _, _, e, _⟩ := x; exact Heap.lt_size e
  | set S n => obtain ⟨o, _, _, _, e, _⟩ := x; exact Heap.lt_size e
  | ins C dx fs => obtain ⟨_, _, _, e, _⟩ := x; exact Heap.lt_size e
  | own y => obtain ⟨_, e⟩ := x; exact Heap.lt_size e
  | xd fs => obtain ⟨_, ⟨_, _, _, e, _⟩, _⟩ := x; exact Heap.lt_size e
  | CW lo hi => obtain ⟨_, _, _, e⟩ := x; exact Heap.lt_size e
  | jc ob u => obtain ⟨e, _⟩ := x; exact Heap.lt_size e
  | BV ps => exact Heap.lt_size (show h.get? a = some _ from x)
  | met f y => exact Heap.lt_size (show h.get? a = some _ from x)
  | ext φ => obtain ⟨_, ⟨_, e⟩, _⟩ := x; exact Heap.lt_size e
theorem Paired.JU {α β : Type} {F G : α → β → Prop} : ∀ {l₁ : List α} {l₂ : List β}, Paired F l₁ l₂ → (∀ a b, F a b → G a b) → Paired G l₁ l₂
  | _, _, .nil, _ => .nil
  | _, _, .cons r t, f => .cons (f _ _ r) (Paired.JU t f)
theorem fk.stay (x : fk P w H h a o) (k : ∀ b u, (b = a ∨ H b = some (.own a)) → h.get? b = some u → h'.get? b = some u)
    (ho : ∀ b, H b = some (.own a) → H' b = some (.own a)) (ht : ∀ b xs, H b = some (.tup xs) → H' b = some (.tup xs)) : fk P w H' h' a o := by
  induction o with
  | lst xs => obtain ⟨z, its, n, r, e⟩ := x; exact ⟨z, its, n, r, k _ _ (.inl rfl) e⟩
  | tup xs => obtain ⟨z, its, r, ob, e, c⟩ := x; exact ⟨z, its, r, ob, k _ _ (.inl rfl) e, c⟩
  | dK kvs => obtain ⟨z, y, vs, r, ob, es, ep, e, c⟩ := x; exact ⟨z, y, vs, r, ob, es, ep, k _ _ (.inl rfl) e, c⟩
  | dT kvs =>
    obtain ⟨z, y, xs, r, ob, es, ep, e, c⟩ := x
    exact ⟨z, y, xs, Paired.JU r fun p q z => ⟨z.1, ht _ _ z.2.1, z.2.2⟩, ob, es, ep, k _ _ (.inl rfl) e, c⟩
  | set S n => obtain ⟨ob, es, ep, t, e, c⟩ := x; exact ⟨ob, es, ep, t, k _ _ (.inl rfl) e, c⟩
  | ins C dx fs =>
    obtain ⟨d, z, ne, e, mA, ⟨od, es, ep, e2, c⟩, r⟩ := x
    exact ⟨ho _ d, z, ne, k _ _ (.inl rfl) e, mA, ⟨od, es, ep, k _ _ (.inr d) e2, c⟩, r⟩
  | own y => obtain ⟨ob, e⟩ := x; exact ⟨ob, k _ _ (.inl rfl) e⟩
  | xd fs => obtain ⟨mA, ⟨od, es, ep, e, c⟩, r⟩ := x; exact ⟨mA, ⟨od, es, ep, k _ _ (.inl rfl) e, c⟩, r⟩
  | CW lo hi => obtain ⟨t, u, v, e⟩ := x; exact ⟨t, u, v, k _ _ (.inl rfl) e⟩
  | jc ob u ih => obtain ⟨e, q⟩ := x; exact ⟨k _ _ (.inl rfl) e, ih q⟩
  | BV ps =>
    have e : h.get? a = some { cls := .none, data := .fields ps } := x
    show h'.get? a = some { cls := .none, data := .fields ps }
    exact k a _ (.inl rfl) e
  | met f y =>
    have e : h.get? a = some (PySem.W.methodObj (.ref f) (.ref y)) := x
    show h'.get? a = some (PySem.W.methodObj (.ref f) (.ref y))
    exact k a _ (.inl rfl) e
  | ext φ => obtain ⟨p, ⟨o, e⟩, st⟩ := x; exact ⟨st _ _ p fun o q => k _ _ (.inl rfl) q, ⟨o, k _ _ (.inl rfl) e⟩, st⟩
theorem mW.lt (x : mW P w H h) (e : H a = some o) : a < h.objs.size := (x a o e).lt
theorem mW.fresh (x : mW P w H h) (e : h.objs.size ≤ a) : H a = none := by
  cases q : H a with
  | none => rfl
  | some u => exact absurd (Nat.lt_of_lt_of_le (x.lt q) e) (Nat.lt_irrefl _)
theorem mW.kept (x : mW P w H h) (k : ∀ b u, h.get? b = some u → h'.get? b = some u) : mW P w H h' := fun a o e =>
  (x a o e).stay (fun b u _ q => k b u q) (fun _ q => q) fun _ _ q => q
theorem mW.laid (x : mW P w H h) (k : ∀ b u, h.get? b = some u → h'.get? b = some u) (hp : h.objs.size ≤ a) (new : fk P w (upd H a o) h' a o) : mW P w (upd H a o) h' := fun b u e => by
  have hn := x.fresh hp
  by_cases hb : b = a
  · subst hb; rw [bX] at e; cases e; exact new
  · rw [aJ hb] at e
    exact (x b u e).stay (fun c v _ q => k c v q) (fun c q => by rw [aJ (dg q hn)]; exact q) fun c xs q => by rw [aJ (dg q hn)]; exact q
end
noncomputable def Rd (H : Hp) (a : Addr) (u : HO) : Prop := H a = some u ∨ ∃ o, H a = some (.jc o u)
theorem Rd.of {H : Hp} {a : Addr} {u : HO} (h : H a = some u) : Rd H a u := .inl h
theorem Rd.ok {P : Program} {w : World} {H : Hp} {h : Heap} {a : Addr} {u : HO} (r : Rd H a u) (x : mW P w H h) : fk P w H h a u := by
  rcases r with r | ⟨o, r⟩
  · exact x a u r
  · obtain ⟨_, q⟩ := x a _ r
    exact q
noncomputable def Mm : Option HO → Prop
  | some (.lst _) => True
  | some (.dK _) => True
  | some (.dT _) => True
  | some (.set _ _) => True
  | some (.ins _ _ _) => True
  | some (.ext _) => True
  | _ => False
section
variable {P : Program} {w : World} {H : Hp} {h h' : Heap} {x e : Addr} {o' : HO}
theorem mW.write (ok : mW P w H h) (mu : Mm (H x)) (he : e = x ∨ H e = some (.own x)) (k : ∀ b u, b ≠ e → h.get? b = some u → h'.get? b = some u) (LW : ∃ u, h'.get? e = some u)
    (new : fk P w (upd H x o') h' x o') : mW P w (upd H x o') h' := fun b u q => by
  have Mn : ∀ c y, H c = some (.own y) → c ≠ x := fun c y r z => by subst z; rw [r] at mu; exact mu
  have Po : ∀ c xs, H c = some (.tup xs) → c ≠ x := fun c xs r z => by subst z; rw [r] at mu; exact mu
  by_cases hb : b = x
  · subst hb; rw [bX] at q; cases q; exact new
  · rw [aJ hb] at q
    by_cases GX : b = e
    · have q' : H b = some (.own x) := by
        rcases he with z | z
        · exact absurd (GX.trans z) hb
        · rw [GX]; exact z
      rw [q] at q'; cases q'
      obtain ⟨v, hv⟩ := LW
      exact ⟨v, by rw [GX]; exact hv⟩
    · refine (ok b u q).stay (fun c v hc r => k c v ?_ r) (fun c r => by rw [aJ (Mn c b r)]; exact r) fun c xs r => by rw [aJ (Po c xs r)]; exact r
      rcases hc with rfl | hc
      · exact GX
      · rintro rfl
        rcases he with z | z
        · exact Mn c b hc z
        · rw [hc] at z; cases z; exact hb rfl
end
structure Un (fs ex : List Addr) (H H' : Hp) (h h' : Heap) : Prop where
  keep : ∀ b o, h.get? b = some o → H b = none → b ∉ fs → b ∉ ex → h'.get? b = some o
  slot : ∀ b o, h.get? b = some o → H b = none → b ∈ fs → b ∉ ex → ∃ sl, h'.get? b = some { o with slots := sl }
  free : ∀ b o, h.get? b = some o → H b = none → b ∉ ex → H' b = none
  there : ∀ b o, h.get? b = some o → b ∉ ex → ∃ o', h'.get? b = some o'
  tups : ∀ b xs, H b = some (.tup xs) → H' b = some (.tup xs)
  oX : ∀ b o u, H b = some (.jc o u) → H' b = some (.jc o u)
  pT : ∀ b ps, H b = some (.BV ps) → ∃ more, H' b = some (.BV (ps ++ more))
section
variable {fs fs' ex ex' : List Addr} {H H1 H2 : Hp} {h h1 h2 h' : Heap} {a x e : Addr} {o : HO}
theorem Un.any (u : Un fs ex H H1 h h1) {b : Addr} {ob : Obj} (q : h.get? b = some ob) (n : H b = none) (hx : b ∉ ex) : ∃ sl, h1.get? b = some { ob with slots := sl } := by
  by_cases hb : b ∈ fs
  · exact u.slot b ob q n hb hx
  · exact ⟨ob.slots, u.keep b ob q n hb hx⟩
theorem Un.kept (k : ∀ b u, h.get? b = some u → h'.get? b = some u) : Un fs ex H H h h' :=
  ⟨fun b ob q _ _ _ => k b ob q, fun b ob q _ _ _ => ⟨ob.slots, k b ob q⟩, fun _ _ _ n _ => n, fun b ob q _ => ⟨ob, k b ob q⟩, fun _ _ q => q, fun _ _ _ q => q, fun _ ps q => ⟨#[], by rw [q]; simp⟩⟩
theorem Un.refl : Un fs ex H H h h := Un.kept fun _ _ q => q
theorem Un.laid (k : ∀ b u, h.get? b = some u → h'.get? b = some u) (hp : h.objs.size ≤ a) (hn : H a = none) : Un fs ex H (upd H a o) h h' where
  keep := fun b u q _ _ _ => k b u q
  slot := fun b u q _ _ _ => ⟨u.slots, k b u q⟩
  free := fun b u q n _ => by rw [aJ (Nat.ne_of_lt (Nat.lt_of_lt_of_le (Heap.lt_size q) hp))]; exact n
  there := fun b u q _ => ⟨u, k b u q⟩
  tups := fun b xs q => by rw [aJ (dg q hn)]; exact q
  oX := fun b u xs q => by rw [aJ (dg q hn)]; exact q
  pT := fun b ps q => ⟨#[], by rw [aJ (dg q hn), q]; simp⟩
theorem Un.write (mu : Mm (H x)) (he : e = x ∨ H e = some (.own x)) (k : ∀ b u, b ≠ e → h.get? b = some u → h'.get? b = some u) (LW : ∃ u, h'.get? e = some u) : Un fs ex H (upd H x o) h h' := by
  have hx : ∀ b, H b = none → b ≠ x := fun b n z => by subst z; rw [n] at mu; exact mu
  have hb : ∀ b, H b = none → b ≠ e := fun b n z => by
    subst z
    rcases he with r | r
    · exact hx b n r
    · rw [n] at r; cases r
  have hm : ∀ b u, H b = some u → ¬ Mm (some u) → b ≠ x := fun b u q nm z => by subst z; rw [q] at mu; exact nm mu
  refine ⟨fun b u q n _ _ => k b u (hb b n) q, fun b u q n _ _ => ⟨u.slots, k b u (hb b n) q⟩, fun b u q n _ => by rw [aJ (hx b n)]; exact n, fun b u q _ => ?_,
    fun b xs q => by rw [aJ (hm b _ q fun z => z)]; exact q, fun b u xs q => by rw [aJ (hm b _ q fun z => z)]; exact q, fun b ps q => ⟨#[], by rw [aJ (hm b _ q fun z => z), q]; simp⟩⟩
  by_cases GX : b = e
  · subst GX; exact LW
  · exact ⟨u, k b u GX q⟩
end
noncomputable def OS (h : Heap) (H : Hp) : List Addr := (List.range h.objs.size).filter fun a => (H a).isSome
noncomputable def wX (h : Heap) (H : Hp) : Heap := PySem.W.hideAll h (OS h H)
theorem CY (h : Heap) (H : Hp) : (wX h H).objs.size = h.objs.size := PySem.W.hideAll_size _ _
theorem Ec {h : Heap} {H : Hp} {b : Addr} {o : Obj} (e : h.get? b = some o) (n : H b = none) : (wX h H).get? b = some o :=
  PySem.W.hideAll_get _ e fun hm => by
    have q : (H b).isSome = true := (List.mem_filter.mp hm).2
    rw [n] at q; simp at q
theorem G6 {h : Heap} {H : Hp} {b : Addr} {o : Obj} (e : (wX h H).get? b = some o) : h.get? b = some o ∧ H b = none := by
  have e' : h.get? b = some o := PySem.W.of_hideAll (OS h H) e
  refine ⟨e', ?_⟩
  cases q : H b with
  | none => rfl
  | some x =>
    have hm : b ∈ OS h H := List.mem_filter.mpr ⟨List.mem_range.mpr (Heap.lt_size e'), by simp [q]⟩
    have z : (wX h H).get? b = none := PySem.W.hideAll_none (OS h H) hm
    rw [z] at e; cases e
noncomputable def G7 (g h : Heap) (L : Addr) : List (Addr × Obj) := (List.range h.objs.size).filterMap fun a => if a = L ∨ (g.get? a).isSome = true then none else (h.get? a).map fun o => (a, o)
noncomputable def rest (g h : Heap) (L d : Addr) : List (Addr × Obj) := (G7 g h L).filter fun p => decide (p.1 ≠ d)
end L2
namespace L2
open PySem PySem.Spec PyProof.Rows
structure Mod (K : PySem.W.Frag) (mg : Str → Option Value) (base : Heap) : Prop where
  Pp : K.In base
  glob : base.Ns mainGlobals mg
  blt : ∃ mb, base.Ns builtinsNs mb ∧ ∀ x : Str, x ≠ "__name__" → mb x = bootBuiltins x
  nolimit : base.NoLimit
structure Cx where
  prog : Program
  w : World
  K : PySem.W.Frag
  mg : Str → Option Value
  base : Heap
  A : Around
  N : List Str
  s₀ : Shared
  H₀ : Hp
  env : Env
  outer : List Env
  stack : List Env
  ex : List Addr
  fn : Str → Bool
  calm : Bool
  pn : List (Addr × Obj)
  xe : Value → Shared → Prop
noncomputable def frs (l : List Env) : List Addr := l.filterMap (·.frame)
noncomputable abbrev Cx.fs (X : Cx) : List Addr := frs X.outer
noncomputable def LX (sc : Scope) (x : Str) : Prop := sc.names.lookup x = some .local ∨ sc.names.lookup x = some .cell ∨ sc.names.lookup x = some .free
noncomputable def Loc (sc : Scope) (x : Str) : Prop := sc.names.lookup x = some .local ∨ sc.names.lookup x = some .cell
noncomputable def Look (env : Env) (h : Heap) (m : Str → Option Value) (x : Str) (u : Value) : Prop :=
  (env.kindOf x = some .local ∧ m x = some u) ∨ ((env.kindOf x = some .cell ∨ env.kindOf x = some .free) ∧ ∃ c, env.cells.lookup x = some c ∧ h.IsCell c (some u))
structure Cx.Ok (X : Cx) : Prop where
  mod : Mod X.K X.mg X.base
  kind : X.env.scope.kind = .function
  glob : X.env.globals = mainGlobals
  blt : X.env.builtins = builtinsNs
  above : X.s₀.heap.objs.size ≤ X.env.locals
  inj : ∀ x y c, X.env.cells.lookup x = some c → X.env.cells.lookup y = some c → x = y
  has : ∀ x, (X.env.kindOf x = some .cell ∨ X.env.kindOf x = some .free) → ∃ c, X.env.cells.lookup x = some c
  Pq : ∀ x c, X.fn x = true → X.env.cells.lookup x = some c → X.s₀.heap.objs.size ≤ c
  hd : X.calm = true → X.A.handled = none
  frames : X.A.frames = some X.stack
  stk : X.stack = X.outer ∨ (X.stack = X.env :: X.outer ∧ X.env.frame = some X.env.locals)
  VZ : ∀ b ∈ X.ex, b ≠ X.env.locals ∧ ∀ x c, X.env.cells.lookup x = some c → c ≠ b
  bs : ∀ b o, X.base.get? b = some o → X.s₀.heap.get? b = some o ∧ X.H₀ b = none
  JW : X.base.objs.size ≤ X.s₀.heap.objs.size
  JX : ∀ b o, X.base.get? b = some o → b ∉ X.ex
  JY : ∀ b ∈ X.ex, b ∉ X.fs
  tG : X.s₀.heap.FunFrames X.base X.outer
  LY : ∀ b ∈ X.fs, X.H₀ b = none
structure Inv (X : Cx) (pins : List (Addr × Obj)) (σ : List (Option V)) (H : Hp) (s : Shared) : Prop where
  ok : X.Ok
  os : s.os = X.s₀.os
  bare : AllBare s.gens
  base : Un X.fs X.ex X.H₀ H X.s₀.heap s.heap
  loc : ∃ m, s.heap.Ns X.env.locals m ∧ ∀ (i : Nat) (x : Str) (v : V), X.N[i]? = some x → σ[i]? = some (some v) → LX X.env.scope x → ∃ u, RelV v u ∧ Look X.env s.heap m x u
  cell : ∀ x c, X.env.cells.lookup x = some c → ∃ v, s.heap.IsCell c v
  free : H X.env.locals = none
  oF : ∀ x c, X.env.cells.lookup x = some c → H c = none
  pin : ∀ p ∈ X.pn ++ pins, s.heap.get? p.1 = some p.2 ∧ H p.1 = none ∧ p.1 ≠ X.env.locals ∧ p.1 ∉ X.fs ∧ ∀ v, p.2.data ≠ .cell v
  hok : mW X.prog X.w H s.heap
  len : σ.length = X.N.length
section
variable {X : Cx} {pins : List (Addr × Obj)} {σ : List (Option V)} {H H' : Hp} {s : Shared} {h' : Heap}
theorem Cx.Ok.Pr (ok : X.Ok) {b : Addr} {o : Obj} (e : X.base.get? b = some o) : b ∉ X.fs := fun hb => by
  have := (ok.tG.mem hb).1
  rw [e] at this; cases this
theorem Inv.bs (I : Inv X pins σ H s) : ∀ b o, X.base.get? b = some o → s.heap.get? b = some o ∧ H b = none := fun b o e =>
  ⟨I.base.keep b o (I.ok.bs b o e).1 (I.ok.bs b o e).2 (I.ok.Pr e) (I.ok.JX b o e), I.base.free b o (I.ok.bs b o e).1 (I.ok.bs b o e).2 (I.ok.JX b o e)⟩
theorem Inv.bk (I : Inv X pins σ H s) : ∀ b o, X.base.get? b = some o → s.heap.get? b = some o := fun b o e => (I.bs b o e).1
theorem Inv.mod (I : Inv X pins σ H s) : Mod X.K X.mg X.base := I.ok.mod
theorem Inv.CZ (I : Inv X pins σ H s) : X.K.In s.heap := I.ok.mod.Pp.keeps I.bk
theorem Inv.nolimit (I : Inv X pins σ H s) : s.heap.NoLimit := I.ok.mod.nolimit.keeps I.bk
theorem Inv.fr (I : Inv X pins σ H s) : ∃ m, Fr X.base X.env.locals s.heap m :=
  let ⟨m, hn, _⟩ := I.loc
  ⟨m, hn, I.bk, Nat.le_trans I.ok.JW I.ok.above⟩
theorem Inv.lt (I : Inv X pins σ H s) : X.env.locals < s.heap.objs.size := let ⟨_, hn, _⟩ := I.loc; hn.lt
theorem Inv.sz (I : Inv X pins σ H s) : X.s₀.heap.objs.size ≤ s.heap.objs.size := Nat.le_trans I.ok.above (Nat.le_of_lt I.lt)
theorem Inv.Pu (I : Inv X pins σ H s) {a : Addr} (h : s.heap.objs.size ≤ a) : a ∉ X.fs := fun hb => by
  obtain ⟨_, o, ho, _⟩ := I.ok.tG.mem hb
  exact absurd (Nat.lt_of_lt_of_le (Heap.lt_size ho) (Nat.le_trans I.sz h)) (Nat.lt_irrefl _)
theorem Inv.GY (I : Inv X pins σ H s) : ∀ x c, X.env.cells.lookup x = some c → c ≠ X.env.locals := fun x c e z => by
  obtain ⟨v, o, ho, hd⟩ := I.cell x c e
  obtain ⟨m, ⟨o', es, ep, ho', hd', _⟩, _⟩ := I.loc
  rw [z, ho'] at ho; cases ho; rw [hd'] at hd; cases hd
theorem Inv.tG (I : Inv X pins σ H s) : s.heap.FunFrames X.base X.outer := by
  have all : ∀ (l : List Env), (∀ b ∈ frs l, b ∈ X.fs) → X.s₀.heap.FunFrames X.base l → s.heap.FunFrames X.base l := by
    intro l
    induction l with
    | nil => intro _ _; trivial
    | cons env r ih =>
      intro hs hl
      obtain ⟨hk, ⟨L, o, hf, hn, ho, hd⟩, hr⟩ := hl
      have hL : L ∈ X.fs := hs L (by unfold frs; rw [List.filterMap_cons, hf]; exact List.mem_cons_self)
      obtain ⟨sl, e⟩ := I.base.slot L o ho (I.ok.LY L hL) hL fun z => I.ok.JY L z hL
      exact ⟨hk, ⟨L, _, hf, hn, e, hd⟩, ih (fun b hb => hs b (by unfold frs; rw [List.filterMap_cons, hf]; exact List.mem_cons_of_mem _ hb)) hr⟩
  exact all X.outer (fun _ hb => hb) I.ok.tG
theorem Inv.stack (I : Inv X pins σ H s) : s.heap.FunFrames X.base X.stack := by
  rcases I.ok.stk with e | ⟨e, hf⟩
  · rw [e]; exact I.tG
  · rw [e]
    obtain ⟨m, hn, _⟩ := I.loc
    refine .cons (by rw [I.ok.kind]; decide) hf hn ?_ I.tG
    exact Heap.get?_none_of_le (Nat.le_trans I.ok.JW I.ok.above)
theorem Inv.oY (I : Inv X pins σ H s) : ∀ b ∈ frs X.stack, b ∈ X.env.locals :: X.fs := fun b hb => by
  rcases I.ok.stk with e | ⟨e, hf⟩
  · rw [e] at hb; exact List.mem_cons_of_mem _ hb
  · rw [e] at hb
    unfold frs at hb
    rw [List.filterMap_cons, hf] at hb
    exact hb
theorem Inv.sS (I : Inv X pins σ H s) : ∀ b ∈ frs X.stack, H b = none := fun b hb => by
  rcases List.mem_cons.mp (I.oY b hb) with e | hb
  · rw [e]; exact I.free
  · obtain ⟨_, o, ho, _⟩ := I.ok.tG.mem hb
    exact I.base.free b o ho (I.ok.LY b hb) fun z => I.ok.JY b z hb
theorem Inv.step {g' : Array GenState} {t' : Nat} {d' : Drawn} {ch : List Addr} (I : Inv X pins σ H s)
    (hch : ∀ b ∈ ch, (b ∈ X.ex ∨ X.s₀.heap.objs.size ≤ b) ∧ b ≠ X.env.locals ∧ (∀ x c, X.env.cells.lookup x = some c → c ≠ b) ∧ ∀ p ∈ X.pn ++ pins, p.1 ≠ b)
    (keep : ∀ b o, b ≠ X.env.locals → b ∉ X.fs → b ∉ ch → s.heap.get? b = some o → H b = none → h'.get? b = some o)
    (slot : ∀ b o, b ≠ X.env.locals → b ∈ X.fs → b ∉ ch → s.heap.get? b = some o → H b = none → ∃ sl, h'.get? b = some { o with slots := sl }) (free : ∀ b o, b ∉ ch → s.heap.get? b = some o → H b = none → H' b = none)
    (there : ∀ b o, b ∉ ch → s.heap.get? b = some o → ∃ o', h'.get? b = some o')
    (tups : ∀ b xs, H b = some (.tup xs) → H' b = some (.tup xs)) (oX : ∀ b o u, H b = some (.jc o u) → H' b = some (.jc o u)) (pT : ∀ b ps, H b = some (.BV ps) → ∃ more, H' b = some (.BV (ps ++ more)))
    (ns : ∀ m, s.heap.Ns X.env.locals m → h'.Ns X.env.locals m) (hok : mW X.prog X.w H' h') (hg : AllBare g') :
    Inv X pins σ H' { s with heap := h', gens := g', drawn := d', toks := t' } := by
  have Ed : ∀ b o, X.s₀.heap.get? b = some o → b ≠ X.env.locals := fun b o e => Nat.ne_of_lt (Nat.lt_of_lt_of_le (Heap.lt_size e) I.ok.above)
  have Jk : ∀ b o, X.s₀.heap.get? b = some o → b ∉ X.ex → b ∉ ch := fun b o e hx hb => by
    rcases (hch b hb).1 with z | z
    · exact hx z
    · exact absurd (Nat.lt_of_lt_of_le (Heap.lt_size e) z) (Nat.lt_irrefl _)
  have cellK : ∀ x c, X.env.cells.lookup x = some c → ∀ v, s.heap.IsCell c v → h'.IsCell c v := fun x c e v ⟨o, ho, hd⟩ => by
    have Mp : c ∉ ch := fun z => (hch c z).2.2.1 x c e rfl
    by_cases hc : c ∈ X.fs
    · obtain ⟨sl, q⟩ := slot c o (I.GY x c e) hc Mp ho (I.oF x c e)
      exact ⟨_, q, hd⟩
    · exact ⟨o, keep c o (I.GY x c e) hc Mp ho (I.oF x c e), hd⟩
  refine ⟨I.ok, I.os, hg, ⟨fun b o e n hb hx => ?_, fun b o e n hb hx => ?_, fun b o e n hx => ?_, fun b o e hx => ?_, fun b xs e => tups b xs (I.base.tups b xs e), fun b o xs e => oX b o xs (I.base.oX b o xs e), fun b ps e => ?_⟩, ?_, fun x c e => ?_, ?_, fun x c e => ?_, fun p hp => ?_, hok, I.len⟩
  · exact keep b o (Ed b o e) hb (Jk b o e hx) (I.base.keep b o e n hb hx) (I.base.free b o e n hx)
  · obtain ⟨sl, e1⟩ := I.base.slot b o e n hb hx
    obtain ⟨Mq, e2⟩ := slot b _ (Ed b o e) hb (Jk b o e hx) e1 (I.base.free b o e n hx)
    exact ⟨Mq, e2⟩
  · obtain ⟨o', e1⟩ := I.base.there b o e hx
    exact free b o' (Jk b o e hx) e1 (I.base.free b o e n hx)
  · obtain ⟨o', e1⟩ := I.base.there b o e hx
    exact there b o' (Jk b o e hx) e1
  · obtain ⟨m1, e1⟩ := I.base.pT b ps e
    obtain ⟨m2, e2⟩ := pT b _ e1
    exact ⟨m1 ++ m2, by rw [e2, Array.append_assoc]⟩
  · obtain ⟨m, hn, hl⟩ := I.loc
    refine ⟨m, ns m hn, fun i x v e1 e2 e3 => ?_⟩
    obtain ⟨u, r, l⟩ := hl i x v e1 e2 e3
    refine ⟨u, r, ?_⟩
    rcases l with l | ⟨k, c, e, z⟩
    · exact .inl l
    · exact .inr ⟨k, c, e, cellK x c e _ z⟩
  · obtain ⟨v, z⟩ := I.cell x c e
    exact ⟨v, cellK x c e v z⟩
  · obtain ⟨m, ⟨o, _, _, ho, _⟩, _⟩ := I.loc
    exact free _ o (fun z => (hch _ z).2.1 rfl) ho I.free
  · obtain ⟨v, o, ho, hd⟩ := I.cell x c e
    exact free c o (fun z => (hch c z).2.2.1 x c e rfl) ho (I.oF x c e)
  · obtain ⟨e, n, ne, nf, d⟩ := I.pin p hp
    have Mp : p.1 ∉ ch := fun z => (hch p.1 z).2.2.2 p hp rfl
    exact ⟨keep p.1 p.2 ne nf Mp e n, free p.1 p.2 Mp e n, ne, nf, d⟩
theorem Inv.un {t' : Nat} (I : Inv X pins σ H s) (u : Un X.fs [] H H' s.heap h') (hok : mW X.prog X.w H' h') : Inv X pins σ H' { s with heap := h', toks := t' } := by
  obtain ⟨m, ⟨o, es, ep, ho, r⟩, _⟩ := id I.loc
  obtain ⟨sl, hL⟩ := u.any ho I.free (by simp)
  exact I.step (g' := s.gens) (d' := s.drawn) (ch := []) (fun _ z => nomatch z) (fun b o _ hb _ e n => u.keep b o e n hb (by simp)) (fun b o _ hb _ e n => u.slot b o e n hb (by simp)) (fun b o _ e n => u.free b o e n (by simp)) (fun b o _ e => u.there b o e (by simp)) u.tups u.oX u.pT (fun m' hm => by
    obtain ⟨o', es', BW, ho', r'⟩ := hm
    rw [ho] at ho'; cases ho'
    exact ⟨_, es', BW, hL, r'⟩) hok I.bare
theorem Inv.call {g' : Array GenState} {t' : Nat} {d' : Drawn} {ch : List Addr} (I : Inv X pins σ H s) (u : Un (frs X.stack) ch H H' s.heap h') (hok : mW X.prog X.w H' h') (hg : AllBare g')
    (hch : ∀ b ∈ ch, (b ∈ X.ex ∨ X.s₀.heap.objs.size ≤ b) ∧ b ≠ X.env.locals ∧ (∀ x c, X.env.cells.lookup x = some c → c ≠ b) ∧ ∀ p ∈ X.pn ++ pins, p.1 ≠ b) :
    Inv X pins σ H' { s with heap := h', gens := g', drawn := d', toks := t' } := by
  obtain ⟨m, ⟨o, es, ep, ho, r⟩, _⟩ := id I.loc
  obtain ⟨sl, hL⟩ := u.any ho I.free fun z => (hch _ z).2.1 rfl
  exact I.step (ch := ch) hch (fun b o hL hb hc e n => u.keep b o e n (fun z => (List.mem_cons.mp (I.oY b z)).elim hL hb) hc) (fun b o _ _ hc e n => u.any e n hc) (fun b o hc e n => u.free b o e n hc) (fun b o hc e => u.there b o e hc) u.tups u.oX u.pT (fun m' hm => by
    obtain ⟨o', es', BW, ho', r'⟩ := hm
    rw [ho] at ho'; cases ho'
    exact ⟨_, es', BW, hL, r'⟩) hok hg
theorem Inv.turned {t' : Nat} {it : Addr} (I : Inv X pins σ H s) (k : ∀ b o, b ≠ it → s.heap.get? b = some o → h'.get? b = some o) (hn : H it = none) (hL : it ≠ X.env.locals)
    (h1 : it ∈ X.ex ∨ X.s₀.heap.objs.size ≤ it) (h2 : ∀ x c, X.env.cells.lookup x = some c → c ≠ it) (h3 : ∀ p ∈ X.pn ++ pins, p.1 ≠ it) : Inv X pins σ H { s with heap := h', toks := t' } := by
  have Mr : ∀ b u, H b = some u → b ≠ it := fun b u e z => by rw [z, hn] at e; cases e
  refine I.step (g' := s.gens) (d' := s.drawn) (ch := [it]) (fun b hb => ?_) (fun b o _ _ hc e _ => k b o (fun z => hc (by simp [z])) e) (fun b o _ _ hc e _ => ⟨o.slots, k b o (fun z => hc (by simp [z])) e⟩) (fun _ _ _ _ n => n)
    (fun b o hc e => ⟨o, k b o (fun z => hc (by simp [z])) e⟩) (fun _ _ e => e) (fun _ _ _ e => e) (fun b ps e => ⟨#[], by rw [e]; simp⟩) (fun m hm => ?_) (fun b u e => ?_) I.bare
  · have e : b = it := by simpa using hb
    subst e
    exact ⟨h1, hL, h2, h3⟩
  · obtain ⟨o, es, ep, ho, r⟩ := hm
    exact ⟨o, es, ep, k _ o (Ne.symm hL) ho, r⟩
  · refine (I.hok b u e).stay (fun c v hc q => k c v ?_ q) (fun _ q => q) fun _ _ q => q
    rcases hc with z | z
    · rw [z]; exact Mr b u e
    · exact Mr c _ z
theorem Inv.tok (I : Inv X pins σ H s) (t : Nat) : Inv X pins σ H { s with toks := t } := I.un (h' := s.heap) (t' := t) Un.refl I.hok
theorem Inv.kept {t' : Nat} (I : Inv X pins σ H s) (k : ∀ b u, s.heap.get? b = some u → h'.get? b = some u) : Inv X pins σ H { s with heap := h', toks := t' } := I.un (Un.kept k) (I.hok.kept k)
theorem Inv.laid {a : Addr} {o : HO} {t' : Nat} (I : Inv X pins σ H s) (k : ∀ b u, s.heap.get? b = some u → h'.get? b = some u) (hp : s.heap.objs.size ≤ a) (new : fk X.prog X.w (upd H a o) h' a o) :
    Inv X pins σ (upd H a o) { s with heap := h', toks := t' } := I.un (Un.laid k hp (I.hok.fresh hp)) (I.hok.laid k hp new)
theorem Inv.write {x e : Addr} {o : HO} {t' : Nat} (I : Inv X pins σ H s) (mu : Mm (H x)) (he : e = x ∨ H e = some (.own x)) (k : ∀ b u, b ≠ e → s.heap.get? b = some u → h'.get? b = some u) (LW : ∃ u, h'.get? e = some u)
    (new : fk X.prog X.w (upd H x o) h' x o) : Inv X pins σ (upd H x o) { s with heap := h', toks := t' } := I.un (Un.write mu he k LW) (I.hok.write mu he k LW new)
theorem Inv.wY {jk : List (Addr × Obj)} (I : Inv X pins σ H s) (h : ∀ p ∈ jk, s.heap.get? p.1 = some p.2 ∧ H p.1 = none ∧ p.1 ≠ X.env.locals ∧ p.1 ∉ X.fs ∧ ∀ v, p.2.data ≠ .cell v) : Inv X jk σ H s :=
  ⟨I.ok, I.os, I.bare, I.base, I.loc, I.cell, I.free, I.oF, fun p hp => (List.mem_append.mp hp).elim (fun z => I.pin p (List.mem_append_left _ z)) (h p), I.hok, I.len⟩
theorem yN {N : List Str} (hN : N.Nodup) {i j : Nat} {x : Str} (a : N[i]? = some x) (b : N[j]? = some x) : i = j := by
  obtain ⟨h1, e1⟩ := List.getElem?_eq_some_iff.mp a
  obtain ⟨h2, e2⟩ := List.getElem?_eq_some_iff.mp b
  exact (List.getElem_inj hN).mp (e1.trans e2.symm)
theorem vV {M : Model} {A : Around} {E : Value → Shared → Prop} {i : Nat} {x : Str} {v : V} {u : Value} {Q : Unit → Shared → Prop} (I : Inv X pins σ H s) (hN : X.N.Nodup) (hi : X.N[i]? = some x) (hx : Loc X.env.scope x) (r : RelV v u)
    (h : ∀ s', Inv X pins (σ.set i (some v)) H s' → (∃ a, Heap.SameBut a s.heap s'.heap ∧ (a = X.env.locals ∨ X.env.cells.lookup x = some a)) → Q () s') (hf : X.fn x = true ∨ X.env.scope.names.lookup x = some .local := by first | exact .inl rfl | exact .inr rfl | assumption) : wpAny M A (storeName X.env x u) Q E s := by
  obtain ⟨m, hn, hl⟩ := id I.loc
  have hcls : (X.env.scope.kind == .class || (X.env.scope.kind == .module && X.env.locals != X.env.globals)) = false := by rw [I.ok.kind]; rfl
  have RH : i < σ.length := by rw [I.len]; exact (List.getElem?_eq_some_iff.mp hi).1
  have GY := I.GY
  have tracked : ∀ {a : Addr} {h' : Heap}, (∃ o, s.heap.get? a = some o ∧ H a = none) → Heap.SameBut a s.heap h' → mW X.prog X.w H h' := fun {a h'} ha hs b ob e => by
    obtain ⟨_, _, hfree⟩ := ha
    refine (I.hok b ob e).stay (fun c w' hc q => (hs.2 c ?_).trans q) (fun _ q => q) fun _ _ q => q
    rintro rfl
    rcases hc with rfl | hc
    · rw [hfree] at e; cases e
    · rw [hfree] at hc; cases hc
  rcases hx with hk | hk
  · refine wpAny_storeName_local hk hn (fun h' hn' hs => ?_) hcls
    obtain ⟨oL, _, _, RI, _⟩ := id hn
    refine h _ ⟨I.ok, I.os, I.bare, ⟨fun b o e n hb hx => ?_, fun b o e n hb hx => ?_, I.base.free, fun b o e hx => ?_, I.base.tups, I.base.oX, I.base.pT⟩, ⟨_, hn', fun j y v' e1 e2 e3 => ?_⟩, fun y c e => ?_, I.free, I.oF, fun p hp => ?_, tracked ⟨oL, RI, I.free⟩ hs, by simpa using I.len⟩ ⟨_, hs, .inl rfl⟩
    · exact (hs.2 b (Nat.ne_of_lt (Nat.lt_of_lt_of_le (Heap.lt_size e) I.ok.above))).trans (I.base.keep b o e n hb hx)
    · obtain ⟨sl, e1⟩ := I.base.slot b o e n hb hx
      exact ⟨sl, (hs.2 b (Nat.ne_of_lt (Nat.lt_of_lt_of_le (Heap.lt_size e) I.ok.above))).trans e1⟩
    · obtain ⟨o', e1⟩ := I.base.there b o e hx
      exact ⟨o', (hs.2 b (Nat.ne_of_lt (Nat.lt_of_lt_of_le (Heap.lt_size e) I.ok.above))).trans e1⟩
    · by_cases hj : j = i
      · subst hj
        rw [hi] at e1; cases e1
        rw [List.getElem?_set_self RH] at e2
        cases e2
        exact ⟨u, r, .inl ⟨hk, by simp⟩⟩
      · rw [List.getElem?_set_ne (Ne.symm hj)] at e2
        obtain ⟨u', r', q⟩ := hl j y v' e1 e2 e3
        refine ⟨u', r', ?_⟩
        rcases q with ⟨k, e⟩ | ⟨k, c, e, z⟩
        · refine .inl ⟨k, ?_⟩
          have : y ≠ x := fun e => hj (yN hN e1 (e ▸ hi))
          simp [this, e]
        · exact .inr ⟨k, c, e, z.sameBut hs (GY y c e)⟩
    · obtain ⟨w', z⟩ := I.cell y c e
      exact ⟨w', z.sameBut hs (GY y c e)⟩
    · obtain ⟨e, n, ne, nf, d⟩ := I.pin p hp
      exact ⟨(hs.2 p.1 ne).trans e, n, ne, nf, d⟩
  · have hfn : X.fn x = true := by
      rcases hf with z | z
      · exact z
      · rw [z] at hk; cases hk
    obtain ⟨c, hc⟩ := I.ok.has x (.inl hk)
    obtain ⟨w', z⟩ := I.cell x c hc
    refine wpAny_storeName_cell I.ok.kind hk hc z (fun h' hc' hs => ?_)
    obtain ⟨oc, hoc, Pw⟩ := id z
    refine h { s with heap := h' } ⟨I.ok, I.os, I.bare, ⟨fun b o e n hb hx => ?_, fun b o e n hb hx => ?_, I.base.free, fun b o e hx => ?_, I.base.tups, I.base.oX, I.base.pT⟩, ⟨m, hn.sameBut hs (Ne.symm (GY x c hc)), fun j y v' e1 e2 e3 => ?_⟩, fun y c' e => ?_, I.free, I.oF, fun p hp => ?_, tracked ⟨oc, hoc, I.oF x c hc⟩ hs, by simpa using I.len⟩ ⟨c, hs, .inr hc⟩
    · exact (hs.2 b (Nat.ne_of_lt (Nat.lt_of_lt_of_le (Heap.lt_size e) (I.ok.Pq x c hfn hc)))).trans (I.base.keep b o e n hb hx)
    · obtain ⟨sl, e1⟩ := I.base.slot b o e n hb hx
      exact ⟨sl, (hs.2 b (Nat.ne_of_lt (Nat.lt_of_lt_of_le (Heap.lt_size e) (I.ok.Pq x c hfn hc)))).trans e1⟩
    · obtain ⟨o', e1⟩ := I.base.there b o e hx
      exact ⟨o', (hs.2 b (Nat.ne_of_lt (Nat.lt_of_lt_of_le (Heap.lt_size e) (I.ok.Pq x c hfn hc)))).trans e1⟩
    · by_cases hj : j = i
      · subst hj
        rw [hi] at e1; cases e1
        rw [List.getElem?_set_self RH] at e2
        cases e2
        exact ⟨u, r, .inr ⟨.inl hk, c, hc, hc'⟩⟩
      · rw [List.getElem?_set_ne (Ne.symm hj)] at e2
        obtain ⟨u', r', q⟩ := hl j y v' e1 e2 e3
        refine ⟨u', r', ?_⟩
        rcases q with q | ⟨k, c', e, z'⟩
        · exact .inl q
        · refine .inr ⟨k, c', e, z'.sameBut hs ?_⟩
          rintro rfl
          exact hj (yN hN e1 (I.ok.inj _ _ _ e hc ▸ hi))
    · by_cases hcc : c' = c
      · subst hcc; exact ⟨_, hc'⟩
      · obtain ⟨w2, z2⟩ := I.cell y c' e
        exact ⟨w2, z2.sameBut hs hcc⟩
    · obtain ⟨e, n, ne, nf, d⟩ := I.pin p hp
      refine ⟨(hs.2 p.1 ?_).trans e, n, ne, nf, d⟩
      intro q
      rw [q, hoc] at e
      have q' : oc = p.2 := Option.some.inj e
      exact d w' (by rw [← q']; exact Pw)
theorem yO {M : Model} {A : Around} {E : Value → Shared → Prop} {i : Nat} {x : Str} {v : V} {u : Value} {Q : Unit → Shared → Prop} (I : Inv X pins σ H s) (hN : X.N.Nodup) (hi : X.N[i]? = some x) (hx : Loc X.env.scope x) (r : RelV v u)
    (h : ∀ s', Inv X pins (σ.set i (some v)) H s' → Q () s') (hf : X.fn x = true ∨ X.env.scope.names.lookup x = some .local := by first | exact .inl rfl | exact .inr rfl | assumption) : wpAny M A (storeName X.env x u) Q E s :=
  vV I hN hi hx r (fun s' I' _ => h s' I') hf
theorem Inv.Ef {s' : Shared} {ch : List Addr} (I : Inv X pins σ H s) (ho : s'.os = s.os) (u : Un (frs X.stack) ch H H' s.heap s'.heap) (hok : mW X.prog X.w H' s'.heap) (hg : AllBare s'.gens)
    (hch : ∀ b ∈ ch, (b ∈ X.ex ∨ X.s₀.heap.objs.size ≤ b) ∧ b ≠ X.env.locals ∧ (∀ x c, X.env.cells.lookup x = some c → c ≠ b) ∧ ∀ p ∈ X.pn ++ pins, p.1 ≠ b) : Inv X pins σ H' s' := by
  obtain ⟨h', g', d', t', o'⟩ := s'
  have e : o' = s.os := ho
  subst e
  exact I.call (g' := g') (t' := t') (d' := d') u hok hg hch
end
noncomputable abbrev XK := Value → Option Addr → Hp → Prop
noncomputable abbrev St := List (Option V)
noncomputable abbrev VK := V → Hp → Prop
noncomputable abbrev TE := St → Hp → VK → Prop
noncomputable abbrev TT := St → Hp → (Bool → Hp → Prop) → Prop
noncomputable abbrev TA := St → Hp → (List V → Hp → Prop) → Prop
structure Ends where
  nx : St → Hp → Prop
  rt : VK
  bk : St → Hp → Prop := fun _ _ => False
  ct : St → Hp → Prop := fun _ _ => False
noncomputable abbrev TS := Ends → St → Hp → Prop
noncomputable def EP (X : Cx) (pins : List (Addr × Obj)) (σ : St) (Q : VK) (u : Value) (s' : Shared) : Prop := ∃ v H', Inv X pins σ H' s' ∧ RelV v u ∧ Q v H'
noncomputable def TP (X : Cx) (pins : List (Addr × Obj)) (σ : St) (Q : Bool → Hp → Prop) (b : Bool) (s' : Shared) : Prop := ∃ H', Inv X pins σ H' s' ∧ Q b H'
noncomputable def AP (X : Cx) (pins : List (Addr × Obj)) (σ : St) (Q : List V → Hp → Prop) (us : List Value) (s' : Shared) : Prop := ∃ vs H', Inv X pins σ H' s' ∧ Vals vs us ∧ Q vs H'
noncomputable def SP (X : Cx) (pins : List (Addr × Obj)) (D : Ends) (f : Flow) (s' : Shared) : Prop :=
  match f with
  | .next => ∃ σ' H', Inv X pins σ' H' s' ∧ D.nx σ' H'
  | .brk => ∃ σ' H', Inv X pins σ' H' s' ∧ D.bk σ' H'
  | .cont => ∃ σ' H', Inv X pins σ' H' s' ∧ D.ct σ' H'
  | .ret u => ∃ v σ' H', Inv X pins σ' H' s' ∧ RelV v u ∧ D.rt v H'
noncomputable def PE (X : Cx) (e : Expr) (t : TE) : Prop :=
  ∀ (pins : List (Addr × Obj)) (s : Shared) (σ : St) (H : Hp) (Q : VK), Inv X pins σ H s → t σ H Q → wpAny (model X.prog X.w) X.A (eval e X.env) (EP X pins σ Q) X.xe s
noncomputable def PT (X : Cx) (e : Expr) (t : TT) : Prop :=
  ∀ (pins : List (Addr × Obj)) (s : Shared) (σ : St) (H : Hp) (Q : Bool → Hp → Prop), Inv X pins σ H s → t σ H Q → wpAny (model X.prog X.w) X.A (isTrue e X.env (eval e X.env)) (TP X pins σ Q) X.xe s
noncomputable def PW (X : Cx) (e : Expr) (t : TT) : Prop :=
  ∀ (whole : Sem Value) (pins : List (Addr × Obj)) (s : Shared) (σ : St) (H : Hp) (Q : Bool → Hp → Prop), Inv X pins σ H s → t σ H Q → wpAny (model X.prog X.w) X.A (isTrue e X.env whole) (TP X pins σ Q) X.xe s
theorem PW.pt {X : Cx} {e : Expr} {t : TT} (h : PW X e t) : PT X e t := h _
noncomputable def PA (X : Cx) (es : List Expr) (t : TA) : Prop :=
  ∀ (pos : Pos) (pins : List (Addr × Obj)) (s : Shared) (σ : St) (H : Hp) (Q : List V → Hp → Prop), Inv X pins σ H s → t σ H Q → wpAny (model X.prog X.w) X.A (spliced (backTo pos (starEach es X.env))) (AP X pins σ Q) X.xe s
noncomputable def PS (X : Cx) (st : Stmt) (t : TS) : Prop :=
  ∀ (pins : List (Addr × Obj)) (s : Shared) (σ : St) (H : Hp) (D : Ends), Inv X pins σ H s → t D σ H → wpAny (model X.prog X.w) X.A (exec st X.env) (SP X pins D) X.xe s
noncomputable def AD (X : Cx) (st : List Stmt) (t : TS) : Prop :=
  ∀ (pins : List (Addr × Obj)) (s : Shared) (σ : St) (H : Hp) (D : Ends), Inv X pins σ H s → t D σ H → wpAny (model X.prog X.w) X.A (execs st X.env) (SP X pins D) X.xe s
theorem fT {α : Type} {t : Sem α} {Q Q' : α → Shared → Prop} {M : Model} {A : Around} {E : Value → Shared → Prop} {s : Shared} (h : wpAny M A t Q E s) (hQ : ∀ a s, Q a s → Q' a s) : wpAny M A t Q' E s := wpAny_mono h hQ fun _ _ x => x
end L2
namespace L2
open PySem PySem.Spec PyProof.Rows
section
variable {X : Cx}
noncomputable def Px (i : Nat) : TE := fun σ H Q => ∃ v, σ[i]? = some (some v) ∧ Q v H
noncomputable def tC (v : V) : TE := fun _ H Q => Q v H
theorem JZ {i : Nat} {x : Str} {pos : Pos} (hN : X.N[i]? = some x) (hv : LX X.env.scope x) (hd : (x == ("__debug__" : Str)) = false := by decide) (hcd : (x == ("__classdict__" : Str)) = false := by decide) : PE X (.Name x pos) (Px i) := by
  intro pins s σ H Q I h
  obtain ⟨v, e, h⟩ := h
  obtain ⟨m, hn, hl⟩ := I.loc
  obtain ⟨u, r, l⟩ := hl i x v hN e hv
  have fin : EP X pins σ Q u s := ⟨v, H, I, r, h⟩
  rcases l with ⟨hk, hm⟩ | ⟨hk, c, hc, hcell⟩
  · exact wpAny_Name (wpAny_loadName_local I.ok.kind hk hn hm fin) hd
  · rcases hk with hk | hk
    · exact wpAny_Name (wpAny_loadName_cell I.ok.kind hk hc hcell fin) hd
    · exact wpAny_Name (wpAny_loadName_free I.ok.kind hk hc hcell fin hcd) hd
theorem J0 {i j pos} : PE X (.Constant (.int i) j pos) (tC (.int i)) := fun _ _ _ H _ I h => wpAny_Constant_int ⟨.int i, H, I.tok _, ⟨_, rfl⟩, h⟩
theorem Ms {b j pos} : PE X (.Constant (.bool b) j pos) (tC (.bl b)) := fun _ _ _ H _ I h => Constant_bool ⟨.bl b, H, I, rfl, h⟩
theorem J1 {j pos} : PE X (.Constant .none j pos) (tC .cj) := fun _ _ _ H _ I h => Constant_none ⟨.cj, H, I, rfl, h⟩
theorem J2 {x j pos} : PE X (.Constant (.str x) j pos) (tC (.str x)) := fun _ _ _ H _ I h => Calls.Constant_str ⟨.str x, H, I.tok _, ⟨_, rfl⟩, h⟩
noncomputable def Gl (X : Cx) (x : Str) : Prop := X.env.kindOf x = some .globalImplicit
theorem G8 {E : Value → Shared → Prop} {pins : List (Addr × Obj)} {s : Shared} {σ : St} {H : Hp} {x : Str} {u : Value} {pos : Pos} {Q : Value → Shared → Prop} (I : Inv X pins σ H s) (hg : Gl X x) (hm : X.mg x = some u) (h : Q u s)
    (hd : (x == ("__debug__" : Str)) = false := by decide) : wpAny (model X.prog X.w) X.A (eval (.Name x pos) X.env) Q E s :=
  Calls.Name_function_global I.ok.kind hg (Calls.loadGlobal_global (by rw [I.ok.glob]; exact I.mod.glob.keeps I.bk) hm h) hd
theorem jC {E : Value → Shared → Prop} {pins : List (Addr × Obj)} {s : Shared} {σ : St} {H : Hp} {x : Str} {u : Value} {pos : Pos} {Q : Value → Shared → Prop} (I : Inv X pins σ H s) (hg : Gl X x) (hm : X.mg x = none) (hv : bootBuiltins x = some u) (h : Q u s)
    (hn : x ≠ "__name__" := by decide) (hd : (x == ("__debug__" : Str)) = false := by decide) : wpAny (model X.prog X.w) X.A (eval (.Name x pos) X.env) Q E s := by
  obtain ⟨mb, h1, h2⟩ := I.mod.blt
  exact Calls.Name_function_global I.ok.kind hg (Calls.loadGlobal_builtin (by rw [I.ok.glob]; exact I.mod.glob.keeps I.bk) hm (by rw [I.ok.blt]; exact h1.keeps I.bk) ((h2 x hn).trans hv) h) hd
theorem G9 {x : Str} {v : V} {u : Value} {pos : Pos} (hg : Gl X x) (hm : X.mg x = none) (hv : bootBuiltins x = some u) (r : RelV v u) (hn : x ≠ "__name__" := by decide) (hd : (x == ("__debug__" : Str)) = false := by decide) : PE X (.Name x pos) (tC v) :=
  fun _ _ _ H _ I h => jC I hg hm hv ⟨v, H, I, r, h⟩ hn hd
variable {a b : Expr} {ta tb : TE} {pos : Pos}
variable {tA OT : TT} {rest : List Expr}
noncomputable def Mt (t u : TT) : TT := fun σ H Q => t σ H fun c H1 => if c = true then u σ H1 Q else Q false H1
noncomputable def RJ (t u : TT) : TT := fun σ H Q => t σ H fun c H1 => if c = true then Q true H1 else u σ H1 Q
theorem Hf (ha : PT X a tA) : PW X (.BoolOp .And [a] pos) tA := by
  intro wh pins s σ H Q I h
  refine isTrue_and (fT (ha pins s σ H Q I h) fun c s1 e => ?_)
  cases c with
  | true => exact isTrue_and_nil e
  | false => exact e
theorem J3 (ha : PT X a tA) : PW X (.BoolOp .Or [a] pos) tA := by
  intro wh pins s σ H Q I h
  refine isTrue_or (fT (ha pins s σ H Q I h) fun c s1 e => ?_)
  cases c with
  | false => exact isTrue_or_nil e
  | true => exact e
theorem J4 (ha : PT X a tA) (hb : PW X (.BoolOp .And (b :: rest) pos) OT) : PW X (.BoolOp .And (a :: b :: rest) pos) (Mt tA OT) := by
  intro wh pins s σ H Q I h
  refine isTrue_and (fT (ha pins s σ H _ I h) fun c s1 ⟨H1, I1, q1⟩ => ?_)
  cases c with
  | true => exact hb wh pins s1 σ H1 Q I1 q1
  | false => exact ⟨H1, I1, q1⟩
theorem Mu (ha : PT X a tA) (hb : PW X (.BoolOp .Or (b :: rest) pos) OT) : PW X (.BoolOp .Or (a :: b :: rest) pos) (RJ tA OT) := by
  intro wh pins s σ H Q I h
  refine isTrue_or (fT (ha pins s σ H _ I h) fun c s1 ⟨H1, I1, q1⟩ => ?_)
  cases c with
  | true => exact ⟨H1, I1, q1⟩
  | false => exact hb wh pins s1 σ H1 Q I1 q1
noncomputable def Mv (ta tb : TE) : TE := fun σ H Q => ta σ H fun x H1 => ∃ c, x = .bl c ∧ if c = true then tb σ H1 Q else Q (.bl false) H1
noncomputable def Py (ta tb : TE) : TE := fun σ H Q => ta σ H fun x H1 => ∃ c, x = .bl c ∧ if c = true then Q (.bl true) H1 else tb σ H1 Q
theorem J5 {op} {t : TE} (h : PE X a t) : PE X (.BoolOp op [a] pos) t := fun pins s σ H Q I hw => BoolOp_one (h pins s σ H Q I hw)
theorem J6 (ha : PE X a ta) (hb : PE X (.BoolOp .And (b :: rest) pos) tb) : PE X (.BoolOp .And (a :: b :: rest) pos) (Mv ta tb) := by
  intro pins s σ H Q I h
  refine BoolOp_and (fT (ha pins s σ H _ I h) fun v s1 ⟨x, H1, I1, r1, q1⟩ => ?_)
  obtain ⟨c, rfl, q1⟩ := q1
  cases r1
  refine wpAny_truthy_bool ?_
  cases c with
  | true => exact hb pins s1 σ H1 Q I1 q1
  | false => exact ⟨.bl false, H1, I1, rfl, q1⟩
theorem Mw (ha : PE X a ta) (hb : PE X (.BoolOp .Or (b :: rest) pos) tb) : PE X (.BoolOp .Or (a :: b :: rest) pos) (Py ta tb) := by
  intro pins s σ H Q I h
  refine BoolOp_or (fT (ha pins s σ H _ I h) fun v s1 ⟨x, H1, I1, r1, q1⟩ => ?_)
  obtain ⟨c, rfl, q1⟩ := q1
  cases r1
  refine wpAny_truthy_bool ?_
  cases c with
  | false => exact hb pins s1 σ H1 Q I1 q1
  | true => exact ⟨.bl true, H1, I1, rfl, q1⟩
noncomputable def Tv (t : TT) (ta tb : TE) : TE := fun σ H Q => t σ H fun c H1 => if c = true then ta σ H1 Q else tb σ H1 Q
theorem Eg {c : Expr} (hc : PT X c tA) (ha : PE X a ta) (hb : PE X b tb) : PE X (.IfExp c a b pos) (Tv tA ta tb) := by
  intro pins s σ H Q I h
  refine wpAny_IfExp (fT (hc pins s σ H _ I h) fun d s1 ⟨H1, I1, q1⟩ => ?_)
  cases d with
  | true => exact ha pins s1 σ H1 Q I1 q1
  | false => exact hb pins s1 σ H1 Q I1 q1
end
end L2
namespace L2
open PySem PySem.Spec PyProof.Rows
noncomputable def mH (K : PySem.W.Frag) (H : Hp) (a : Addr) (xs : List V) : Prop :=
  Rd H a (.lst xs) ∨
    ∃ (o : Obj) (its : Array Value) (n : Nat), K.lookup a = some o ∧ o.cls = .type "list" ∧ o.dict = none ∧ o.data = .seq its n ∧ its.size ≤ sizeLine ∧ Vals xs its.toList
noncomputable def n9 (K : PySem.W.Frag) (H : Hp) (a : Addr) (xs : List V) : Prop :=
  Rd H a (.tup xs) ∨
    ∃ (o : Obj) (its : Array Value) (n : Nat), K.lookup a = some o ∧ o.cls = .type "tuple" ∧ o.data = .seq its n ∧ its.size ≤ sizeLine ∧ Vals xs its.toList
noncomputable def Pz : Value → Option V
  | .none => some .cj
  | .bool b => some (.bl b)
  | .int i _ => some (.int i)
  | .str x _ => some (.str x)
  | .bytes b _ => some (.Mj b)
  | .float b _ => some (.Ml b)
  | .ref a => some (.ref a)
  | .type n => some (.ty n)
  | _ => none
theorem RelV.abs {x : V} {u : Value} (r : RelV x u) : Pz u = some x := by
  cases x with
  | cj => cases r; rfl
  | bl _ => cases r; rfl
  | int _ => obtain ⟨t, rfl⟩ := r; rfl
  | str _ => obtain ⟨t, rfl⟩ := r; rfl
  | Mj _ => obtain ⟨t, rfl⟩ := r; rfl
  | Ml _ => obtain ⟨t, rfl⟩ := r; rfl
  | ref _ => cases r; rfl
  | ty _ => cases r; rfl
theorem RelV.inj {x y : V} {u : Value} (r : RelV x u) (q : RelV y u) : x = y := Option.some.inj (r.abs.symm.trans q.abs)
theorem Vals.inj : ∀ {xs ys : List V} {us : List Value}, Vals xs us → Vals ys us → xs = ys
  | _, _, _, .nil, .nil => rfl
  | _, _, _, .cons r t, .cons r' t' => by rw [r.inj r', Vals.inj t t']
section
variable {X : Cx} {pins : List (Addr × Obj)} {σ : St} {H : Hp} {s : Shared} {a : Addr} {xs ys : List V}
theorem mH.of {K : PySem.W.Frag} (h : H a = some (.lst xs)) : mH K H a xs := .inl (.inl h)
theorem Inv.list (I : Inv X pins σ H s) (h : mH X.K H a xs) : ∃ its : List Value, Vals xs its ∧ PlainL s.heap a its.toArray ∧ xs.length ≤ sizeLine := by
  rcases h with h | ⟨o, its, n, hk, hc, hd, hs, hz, r⟩
  · obtain ⟨z, its, n, r, e⟩ := h.ok I.hok
    exact ⟨its, r, ⟨_, n, e, rfl, rfl, rfl⟩, z⟩
  · refine ⟨its.toList, r, ⟨o, n, I.CZ a o hk, hc, hd, by simpa using hs⟩, ?_⟩
    have e := r.length
    simp only [Array.length_toList] at e
    omega
theorem Inv.tuple (I : Inv X pins σ H s) (h : n9 X.K H a xs) : ∃ its : List Value, Vals xs its ∧ IsTup s.heap a its.toArray ∧ xs.length ≤ sizeLine := by
  rcases h with h | ⟨o, its, n, hk, hc, hs, hz, r⟩
  · obtain ⟨z, its, r, p⟩ := h.ok I.hok
    exact ⟨its, r, p, z⟩
  · refine ⟨its.toList, r, ⟨o, I.CZ a o hk, hc, n, by simpa using hs⟩, ?_⟩
    have e := r.length
    simp only [Array.length_toList] at e
    omega
theorem Inv.pU (I : Inv X pins σ H s) (h : mH X.K H a xs) (h' : mH X.K H a ys) : xs = ys := by
  obtain ⟨its, r, ⟨o, n, e, _, _, d⟩, _⟩ := I.list h
  obtain ⟨its', r', ⟨o', n', e', _, _, d'⟩, _⟩ := I.list h'
  rw [e] at e'; cases e'
  rw [d] at d'
  injection d' with d1 _
  have : its = its' := by simpa using congrArg Array.toList d1
  subst this
  exact r.inj r'
theorem Inv.qX (I : Inv X pins σ H s) (h : n9 X.K H a xs) (h' : n9 X.K H a ys) : xs = ys := by
  obtain ⟨its, r, ⟨o, e, _, n, d⟩, _⟩ := I.tuple h
  obtain ⟨its', r', ⟨o', e', _, n', d'⟩, _⟩ := I.tuple h'
  rw [e] at e'; cases e'
  rw [d] at d'
  injection d' with d1 _
  have : its = its' := by simpa using congrArg Array.toList d1
  subst this
  exact r.inj r'
end
section
variable {X : Cx} {pins : List (Addr × Obj)} {σ : St} {H : Hp} {s : Shared} {E : Value → Shared → Prop}
end
section
variable {X : Cx} {st : Stmt} {rest : List Stmt} {t u : TS} {e : Expr} {te : TE} {pos : Pos}
noncomputable def Mx : TS := fun D σ H => D.nx σ H
noncomputable def My (t u : TS) : TS := fun D σ H => t { D with nx := u D } σ H
theorem Hg : AD X [] Mx := fun _ _ σ H _ I h => wpAny_execs_nil ⟨σ, H, I, h⟩
theorem Eh (h1 : PS X st t) (h2 : AD X rest u) : AD X (st :: rest) (My t u) := by
  intro pins s σ H D I h
  refine wpAny_execs_cons (fT (h1 pins s σ H { D with nx := u D } I h) fun f s1 q => ?_)
  cases f with
  | next =>
    obtain ⟨σ', H', I', q⟩ := q
    exact h2 pins s1 σ' H' D I' q
  | ret v => exact q
  | brk => exact q
  | cont => exact q
theorem Hh (h1 : PS X st t) : AD X [st] t := by
  intro pins s σ H D I h
  refine wpAny_execs_cons (fT (h1 pins s σ H D I h) fun f s1 q => ?_)
  cases f with
  | next => exact wpAny_execs_nil q
  | ret v => exact q
  | brk => exact q
  | cont => exact q
theorem Inv.quiet {pins : List (Addr × Obj)} {σ : St} {H : Hp} {s : Shared} (I : Inv X pins σ H s) : interactive X.env = false := by simp [interactive, I.ok.kind]
noncomputable def Mz (te : TE) : TS := fun D σ H => te σ H fun _ H1 => D.nx σ H1
theorem Hj (he : PE X e te) (hs : swapsWith e none pos.line X.env = pure false := by rfl) : PS X (.Expr e pos) (Mz te) := by
  intro pins s σ H D I h
  exact wpAny_Expr_any (fT (he pins s σ H _ I h) fun v s1 ⟨x, H1, I1, r1, q1⟩ => ⟨σ, H1, I1, q1⟩) I.quiet hs
noncomputable def PB (te : TE) : TS := fun D σ H => te σ H D.rt
theorem J7 (he : PE X e te) : PS X (.Return (some e) pos) (PB te) := by
  intro pins s σ H D I h
  exact wpAny_Return_some (fT (he pins s σ H _ I h) fun v s1 ⟨x, H1, I1, r1, q1⟩ => ⟨x, σ, H1, I1, r1, q1⟩)
noncomputable def PC (c : TT) (t u : TS) : TS := fun D σ H => c σ H fun b H1 => if b = true then t D σ H1 else u D σ H1
theorem MA {c : Expr} {a b : List Stmt} {tc : TT} (hc : PT X c tc) (ha : AD X a t) (hb : AD X b u) : PS X (.If c a b pos) (PC tc t u) := by
  intro pins s σ H D I h
  refine wpAny_If (fT (hc pins s σ H _ I h) fun d s1 ⟨H1, I1, q1⟩ => ?_)
  cases d with
  | true => exact ha pins s1 σ H1 D I1 q1
  | false => exact hb pins s1 σ H1 D I1 q1
end
noncomputable abbrev TG := V → St → Hp → (St → Hp → Prop) → Prop
noncomputable abbrev J8 := List V → St → Hp → (St → Hp → Prop) → Prop
noncomputable def PG (X : Cx) (target : Expr) (t : TG) : Prop :=
  ∀ (pins : List (Addr × Obj)) (s : Shared) (σ : St) (H : Hp) (v : V) (u : Value) (Q : St → Hp → Prop), Inv X pins σ H s → RelV v u → t v σ H Q →
    wpAny (model X.prog X.w) X.A (assign target X.env u) (fun _ s' => ∃ σ' H', Inv X pins σ' H' s' ∧ Q σ' H') X.xe s
noncomputable def OU (X : Cx) (ts : List Expr) (t : J8) : Prop :=
  ∀ (pins : List (Addr × Obj)) (s : Shared) (σ : St) (H : Hp) (vs : List V) (us : List Value) (Q : St → Hp → Prop), Inv X pins σ H s → Vals vs us → t vs σ H Q →
    wpAny (model X.prog X.w) X.A (assignInOrder ((assignEach ts X.env).map (·.2)) us) (fun _ s' => ∃ σ' H', Inv X pins σ' H' s' ∧ Q σ' H') X.xe s
section
variable {X : Cx} {pos : Pos}
noncomputable def vW (i : Nat) : TG := fun v σ H Q => Q (σ.set i (some v)) H
theorem nO {i : Nat} {x : Str} (hN : X.N.Nodup) (hi : X.N[i]? = some x) (hx : Loc X.env.scope x) (hf : X.fn x = true ∨ X.env.scope.names.lookup x = some .local := by first | exact .inl rfl | exact .inr rfl | assumption) : PG X (.Name x pos) (vW i) := by
  intro pins s σ H v u Q I r h
  exact wpAny_assign_Name (yO I hN hi hx r (fun s' I' => ⟨_, H, I', h⟩) hf)
noncomputable def PD : J8 := fun vs σ H Q => vs = [] ∧ Q σ H
noncomputable def MB (t : TG) (u : J8) : J8 := fun vs σ H Q => ∃ v r, vs = v :: r ∧ t v σ H fun σ' H' => u r σ' H' Q
theorem BX : OU X [] PD := by
  intro pins s σ H vs us Q I r h
  obtain ⟨e, h⟩ := h
  subst e
  cases r
  exact assignInOrder_nil ⟨σ, H, I, h⟩
theorem mY {e : Expr} {es : List Expr} {t : TG} {u : J8} (h1 : PG X e t) (h2 : OU X es u)
    (hs : (assignEach (e :: es) X.env).map (·.2) = assign e X.env :: (assignEach es X.env).map (·.2) := by rfl) : OU X (e :: es) (MB t u) := by
  intro pins s σ H vs us Q I r h
  obtain ⟨v, vr, e1, h⟩ := h
  subst e1
  cases r with
  | cons r rr =>
    rw [hs]
    refine assignInOrder_cons (fT (h1 pins s σ H _ _ _ I r h) fun _ s1 ⟨σ1, H1, I1, q1⟩ => ?_)
    exact h2 pins s1 σ1 H1 _ _ Q I1 rr q1
noncomputable def PF (K : PySem.W.Frag) (n : Nat) (t : J8) : TG := fun v σ H Q => ∃ a xs, v = .ref a ∧ n9 K H a xs ∧ xs.length = n ∧ t xs σ H Q
theorem Ei {es : List Expr} {k : Nat} {t : J8} {n : Nat} (hc : X.calm = true) (h : OU X es t)
    (hn : (assignEach es X.env).length = n := by rfl) (hst : (assignEach es X.env).findIdx? (·.1) = none := by rfl) : PG X (.Tuple es k pos) (PF X.K n t) := by
  intro pins s σ H v u Q I r hw
  obtain ⟨a, xs, e1, hq, hl, hw⟩ := hw
  subst e1
  cases r
  obtain ⟨its, rv, ht, hz⟩ := I.tuple hq
  refine assign_Tuple_tuple (I.ok.hd hc) ht (by simp [hn, ← hl, rv.length]) hst fun h' hx => ?_
  have I1 : Inv X pins σ H { s with heap := h' } := I.kept (t' := s.toks) fun b o e => hx b o (Nat.ne_of_lt (Heap.lt_size e)) e
  exact h pins _ σ H xs _ Q I1 (by simpa using rv) hw
noncomputable def J9 (te : TE) (g : TG) : TS := fun D σ H => te σ H fun x H1 => g x σ H1 D.nx
theorem Ka {i : Nat} {x : Str} {e : Expr} {te : TE} {pos' : Pos} (hN : X.N.Nodup) (hi : X.N[i]? = some x) (hx : Loc X.env.scope x) (he : PE X e te) (hs : swapsWith e (some (.Name x pos')) pos.line X.env = pure false := by rfl) (hf : X.fn x = true ∨ X.env.scope.names.lookup x = some .local := by first | exact .inl rfl | exact .inr rfl | assumption) :
    PS X (.Assign [.Name x pos'] e pos) (J9 te (vW i)) := by
  intro pins s σ H D I h
  refine wpAny_Assign_Name (fT (he pins s σ H _ I h) fun v s1 ⟨y, H1, I1, r1, q1⟩ => ?_) hs
  exact yO I1 hN hi hx r1 (fun s2 I2 => ⟨_, H1, I2, q1⟩) hf
end
section
variable {X : Cx} {pos : Pos}
noncomputable def Kc (c : TT) (tb : TS) : TS := fun D σ H => ∃ W : Nat → St → Hp → Prop, (∃ m, W m σ H) ∧ ∀ m σ H, W m σ H →
  c σ H fun b H1 => if b = true then ∃ N : St → Hp → Prop, (∀ σ' H', N σ' H' → ∃ m', m' < m ∧ W m' σ' H') ∧ tb { D with nx := N, ct := N, bk := D.nx } σ H1 else D.nx σ H1
theorem Ej {c : Expr} {body : List Stmt} {tc : TT} {tb : TS} (hp : PassesOwn (model X.prog X.w) X.A X.env X.xe) (hc : PT X c tc) (hb : AD X body tb) : PS X (.While c body [] pos) (Kc tc tb) := by
  intro pins s σ H D I h
  obtain ⟨W, ⟨m0, w0⟩, turn⟩ := h
  refine wpAny_While (codeAny_whileLoop (fun n s' => ∃ σ' H', Inv X pins σ' H' s' ∧ W n σ' H') ?_ m0 ⟨σ, H, I, w0⟩)
  rintro n s1 ⟨σ1, H1, I1, w1⟩
  refine wpAny_passesOwn hp (fT (hc pins s1 σ1 H1 _ I1 (turn n σ1 H1 w1)) fun b s2 ⟨H2, I2, q2⟩ => ?_)
  cases b with
  | true =>
    obtain ⟨N, hN, q2⟩ := q2
    rw [if_pos rfl]
    refine wpAny_passesOwn hp (fT (hb pins s2 σ1 H2 _ I2 q2) fun f s3 q3 => ?_)
    cases f with
    | next =>
      obtain ⟨σ3, H3, I3, n3⟩ := q3
      obtain ⟨m', hm, w3⟩ := hN σ3 H3 n3
      exact ⟨m', hm, σ3, H3, I3, w3⟩
    | cont =>
      obtain ⟨σ3, H3, I3, n3⟩ := q3
      obtain ⟨m', hm, w3⟩ := hN σ3 H3 n3
      exact ⟨m', hm, σ3, H3, I3, w3⟩
    | brk => exact q3
    | ret v => exact q3
  | false =>
    rw [if_neg Bool.false_ne_true]
    exact wpAny_execs_nil ⟨σ1, H2, I2, q2⟩
end
structure It where
  go : Nat → Hp → Prop
  wZ : Nat → Hp → V → Hp → Prop
  stop : Nat → Hp → Prop
noncomputable def oZ (X : Cx) (pins : List (Addr × Obj)) (H : Hp) (b : Addr) : Prop :=
  H b = none ∧ b ≠ X.env.locals ∧ b ∉ X.fs ∧ (b ∈ X.ex ∨ X.s₀.heap.objs.size ≤ b) ∧ (∀ x c, X.env.cells.lookup x = some c → c ≠ b) ∧ ∀ p ∈ X.pn ++ pins, p.1 ≠ b
theorem Inv.tH {X : Cx} {pins : List (Addr × Obj)} {σ : St} {H H' : Hp} {s : Shared} {b : Addr} (I : Inv X pins σ H s) (hb : s.heap.objs.size ≤ b) (hn : H' b = none) : oZ X pins H' b := by
  refine ⟨hn, Nat.ne_of_gt (Nat.lt_of_lt_of_le I.lt hb), I.Pu hb, .inr (Nat.le_trans I.sz hb), fun x c e z => ?_, fun p hp z => ?_⟩
  · obtain ⟨v, q⟩ := I.cell x c e
    exact absurd (Nat.lt_of_lt_of_le q.lt (by rw [z]; exact hb)) (Nat.lt_irrefl _)
  · exact absurd (Nat.lt_of_lt_of_le (Heap.lt_size (I.pin p hp).1) (by rw [z]; exact hb)) (Nat.lt_irrefl _)
structure Turn (P : Program) (w : World) (K : PySem.W.Frag) (tg : Expr) (J : It) (fp : List Addr) (it : Addr) (tn : Nat → Heap → Prop) : Prop where
  mem : it ∈ fp
  obj : ∀ i h, tn i h → ∀ b ∈ fp, ∃ o, h.get? b = some o ∧ ∀ v, o.data ≠ .cell v
  keep : ∀ i h h', tn i h → (∀ b ∈ fp, ∀ o, h.get? b = some o → h'.get? b = some o) → tn i h'
  item : ∀ (X : Cx), X.prog = P → X.w = w → X.K = K → X.calm = true → ∀ (i : Nat) (pins : List (Addr × Obj)) (s : Shared) (σ : St) (H : Hp) (E : Value → Shared → Prop), Inv X pins σ H s → (∀ b ∈ fp, oZ X pins H b) → tn i s.heap → J.go i H →
    wpAny (model P w) X.A (pyNext (.ref it)) (fun r s1 => ∃ u, r = some u ∧
      wpAny (model P w) X.A (letOwnedTupleGo tg (.ref it) u) (fun _ s2 => ∃ x H', Inv X pins σ H' s2 ∧ RelV x u ∧ J.wZ i H x H' ∧ tn (i + 1) s2.heap ∧ ∀ b ∈ fp, H' b = none) E s1) E s
  done : ∀ (X : Cx), X.prog = P → X.w = w → X.K = K → X.calm = true → ∀ (i : Nat) (pins : List (Addr × Obj)) (s : Shared) (σ : St) (H : Hp) (E : Value → Shared → Prop), Inv X pins σ H s → (∀ b ∈ fp, oZ X pins H b) → tn i s.heap → J.stop i H →
    wpAny (model P w) X.A (pyNext (.ref it)) (fun r s1 => r = none ∧ Inv X pins σ H s1) E s
  self : ∀ (A : Around) (i : Nat) (s : Shared) (Q : Value → Shared → Prop) (E : Value → Shared → Prop), tn i s.heap → Q (.ref it) s → wpAny (model P w) A (pyIter (.ref it)) Q E s
noncomputable abbrev TI := St → Hp → (It → Hp → Prop) → Prop
noncomputable def PJ (X : Cx) (pins : List (Addr × Obj)) (σ : St) (tg : Expr) (R : It → Hp → Prop) (itv : Value) (s2 : Shared) : Prop :=
  ∃ (it : Addr) (fp : List Addr) (tn : Nat → Heap → Prop) (J : It) (H' : Hp), itv = .ref it ∧ Inv X pins σ H' s2 ∧ Turn X.prog X.w X.K tg J fp it tn ∧ tn 0 s2.heap ∧ (∀ b ∈ fp, oZ X pins H' b) ∧ R J H'
noncomputable def PI (X : Cx) (tg iter : Expr) (wi : TI) : Prop :=
  ∀ (pins : List (Addr × Obj)) (s : Shared) (σ : St) (H : Hp) (R : It → Hp → Prop), Inv X pins σ H s → wi σ H R →
    wpAny (model X.prog X.w) X.A (eval iter X.env) (fun v s1 => wpAny (model X.prog X.w) X.A (pyIter v) (PJ X pins σ tg R) X.xe s1) X.xe s
theorem vX {M : Model} {A : Around} {E : Value → Shared → Prop} {s : Shared} {tg : Expr} {it : Addr} {u : Value} {o : Obj} {n : String} {vs : Array Value} {Q : Unit → Shared → Prop} (ho : s.heap.get? it = some o) (hc : o.cls = .type n) (hd : o.data = .fields vs)
    (hn : ["enumerate", "zip", "dict_itemiterator", "dict_reverseitemiterator", "odict_iterator", "itertools.zip_longest", "itertools.pairwise"].contains n = false) (hQ : Q () s) : wpAny M A (letOwnedTupleGo tg (.ref it) u) Q E s := by
  unfold letOwnedTupleGo
  cases tg <;> first
    | exact wpAny_pure hQ
    | (cases u <;> first
        | exact wpAny_pure hQ
        | (refine wpAny_bind (wpAny_load ho ?_)
           rw [hc, hd]
           show wpAny M A (if (["enumerate", "zip", "dict_itemiterator", "dict_reverseitemiterator", "odict_iterator", "itertools.zip_longest", "itertools.pairwise"].contains n && vs[0]? == some (rawInt _)) = true then _ else _) Q E s
           rw [if_neg (by intro h; rw [hn, Bool.false_and] at h; cases h)]
           exact wpAny_pure hQ))
noncomputable def GZ (K : PySem.W.Frag) (a : Addr) : It :=
  ⟨fun i H => ∃ xs x, mH K H a xs ∧ xs[i]? = some x, fun i H x H' => H' = H ∧ ∀ xs, mH K H a xs → xs[i]? = some x, fun i H => ∃ xs, mH K H a xs ∧ xs.length ≤ i⟩
noncomputable def OV (K : PySem.W.Frag) (a : Addr) : It :=
  ⟨fun i H => ∃ xs x, n9 K H a xs ∧ xs[i]? = some x, fun i H x H' => H' = H ∧ ∀ xs, n9 K H a xs → xs[i]? = some x, fun i H => ∃ xs, n9 K H a xs ∧ xs.length ≤ i⟩
noncomputable def C3 (lo : Int) (n : Nat) : It := ⟨fun i _ => i < n, fun i H x H' => H' = H ∧ x = .int (lo + i), fun i _ => n ≤ i⟩
theorem C4 {P : Program} {w : World} {K : PySem.W.Frag} {tg : Expr} (a it : Addr) : Turn P w K tg (GZ K a) [it] it (fun i h => h.IsListIter it a i) where
  mem := by simp
  obj := fun i h st b hb => by
    have e : b = it := by simpa using hb
    subst e
    obtain ⟨o, e, c, d⟩ := st
    exact ⟨o, e, fun v z => by rw [d] at z; cases z⟩
  keep := fun i h h' st k => st.at fun o e => k it (by simp) o e
  item := by
    intro X hP hw hK hc i pins s σ H E I hf st hg
    subst hP hw hK
    obtain ⟨xs, x, hq, hx⟩ := hg
    obtain ⟨its, rv, p, hz⟩ := I.list hq
    obtain ⟨u, hu, ru⟩ := rv.get hx
    obtain ⟨f0, f1, f2, f3, f4, f5⟩ := hf it (by simp)
    refine wpAny_pyNext_list_item st p.isList (x := u) (by simpa using hu) fun h' st' sb => ?_
    have I1 : Inv X pins σ H { s with heap := h' } := I.turned (t' := s.toks) (fun b o hb e => (sb.2 b hb).trans e) f0 f1 f3 f4 f5
    obtain ⟨o, e, c, d⟩ := id st'
    exact ⟨u, rfl, vX (s := { s with heap := h' }) e c d (by decide) ⟨x, H, I1, ru, ⟨rfl, fun ys hy => by rw [I.pU hy hq]; exact hx⟩, st', fun b hb => (hf b hb).1⟩⟩
  done := by
    intro X hP hw hK hc i pins s σ H E I hf st hg
    subst hP hw hK
    obtain ⟨xs, hq, hx⟩ := hg
    obtain ⟨its, rv, p, hz⟩ := I.list hq
    obtain ⟨f0, f1, f2, f3, f4, f5⟩ := hf it (by simp)
    have hl := rv.length
    exact wpAny_pyNext_list_end (I.ok.hd hc) st p.isList (by simp; omega) fun h' eb => ⟨rfl, I.turned (t' := s.toks) (fun b o hb e => eb b o hb e) f0 f1 f3 f4 f5⟩
  self := fun _ _ _ _ _ st h => wpAny_pyIter_listiter st h
theorem AE {P : Program} {w : World} {K : PySem.W.Frag} {tg : Expr} (a it : Addr) : Turn P w K tg (OV K a) [it] it (fun i h => h.IsTupleIter it a i) where
  mem := by simp
  obj := fun i h st b hb => by
    have e : b = it := by simpa using hb
    subst e
    obtain ⟨o, e, c, d⟩ := st
    exact ⟨o, e, fun v z => by rw [d] at z; cases z⟩
  keep := fun i h h' st k => st.at fun o e => k it (by simp) o e
  item := by
    intro X hP hw hK hc i pins s σ H E I hf st hg
    subst hP hw hK
    obtain ⟨xs, x, hq, hx⟩ := hg
    obtain ⟨its, rv, p, hz⟩ := I.tuple hq
    obtain ⟨u, hu, ru⟩ := rv.get hx
    obtain ⟨f0, f1, f2, f3, f4, f5⟩ := hf it (by simp)
    refine wpAny_pyNext_tuple_item st (show s.heap.IsTuple a its.toArray from p) (x := u) (by simpa using hu) fun h' st' sb => ?_
    have I1 : Inv X pins σ H { s with heap := h' } := I.turned (t' := s.toks) (fun b o hb e => (sb.2 b hb).trans e) f0 f1 f3 f4 f5
    obtain ⟨o, e, c, d⟩ := id st'
    exact ⟨u, rfl, vX (s := { s with heap := h' }) e c d (by decide) ⟨x, H, I1, ru, ⟨rfl, fun ys hy => by rw [I.qX hy hq]; exact hx⟩, st', fun b hb => (hf b hb).1⟩⟩
  done := by
    intro X hP hw hK hc i pins s σ H E I hf st hg
    subst hP hw hK
    obtain ⟨xs, hq, hx⟩ := hg
    obtain ⟨its, rv, p, hz⟩ := I.tuple hq
    obtain ⟨f0, f1, f2, f3, f4, f5⟩ := hf it (by simp)
    have hl := rv.length
    exact wpAny_pyNext_tuple_end (I.ok.hd hc) st (show s.heap.IsTuple a its.toArray from p) (by simp; omega) fun h' eb => ⟨rfl, I.turned (t' := s.toks) (fun b o hb e => eb b o hb e) f0 f1 f3 f4 f5⟩
  self := fun _ _ _ _ _ st h => wpAny_pyIter_tupleiter st h
theorem AF {P : Program} {w : World} {K : PySem.W.Frag} {tg : Expr} (it : Addr) (lo : Int) (n : Nat) : Turn P w K tg (C3 lo n) [it] it (fun i h => IsRangeIter h it (lo + (i : Nat) * 1) ((n : Int) - (i : Nat)) 1) where
  mem := by simp
  obj := fun i h st b hb => by
    have e : b = it := by simpa using hb
    subst e
    exact ⟨_, st, fun v z => by
      have z' : Data.fields _ = Data.cell v := z
      cases z'⟩
  keep := fun i h h' st k => k it (by simp) _ st
  item := by
    intro X hP hw hK hc i pins s σ H E I hf st hg
    subst hP hw hK
    obtain ⟨f0, f1, f2, f3, f4, f5⟩ := hf it (by simp)
    have W := Walks.range (prog := X.prog) (w := X.w) (I.ok.hd hc) it lo 1 n
    refine W.item i s _ _ hg st fun v h' tk hv st' kk => ?_
    obtain ⟨t, rfl⟩ := hv
    have I1 : Inv X pins σ H { s with heap := h', toks := tk } := I.turned (fun b o hb e => kk b o (by simpa using hb) e) f0 f1 f3 f4 f5
    refine ⟨_, rfl, vX (s := { s with heap := h', toks := tk }) (n := "range_iterator") st' rfl rfl (by decide) ⟨.int (lo + i), H, I1, ⟨t, ?_⟩, ⟨rfl, rfl⟩, st', fun b hb => (hf b hb).1⟩⟩
    rw [Int.mul_one]
  done := by
    intro X hP hw hK hc i pins s σ H E I hf st hg
    subst hP hw hK
    obtain ⟨f0, f1, f2, f3, f4, f5⟩ := hf it (by simp)
    exact wpAny_pyNext_range_end (I.ok.hd hc) st (by have : n ≤ i := hg; omega) fun h' eb => ⟨rfl, I.turned (t' := s.toks) (fun b o hb e => eb b o hb e) f0 f1 f3 f4 f5⟩
  self := fun _ _ _ _ _ st h => wpAny_pyIter_rangeiter st h
end L2
namespace L2
open PySem PySem.Spec PyProof.Rows
section
variable {X : Cx} {tg : Expr}
theorem Ek {pins : List (Addr × Obj)} {σ : St} {H : Hp} {s : Shared} {R : It → Hp → Prop} {E : Value → Shared → Prop} {lo hi : Int} {t u v : Tok} {tk : Nat} (I : Inv X pins σ H s) (h1 : -(2 ^ 62) ≤ lo) (h2 : lo < 2 ^ 62) (h3 : -(2 ^ 62) ≤ hi) (h4 : hi < 2 ^ 62)
    (q : R (C3 lo (hi - lo).toNat) H) : wpAny (model X.prog X.w) X.A (pyIter (.ref s.heap.objs.size)) (PJ X pins σ tg R) E { s with heap := s.heap.push { cls := .type "range", data := .fields #[.int lo t, .int hi u, .int 1 v] }, toks := tk } := by
  refine wpAny_pyIter_range (IsRange.new ..) (small_one h1 h2 h3 h4) ?_
  have I1 : Inv X pins σ H { s with heap := s.heap.push { cls := .type "range", data := .fields #[.int lo t, .int hi u, .int 1 v] }, toks := tk } := I.kept fun b o e => Heap.get?_push_of_some _ e
  refine ⟨(s.heap.push { cls := .type "range", data := .fields #[.int lo t, .int hi u, .int 1 v] }).objs.size, [(s.heap.push { cls := .type "range", data := .fields #[.int lo t, .int hi u, .int 1 v] }).objs.size], _, _, H, rfl,
    I1.kept (t' := tk) fun b o e => Heap.get?_push_of_some _ e, AF _ lo (hi - lo).toNat, ?_, fun b hb => ?_, q⟩
  · have e1 : lo + ((0 : Nat) : Int) * 1 = lo := by simp
    have e2 : (((hi - lo).toNat : Nat) : Int) - ((0 : Nat) : Int) = Builtin.Range.rangeSize lo hi 1 := by rw [rangeSize_one]; split <;> omega
    show IsRangeIter _ _ (lo + ((0 : Nat) : Int) * 1) ((((hi - lo).toNat : Nat) : Int) - ((0 : Nat) : Int)) 1
    rw [e1, e2]
    exact Heap.get?_push_size _ rfl
  · have e : b = (s.heap.push { cls := .type "range", data := .fields #[.int lo t, .int hi u, .int 1 v] }).objs.size := by simpa using hb
    subst e
    exact I1.tH (Nat.le_refl _) (I1.hok.fresh (Nat.le_refl _))
noncomputable def MC (ta : TA) : TI := fun σ H R => ta σ H fun vs H1 => ∃ j : Int, vs = [.int j] ∧ -(2 ^ 62) ≤ j ∧ j < 2 ^ 62 ∧ R (C3 0 j.toNat) H1
theorem C5 {a : Expr} {ta : TA} {p pos : Pos} (hg : Gl X "range") (hm : X.mg "range" = none) (ha : PA X [a] ta) (hs : starEach [a] X.env = [(false, eval a X.env)] := by rfl) : PI X tg (.Call (.Name "range" p) [a] [] pos) (MC ta) := by
  intro pins s σ H R I h
  refine Call_ (jC I hg hm boot_range (PyProof.Rows.callWith_type1 (fT (ha pos pins s σ H _ I h) fun us s1 ⟨vs, H1, I1, r1, q1⟩ => ?_) hs rfl))
  obtain ⟨j, e, q1, q2, q⟩ := q1
  subst e
  cases r1 with
  | cons r rr =>
    cases rr
    obtain ⟨t, rfl⟩ := r
    exact call_range_1 (Ek I1 (by omega) (by omega) q1 q2 (by simpa using q))
noncomputable def PK (wi : TI) (g : TG) (tb : TS) : TS := fun D σ H => wi σ H fun J H1 => ∃ W : Nat → Nat → St → Hp → Prop, (∃ m, W 0 m σ H1) ∧ ∀ i m σ H, W i m σ H →
  (J.stop i H ∧ D.nx σ H) ∨ (J.go i H ∧ ∃ N : St → Hp → Prop, (∀ σ' H', N σ' H' → ∃ m', m' < m ∧ W (i + 1) m' σ' H') ∧ ∀ x H', J.wZ i H x H' → g x σ H' fun σ2 H2 => tb { D with nx := N, ct := N, bk := D.nx } σ2 H2)
noncomputable def qY (fp : List Addr) (h : Heap) : List (Addr × Obj) := fp.filterMap fun b => (h.get? b).map fun o => (b, o)
theorem lB {fp : List Addr} {h : Heap} {b : Addr} {o : Obj} (hb : b ∈ fp) (e : h.get? b = some o) : (b, o) ∈ qY fp h := List.mem_filterMap.mpr ⟨b, hb, by rw [e]; rfl⟩
theorem C6 {fp : List Addr} {h : Heap} {p : Addr × Obj} (hp : p ∈ qY fp h) : p.1 ∈ fp ∧ h.get? p.1 = some p.2 := by
  obtain ⟨b, hb, e⟩ := List.mem_filterMap.mp hp
  cases q : h.get? b with
  | none => rw [q] at e; cases e
  | some o =>
    rw [q] at e
    have e' : (b, o) = p := Option.some.inj e
    subst e'
    exact ⟨hb, q⟩
theorem Inv.pinned {pins : List (Addr × Obj)} {σ : St} {H : Hp} {s : Shared} {fp : List Addr} (I : Inv X pins σ H s) (hf : ∀ b ∈ fp, oZ X pins H b) (ho : ∀ b ∈ fp, ∃ o, s.heap.get? b = some o ∧ ∀ v, o.data ≠ .cell v) : Inv X (pins ++ qY fp s.heap) σ H s :=
  I.wY fun p hp => (List.mem_append.mp hp).elim (fun z => I.pin p (List.mem_append_right _ z)) fun z => by
    obtain ⟨hb, e⟩ := C6 z
    obtain ⟨f0, f1, f2, _⟩ := hf p.1 hb
    obtain ⟨o, e', d⟩ := ho p.1 hb
    rw [e] at e'; cases e'
    exact ⟨e, f0, f1, f2, d⟩
theorem Inv.tK {pins pl : List (Addr × Obj)} {σ : St} {H : Hp} {s : Shared} (I : Inv X (pins ++ pl) σ H s) : Inv X pins σ H s := I.wY fun p hp => I.pin p (List.mem_append_right _ (List.mem_append_left _ hp))
theorem AG {iter : Expr} {body : List Stmt} {wi : TI} {g : TG} {tb : TS} {pos : Pos} (hp : PassesOwn (model X.prog X.w) X.A X.env X.xe) (hc : X.calm = true) (hi : PI X tg iter wi) (hg : PG X tg g) (hb : AD X body tb)
    (hs : ∀ x, foldedSetIterable iter X.env x = pure x := by intro _; rfl) : PS X (.For tg iter body [] pos) (PK wi g tb) := by
  intro pins s σ H D I h
  refine wpAny_For (fT (hi pins s σ H _ I h) fun v s1 h1 => fT h1 fun itv s2 h2 => ?_) hs
  obtain ⟨it, fp, tn, J, H2, e, I2, T, st2, f2, W, ⟨m0, w0⟩, turn⟩ := h2
  subst e
  have Kd : ∀ {H' : Hp}, (∀ b ∈ fp, H' b = none) → ∀ b ∈ fp, oZ X pins H' b := fun hn b hb => ⟨hn b hb, (f2 b hb).2⟩
  refine codeAny_forLoop_any (fun n s' => ∃ i σ' H', Inv X pins σ' H' s' ∧ tn i s'.heap ∧ (∀ b ∈ fp, H' b = none) ∧ W i n σ' H') ?_ m0 ⟨0, σ, H2, I2, st2, fun b hb => (f2 b hb).1, w0⟩
  rintro n s3 ⟨i, σ3, H3, I3, st3, RK, w3⟩
  rcases turn i n σ3 H3 w3 with ⟨stop, qn⟩ | ⟨go, N, hN, step⟩
  · refine wpAny_passesOwn hp (fT (T.done X rfl rfl rfl hc i pins s3 σ3 H3 X.xe I3 (Kd RK) st3 stop) fun r s4 ⟨hr, I4⟩ => ?_)
    subst hr
    exact wpAny_execs_nil ⟨σ3, H3, I4, qn⟩
  · refine wpAny_passesOwn hp (fT (T.item X rfl rfl rfl hc i pins s3 σ3 H3 X.xe I3 (Kd RK) st3 go) fun r s4 ⟨u, hr, h4⟩ => ?_)
    subst hr
    refine wpAny_passesOwn hp (fT h4 fun _ s5 ⟨x, H5, I5, r5, y5, LZ, OW⟩ => ?_)
    have Tw := I5.pinned (Kd OW) (T.obj _ _ LZ)
    refine wpAny_passesOwn hp (fT (hg _ s5 σ3 H5 x u _ Tw r5 (step x H5 y5)) fun _ s6 ⟨σ6, H6, I6, q6⟩ => ?_)
    refine wpAny_passesOwn hp (fT (hb _ s6 σ6 H6 _ I6 q6) fun f s7 q7 => ?_)
    have again : ∀ {σ7 : St} {H7 : Hp}, Inv X (pins ++ qY fp s5.heap) σ7 H7 s7 → N σ7 H7 → ∃ m, m < n ∧ ∃ i σ' H', Inv X pins σ' H' s7 ∧ tn i s7.heap ∧ (∀ b ∈ fp, H' b = none) ∧ W i m σ' H' := fun {σ7 H7} I7 n7 => by
      obtain ⟨m', hm, w7⟩ := hN σ7 H7 n7
      refine ⟨m', hm, i + 1, σ7, H7, I7.tK, T.keep _ _ _ LZ fun b hb o e => (I7.pin (b, o) (List.mem_append_right _ (List.mem_append_right _ (lB hb e)))).1, fun b hb => ?_, w7⟩
      obtain ⟨o, e, d⟩ := T.obj _ _ LZ b hb
      exact (I7.pin (b, o) (List.mem_append_right _ (List.mem_append_right _ (lB hb e)))).2.1
    cases f with
    | next => obtain ⟨σ7, H7, I7, n7⟩ := q7; exact again I7 n7
    | cont => obtain ⟨σ7, H7, I7, n7⟩ := q7; exact again I7 n7
    | brk => obtain ⟨σ7, H7, I7, q7⟩ := q7; exact ⟨σ7, H7, I7.tK, q7⟩
    | ret v => obtain ⟨x7, σ7, H7, I7, r7, q7⟩ := q7; exact ⟨x7, σ7, H7, I7.tK, r7, q7⟩
end
end L2
namespace L2
open PySem PySem.Spec PyProof.Rows
noncomputable abbrev R2 := V → V → Hp → VK → Prop
noncomputable def ly (X : Cx) (f : Value → Value → Sem Value) (r : R2) : Prop :=
  ∀ (pins : List (Addr × Obj)) (s : Shared) (σ : St) (H : Hp) (x y : V) (v u : Value) (Q : VK), Inv X pins σ H s → RelV x v → RelV y u → r x y H Q →
    wpAny (model X.prog X.w) X.A (f v u) (EP X pins σ Q) X.xe s
noncomputable def PL (X : Cx) (f : Value → Sem Value) (r : V → Hp → VK → Prop) : Prop :=
  ∀ (pins : List (Addr × Obj)) (s : Shared) (σ : St) (H : Hp) (x : V) (v : Value) (Q : VK), Inv X pins σ H s → RelV x v → r x H Q →
    wpAny (model X.prog X.w) X.A (f v) (EP X pins σ Q) X.xe s
noncomputable def gU (X : Cx) (f : Value) (r : List V → Hp → VK → Prop) : Prop :=
  ∀ (pins : List (Addr × Obj)) (s : Shared) (σ : St) (H : Hp) (xs : List V) (us : List Value) (Q : VK), Inv X pins σ H s → Vals xs us → r xs H Q →
    wpAny (model X.prog X.w) X.A (call f us) (EP X pins σ Q) X.xe s
noncomputable def PM (X : Cx) (r : V → Hp → (Bool → Hp → Prop) → Prop) : Prop :=
  ∀ (pins : List (Addr × Obj)) (s : Shared) (σ : St) (H : Hp) (x : V) (v : Value) (Q : Bool → Hp → Prop), Inv X pins σ H s → RelV x v → r x H Q →
    wpAny (model X.prog X.w) X.A (truthy v) (TP X pins σ Q) X.xe s
noncomputable def MD (r : R2) (ta tb : TE) : TE := fun σ H Q => ta σ H fun x H1 => tb σ H1 fun y H2 => r x y H2 Q
noncomputable def Tz (r : V → Hp → VK → Prop) (ta : TE) : TE := fun σ H Q => ta σ H fun x H1 => r x H1 Q
noncomputable def rI (C : Int → Int → Prop) (g : Int → Int → V) : R2 := fun x y H Q => ∃ i j, x = .int i ∧ y = .int j ∧ C i j ∧ Q (g i j) H
noncomputable def Jl (g : Int → Int → V) : R2 := fun x y H Q => ∃ i j, x = .int i ∧ y = .int j ∧ Q (g i j) H
noncomputable def rU (g : Int → V) : V → Hp → VK → Prop := fun x H Q => ∃ i, x = .int i ∧ Q (g i) H
section
variable {X : Cx} {a b c : Expr} {ta tb tc : TE} {pos : Pos}
theorem Ke (ha : PE X a ta) (hb : PE X b tb) {pins : List (Addr × Obj)} {s : Shared} {σ : St} {H : Hp} {R : V → V → Hp → Prop} (I : Inv X pins σ H s)
    (h : ta σ H fun x H1 => tb σ H1 fun y H2 => R x y H2) {Q : Value → Shared → Prop} {f : Value → Value → Sem Value}
    (hf : ∀ v u s2 x y H2, Inv X pins σ H2 s2 → RelV x v → RelV y u → R x y H2 → wpAny (model X.prog X.w) X.A (f v u) Q X.xe s2) :
    wpAny (model X.prog X.w) X.A (eval a X.env) (fun v s₁ => wpAny (model X.prog X.w) X.A (eval b X.env) (fun u s₂ => wpAny (model X.prog X.w) X.A (f v u) Q X.xe s₂) X.xe s₁) X.xe s := by
  refine fT (ha pins s σ H _ I h) fun v s1 ⟨x, H1, I1, r1, q1⟩ => ?_
  refine fT (hb pins s1 σ H1 _ I1 q1) fun u s2 ⟨y, H2, I2, r2, q2⟩ => ?_
  exact hf v u s2 x y H2 I2 r1 r2 q2
theorem ME {op : Operator} {r : R2} (ho : ly X (binaryOp op) r) (ha : PE X a ta) (hb : PE X b tb) : PE X (.BinOp a op b pos) (MD r ta tb) := by
  intro pins s σ H Q I h
  exact wpAny_BinOp (Ke ha hb I h fun v u s2 x y H2 I2 rx ry q => ho pins s2 σ H2 x y v u Q I2 rx ry q)
theorem MF {op : UnaryOp} {r : V → Hp → VK → Prop} (ho : PL X (unaryOp op) r) (ha : PE X a ta) : PE X (.UnaryOp op a pos) (Tz r ta) := by
  intro pins s σ H Q I h
  exact UnaryOp_ (fT (ha pins s σ H _ I h) fun v s1 ⟨x, H1, I1, r1, q1⟩ => ho pins s1 σ H1 x v Q I1 r1 q1)
theorem OX {f : Value → Value → Sem Value} {C : Int → Int → Prop} {g : Int → Int → Int}
    (rule : ∀ (i j : Int) (t u : Tok) (s : Shared) (Q : Value → Shared → Prop) (E : Value → Shared → Prop), C i j → Q (.int (g i j) s.toks) { s with toks := s.toks + 1 } → wpAny (model X.prog X.w) X.A (f (.int i t) (.int j u)) Q E s) :
    ly X f (rI C fun i j => .int (g i j)) := by
  intro pins s σ H x y v u Q I rx ry h
  obtain ⟨i, j, rfl, rfl, hc, q⟩ := h
  obtain ⟨t, rfl⟩ := rx
  obtain ⟨t', rfl⟩ := ry
  exact rule i j t t' s _ _ hc ⟨.int (g i j), H, I.tok _, ⟨_, rfl⟩, q⟩
theorem MG {f : Value → Value → Sem Value} {g : Int → Int → Int}
    (rule : ∀ (i j : Int) (t u : Tok) (s : Shared) (Q : Value → Shared → Prop) (E : Value → Shared → Prop), Q (.int (g i j) s.toks) { s with toks := s.toks + 1 } → wpAny (model X.prog X.w) X.A (f (.int i t) (.int j u)) Q E s) :
    ly X f (Jl fun i j => .int (g i j)) := by
  intro pins s σ H x y v u Q I rx ry h
  obtain ⟨i, j, rfl, rfl, q⟩ := h
  obtain ⟨t, rfl⟩ := rx
  obtain ⟨t', rfl⟩ := ry
  exact rule i j t t' s _ _ ⟨.int (g i j), H, I.tok _, ⟨_, rfl⟩, q⟩
theorem Kf {f : Value → Value → Sem Value} {g : Int → Int → Bool}
    (rule : ∀ (i j : Int) (t u : Tok) (s : Shared) (Q : Value → Shared → Prop) (E : Value → Shared → Prop), Q (.bool (g i j)) s → wpAny (model X.prog X.w) X.A (f (.int i t) (.int j u)) Q E s) :
    ly X f (Jl fun i j => .bl (g i j)) := by
  intro pins s σ H x y v u Q I rx ry h
  obtain ⟨i, j, rfl, rfl, q⟩ := h
  obtain ⟨t, rfl⟩ := rx
  obtain ⟨t', rfl⟩ := ry
  exact rule i j t t' s _ _ ⟨.bl (g i j), H, I, rfl, q⟩
noncomputable def PN (i j : Int) : Prop := 0 < j ∧ j < 1073741824
noncomputable def PR (i j : Int) : Prop := 0 ≤ j ∧ j ≤ 1000000 ∧ i.natAbs < 2 ^ 64
noncomputable def Kg (i j : Int) : Prop := (-(2 ^ 64) < i ∧ i < 2 ^ 64) ∨ (-(2 ^ 64) < j ∧ j < 2 ^ 64)
theorem Kg.ok {i j : Int} (h : Kg i j) : IntMulOk i j := by
  rcases h with ⟨h1, h2⟩ | ⟨h1, h2⟩
  · exact .of_left (intBits_le_64 h1 h2)
  · exact .of_right (intBits_le_64 h1 h2)
theorem Kh : ly X (binaryOp .Add) (Jl fun i j => .int (i + j)) := MG fun _ _ _ _ _ _ _ q => add_int q
theorem Kl : ly X (binaryOp .Sub) (Jl fun i j => .int (i - j)) := MG fun _ _ _ _ _ _ _ q => sub_int q
theorem Km : ly X (binaryOp .Mult) (rI Kg fun i j => .int (i * j)) := OX fun _ _ _ _ _ _ _ hc q => mul_int q hc.ok
theorem Hl : ly X (binaryOp .FloorDiv) (rI PN fun i j => .int (i / j)) := OX fun i j _ _ _ _ _ hc q => by
  have h1 : (0 : Int) < j := hc.1
  have h2 : j < 1073741824 := hc.2
  exact floordiv_int (by omega) (by rw [Int.fdiv_eq_ediv_of_nonneg i (by omega)]; exact q) (.inl (PyProof.noPylong_small (by omega)))
theorem Ko : ly X (binaryOp .Mod) (rI (fun _ j => 0 < j) fun i j => .int (i % j)) := OX fun i j _ _ _ _ _ hc q => by
  have h1 : (0 : Int) < j := hc
  exact mod_int' (by omega) (by rw [Int.fmod_eq_emod_of_nonneg i (by omega)]; exact q)
theorem Kp : ly X (binaryOp .Pow) (rI PR fun i j => .int (i ^ j.toNat)) := OX fun _ _ _ _ _ _ _ hc q => pow_int_small hc.1 hc.2.1 hc.2.2 q
theorem TF {f : Value → Sem Value} {g : Int → Int}
    (rule : ∀ (i : Int) (t : Tok) (s : Shared) (Q : Value → Shared → Prop) (E : Value → Shared → Prop), Q (.int (g i) s.toks) { s with toks := s.toks + 1 } → wpAny (model X.prog X.w) X.A (f (.int i t)) Q E s) :
    PL X f (rU fun i => .int (g i)) := by
  intro pins s σ H x v Q I rx h
  obtain ⟨i, rfl, q⟩ := h
  obtain ⟨t, rfl⟩ := rx
  exact rule i t s _ _ ⟨.int (g i), H, I.tok _, ⟨_, rfl⟩, q⟩
theorem Kq : PL X (unaryOp .USub) (rU fun i => .int (-i)) := TF fun _ _ _ _ _ q => neg_int q
end
section
variable {X : Cx} {a b c : Expr} {ta tb tc : TE} {pos : Pos}
theorem w4 {pins : List (Addr × Obj)} {σ : St} {H : Hp} {s : Shared} {Q : VK} {k k' : Bool} (I : Inv X pins σ H s) (q : Q (.bl k) H) (e : k = k') : EP X pins σ Q (.bool k') s := by
  subst e
  exact ⟨.bl k, H, I, rfl, q⟩
theorem MH : ly X (compareOp .Lt) (Jl fun i j => .bl (decide (i < j))) := Kf fun _ _ _ _ _ _ _ q => lt_int q
theorem MJ : ly X (compareOp .Gt) (Jl fun i j => .bl (decide (j < i))) := Kf fun _ _ _ _ _ _ _ q => gt_int q
theorem Jm : ly X (compareOp .GtE) (Jl fun i j => .bl (decide (j ≤ i))) := Kf fun _ _ _ _ _ _ _ q => ge_int q
theorem C7 : ly X (compareOp .In) (fun x y H Q => ∃ i j, x = .str i ∧ y = .str j ∧ Q (.bl (!(Builtin.Str.occurrences j i 0 j.length 1).isEmpty)) H) := by
  intro pins s σ H x y v u Q I rx ry h
  obtain ⟨i, j, rfl, rfl, q⟩ := h
  obtain ⟨t, rfl⟩ := rx
  obtain ⟨t', rfl⟩ := ry
  exact in_str (w4 I q rfl)
theorem Kr : ly X (compareOp .Is) (fun x y H Q => y = .cj ∧ Q (.bl (decide (x = .cj))) H) := by
  intro pins s σ H x y v u Q I rx ry h
  obtain ⟨rfl, q⟩ := h
  cases ry
  refine is_none_gen (w4 I q ?_)
  cases x <;> first
    | (cases rx; rfl)
    | (obtain ⟨t, rfl⟩ := rx; rfl)
theorem BY : ly X (compareOp .IsNot) (fun x y H Q => y = .cj ∧ Q (.bl (!decide (x = .cj))) H) := by
  intro pins s σ H x y v u Q I rx ry h
  obtain ⟨rfl, q⟩ := h
  cases ry
  refine isnot_none_gen (w4 I q ?_)
  cases x <;> first
    | (cases rx; rfl)
    | (obtain ⟨t, rfl⟩ := rx; rfl)
theorem w6 : ly X (compareOp .NotIn) (fun x y H Q => ∃ i j, x = .str i ∧ y = .str j ∧ Q (.bl (!(!(Builtin.Str.occurrences j i 0 j.length 1).isEmpty))) H) := by
  intro pins s σ H x y v u Q I rx ry h
  obtain ⟨i, j, rfl, rfl, q⟩ := h
  obtain ⟨t, rfl⟩ := rx
  obtain ⟨t', rfl⟩ := ry
  exact notIn_str (w4 I q rfl)
theorem AH (b : Expr) {op : CmpOp} (h : op ≠ .In := by decide) (h2 : op ≠ .NotIn := by decide) : behindInMarks op b = false := by
  have e1 : (op == CmpOp.In) = false := by cases op <;> first | rfl | exact absurd rfl h
  have e2 : (op == CmpOp.NotIn) = false := by cases op <;> first | rfl | exact absurd rfl h2
  cases b <;> simp [behindInMarks, e1, e2]
theorem Ho {op : CmpOp} {r : R2} (ho : ly X (compareOp op) r) (ha : PE X a ta) (hb : PE X b tb) (hm : behindInMarks op b = false) : PE X (.Compare a [op] [b] pos) (MD r ta tb) := by
  intro pins s σ H Q I h
  exact wpAny_Compare1 (Ke ha hb I h fun v u s2 x y H2 I2 rx ry q => ho pins s2 σ H2 x y v u Q I2 rx ry q) hm
noncomputable def MK (t : TE) : TT := fun σ H Q => t σ H fun x H' => ∃ k, x = .bl k ∧ Q k H'
theorem Hq {op : CmpOp} {r : R2} (ho : ly X (compareOp op) r) (ha : PE X a ta) (hb : PE X b tb) (hm : behindInMarks op b = false) : PT X (.Compare a [op] [b] pos) (MK (MD r ta tb)) := by
  intro pins s σ H Q I h
  refine wpAny_isTrue_Compare1 (fT (ha pins s σ H _ I h) fun v s1 ⟨x, H1, I1, r1, q1⟩ => fT (hb pins s1 σ H1 _ I1 q1) fun u s2 ⟨y, H2, I2, r2, q2⟩ =>
    fT (ho pins s2 σ H2 x y v u _ I2 r1 r2 q2) fun c s3 ⟨z, H3, I3, r3, k, e, q3⟩ => ?_) hm
  subst e
  cases r3
  exact wpAny_truthy_bool ⟨H3, I3, q3⟩
noncomputable def Hr (K : PySem.W.Frag) (x : V) (H : Hp) (k : Bool) : Prop :=
  match x with
  | .cj => k = false
  | .bl b => k = b
  | .int i => k = (i != 0)
  | .str y => y.length ≤ sizeLine ∧ k = ((y.length : Int) != 0)
  | .Mj y => y.size ≤ sizeLine ∧ k = ((y.size : Int) != 0)
  | .ref p => (∃ xs, mH K H p xs ∧ k = !xs.isEmpty) ∨ (∃ xs, n9 K H p xs ∧ k = !xs.isEmpty) ∨ ∃ kvs, H p = some (.dK kvs) ∧ k = !kvs.isEmpty
  | _ => False
theorem AI {κ : Type} {kvs : List (κ × V)} {vs : List (κ × Value)} (r : KV kvs vs) : (!vs.isEmpty) = !kvs.isEmpty := by
  cases r <;> rfl
theorem tL {xs : List V} {its : List Value} (r : Vals xs its) : (!its.toArray.isEmpty) = !xs.isEmpty := by
  cases r <;> simp
theorem qZ : (sizeLine : Nat) < 2 ^ 63 := by rw [sizeLine_eq]; decide
theorem El : PM X (fun x H Q => ∃ k, Hr X.K x H k ∧ Q k H) := by
  intro pins s σ H x v Q I rx h
  obtain ⟨k, e, q⟩ := h
  have hl := qZ
  have hs : sizeLine = 16777216 := sizeLine_eq
  cases x with
  | cj =>
    cases rx
    have e' : k = false := e
    subst e'
    exact truthy_none ⟨H, I, q⟩
  | bl b =>
    cases rx
    have e' : k = b := e
    subst e'
    exact wpAny_truthy_bool ⟨H, I, q⟩
  | int i =>
    obtain ⟨t, rfl⟩ := rx
    have e' : k = (i != 0) := e
    subst e'
    exact PySem.P.truthy_int ⟨H, I, q⟩
  | str y =>
    obtain ⟨t, rfl⟩ := rx
    obtain ⟨hy, e'⟩ : y.length ≤ sizeLine ∧ k = ((y.length : Int) != 0) := e
    subst e'
    exact PySem.P.truthy_str (by omega) ⟨H, I.tok _, q⟩
  | Mj y =>
    obtain ⟨t, rfl⟩ := rx
    obtain ⟨hy, e'⟩ : y.size ≤ sizeLine ∧ k = ((y.size : Int) != 0) := e
    subst e'
    exact PySem.W.truthy_bytes (by omega) ⟨H, I.tok _, q⟩
  | ref p =>
    cases rx
    have e' : (∃ xs, mH X.K H p xs ∧ k = !xs.isEmpty) ∨ (∃ xs, n9 X.K H p xs ∧ k = !xs.isEmpty) ∨ ∃ kvs, H p = some (.dK kvs) ∧ k = !kvs.isEmpty := e
    rcases e' with ⟨xs, hx, e'⟩ | ⟨xs, hx, e'⟩ | ⟨kvs, hx, e'⟩
    · subst e'
      obtain ⟨its, r, pl, hz⟩ := I.list hx
      have hlen := r.length
      exact wpAny_truthy_list pl.isList (by simp only [List.size_toArray]; omega) ⟨H, I.tok _, by rw [tL r]; exact q⟩
    · subst e'
      obtain ⟨its, r, pl, hz⟩ := I.tuple hx
      have hlen := r.length
      exact truthy_tuple pl (by simp only [List.size_toArray]; omega) ⟨H, I.tok _, by rw [tL r]; exact q⟩
    · subst e'
      obtain ⟨hz, hS, vs, r, m⟩ : kvs.length ≤ sizeLine ∧ (p == sysModules) = false ∧ ∃ vs, KV kvs vs ∧ s.heap.DictOf (dG X.prog X.w) p vs := I.hok p _ hx
      have hlen : kvs.length = vs.length := Paired.length r
      exact wpAny_truthy_dict hS m (by omega) ⟨H, I.tok _, by rw [AI r]; exact q⟩
  | _ => exact (show False from e).elim
theorem Em (ha : PE X a ta) (he : ∀ whole, isTrue a X.env whole = (do let v ← whole; standAt a.pos; holding [v] (truthy v))) :
    PT X a (fun σ H Q => ta σ H fun x H' => ∃ k, Hr X.K x H' k ∧ Q k H') := by
  intro pins s σ H Q I h
  exact isTrue_plain (fT (ha pins s σ H _ I h) fun v s1 ⟨x, H1, I1, r1, q1⟩ => El pins s1 σ H1 x v Q I1 r1 q1) (he _)
theorem AJ : ly X (binaryOp .Add) (fun x y H Q => ∃ i j, x = .str i ∧ y = .str j ∧ i.length + j.length ≤ sizeLine ∧ Q (.str (i ++ j)) H) := by
  intro pins s σ H x y v u Q I rx ry h
  obtain ⟨i, j, rfl, rfl, hz, q⟩ := h
  obtain ⟨t, rfl⟩ := rx
  obtain ⟨t', rfl⟩ := ry
  exact add_str (fun t' tk => ⟨.str (i ++ j), H, I.tok _, ⟨_, rfl⟩, q⟩) hz
theorem vals1 {x : V} {us : List Value} (r : Vals [x] us) : ∃ u, us = [u] ∧ RelV x u := by
  cases r with
  | cons r1 r2 => cases r2; exact ⟨_, rfl, r1⟩
theorem vals2 {x y : V} {us : List Value} (r : Vals [x, y] us) : ∃ u w', us = [u, w'] ∧ RelV x u ∧ RelV y w' := by
  cases r with
  | cons r1 r2 =>
    cases r2 with
    | cons r3 r4 => cases r4; exact ⟨_, _, rfl, r1, r3⟩
theorem C8 (hc : X.calm = true) : gU X (.builtin "max") (fun xs H Q => ∃ i j, xs = [.int i, .int j] ∧ Q (.int (if j > i then j else i)) H) := by
  intro pins s σ H xs us Q I r h
  obtain ⟨i, j, rfl, q⟩ := h
  obtain ⟨u, w', rfl, ⟨t, rfl⟩, ⟨t', rfl⟩⟩ := vals2 r
  refine max_two_ints (I.ok.hd hc) fun h' tk k => ⟨_, H, I.kept k, ?_, q⟩
  by_cases hj : j > i
  · rw [if_pos hj, if_pos hj]; exact ⟨_, rfl⟩
  · rw [if_neg hj, if_neg hj]; exact ⟨_, rfl⟩
theorem C9 (hc : X.calm = true) : gU X (.builtin "min") (fun xs H Q => ∃ i j, xs = [.int i, .int j] ∧ Q (.int (if j < i then j else i)) H) := by
  intro pins s σ H xs us Q I r h
  obtain ⟨i, j, rfl, q⟩ := h
  obtain ⟨u, w', rfl, ⟨t, rfl⟩, ⟨t', rfl⟩⟩ := vals2 r
  refine min_two_ints (I.ok.hd hc) fun h' tk k => ⟨_, H, I.kept k, ?_, q⟩
  by_cases hj : j < i
  · rw [if_pos hj, if_pos hj]; exact ⟨_, rfl⟩
  · rw [if_neg hj, if_neg hj]; exact ⟨_, rfl⟩
end
end L2
namespace L2
open PySem PySem.Spec PyProof.Rows
structure TH (h : Heap) (x dx C : Addr) (mA : Str → Option Value) : Prop where
  obj : h.get? x = some (PySem.W.instObj C dx)
  ns : h.Ns1 dx mA
  ne : dx ≠ x
section
variable {prog : Program} {w : World} {A : Around} {E : Value → Shared → Prop} {s : Shared} {K : PySem.W.Frag} {x dx C f : Addr} {mA : Str → Option Value} {name : Str} {v : Value}
end
theorem sL.some_of {v : V} {o : Option Value} (r : sL (some v) o) : ∃ u, o = some u ∧ RelV v u := by
  cases o with
  | none => exact (show False from r).elim
  | some u => exact ⟨u, rfl, r⟩
section
variable {P : Program} {w : World} {H H' : Hp} {h h' : Heap} {a C dx : Addr} {fs fs' : List (Str × V)}
end
structure TJ (K : PySem.W.Frag) (C : Addr) : Prop where
  pg : PySem.W.plainGet K C Str.empty = true
  hd : PySem.W.hasDictIn K C = true
  po : PySem.W.plainOver K C = true
  sa : PySem.W.findIn K (.ref C) "__setattr__" = some (some (.builtin "object.__setattr__"))
structure V0 (K : PySem.W.Frag) (C : Addr) (f : Str) (v : V) (u : Value) : Prop where
  at_ : PySem.W.findIn K (.ref C) f = some (some u)
  rel : RelV v u
  get : PySem.W.specialIn K u "__get__" = some none
  cp : PySem.W.copiedNames.contains f = false
structure Meth (K : PySem.W.Frag) (C : Addr) (m : Str) (f : Addr) : Prop where
  at_ : PySem.W.findIn K (.ref C) m = some (some (.ref f))
  fn : PySem.W.isFn K (.ref f) = true
  kp : PySem.W.keepIn K (.ref f) = true
section
variable {X : Cx} {pins : List (Addr × Obj)} {σ : St} {H : Hp} {s : Shared} {a C dx : Addr} {fs : List (Str × V)} {f : Str} {v : V} {A : Around} {E : Value → Shared → Prop}
end
section
variable {X : Cx} {o e value : Expr} {f : Str} {pos pos' tpos : Pos} {ta tv : TE}
end
section
variable {X : Cx} {pins : List (Addr × Obj)} {σ : St} {H : Hp} {s : Shared} {A : Around} {E : Value → Shared → Prop} {Q : Value → Shared → Prop} {c : Value} {b : Bool}
inductive tM (K : PySem.W.Frag) (H : Hp) : V → Value → Prop where
  | cj : tM K H .cj (.type "NoneType")
  | bl (x : Bool) : tM K H (.bl x) (.type "bool")
  | int (i : Int) : tM K H (.int i) (.type "int")
  | str (x : Str) : tM K H (.str x) (.type "str")
  | Ml (x : UInt64) : tM K H (.Ml x) (.type "float")
  | lst {a : Addr} {xs : List V} (e : H a = some (.lst xs)) : tM K H (.ref a) (.type "list")
  | jc {a : Addr} {o : Obj} {xs : List V} (e : H a = some (.jc o (.lst xs))) : tM K H (.ref a) (.type "list")
  | tup {a : Addr} {xs : List V} (e : H a = some (.tup xs)) : tM K H (.ref a) (.type "tuple")
  | dK {a : Addr} {kvs : List (Key × V)} (e : H a = some (.dK kvs)) : tM K H (.ref a) (.type "dict")
  | dT {a : Addr} {kvs : List (List Key × V)} (e : H a = some (.dT kvs)) : tM K H (.ref a) (.type "dict")
  | ins {a C dx : Addr} {fs : List (Str × V)} (e : H a = some (.ins C dx fs)) (cl : TJ K C) (ha : PySem.W.findIn K (.ref C) "__class__" = some (some (.builtin "object.__class__")))
      (hn : PySem.W.specialIn K (.builtin "object.__class__") "__get__" = some (some (.builtin "getset_descriptor.__get__"))) (htk : PySem.W.takesIn K (.builtin "object.__class__") = some true)
      (hm : PySem.W.mroIn K C (.type "object") = some true) : tM K H (.ref a) (.ref C)
end
end L2
namespace L2
open PySem PySem.Spec PyProof.Rows
structure jS (k : Nat) (A : Around) : Prop where
  hd : A.handled = none
  dp : A.depth + 3 * k + 5 < recursionLimit
  un : A.units + 16 * k + 600 < cLine
theorem jS.mono {j k : Nat} {A : Around} (r : jS k A) (h : j ≤ k) : jS j A := ⟨r.hd, by have := r.dp; omega, by have := r.un; omega⟩
theorem jS.deeper {k : Nat} {A : Around} (r : jS (k + 1) A) (env : Env) : jS k (A.deeper env) :=
  ⟨r.hd, by have := r.dp; show A.depth + 1 + 3 * k + 5 < _; omega, by have := r.un; show A.units + 3 + 16 * k + 600 < _; omega⟩
theorem jS.in1 {k : Nat} {A : Around} (r : jS (k + 1) A) : jS k A.in1 :=
  ⟨r.hd, by have := r.dp; show A.depth + 3 * k + 5 < _; omega, by have := r.un; show A.units + 1 + 16 * k + 600 < _; omega⟩
theorem jS.depth {k : Nat} {A : Around} (r : jS k A) : A.depth < recursionLimit := by have := r.dp; omega
theorem jS.units {k : Nat} {A : Around} (r : jS k A) : A.units + 64 < cLine := by have := r.un; omega
noncomputable def ML : TA := fun _ H Q => Q [] H
noncomputable def En (ta : TE) (tr : TA) : TA := fun σ H Q => ta σ H fun x H1 => tr σ H1 fun xs H2 => Q (x :: xs) H2
section
variable {X : Cx} {e : Expr} {es : List Expr} {te : TE} {t : TA} {pos : Pos}
theorem Eo : PA X [] ML := fun _ _ _ _ H Q I h => Calls.spliced_nil ⟨[], H, I, .nil, h⟩
theorem w9 (ha : PE X e te) (hr : PA X es t) (hs : starEach (e :: es) X.env = (false, eval e X.env) :: starEach es X.env := by rfl) : PA X (e :: es) (En te t) := by
  intro pos pins s σ H Q I h
  rw [hs]
  show wpAny _ _ (spliced ((false, eval e X.env) :: backTo pos (starEach es X.env))) _ _ s
  refine Calls.spliced_cons (fT (ha pins s σ H _ I h) fun u s1 ⟨x, H1, I1, r1, q1⟩ => ?_)
  exact fT (hr pos pins s1 σ H1 _ I1 q1) fun us s2 ⟨xs, H2, I2, r2, q2⟩ => ⟨x :: xs, H2, I2, .cons r1 r2, q2⟩
noncomputable def PU (t : TA) : TE := fun σ H Q => t σ H fun xs H1 => xs.length ≤ sizeLine ∧ ∀ p, H1 p = none → Q (.ref p) (upd H1 p (.tup xs))
noncomputable def PV (t : TA) : TE := fun σ H Q => t σ H fun xs H1 => xs.length ≤ sizeLine ∧ ∀ p, H1 p = none → Q (.ref p) (upd H1 p (.lst xs))
theorem Ks {x1} (h : PA X es t) : PE X (.Tuple es x1 pos) (PU t) := by
  intro pins s σ H Q I hq
  refine wpAny_Tuple_spliced (fT (h pos pins s σ H _ I hq) fun us s1 ⟨xs, H1, I1, r, z, q⟩ => ⟨by rw [← r.length]; exact z, ?_⟩)
  have hf : H1 s1.heap.objs.size = none := I1.hok.fresh (Nat.le_refl _)
  refine ⟨.ref s1.heap.objs.size, upd H1 s1.heap.objs.size (.tup xs), I1.laid (t' := s1.toks) (fun b u e => Heap.get?_push_of_some _ e) (Nat.le_refl _) ?_, rfl, q _ hf⟩
  exact ⟨z, us, r, ⟨_, Heap.get?_push_size _ rfl, rfl, _, rfl⟩⟩
theorem Ku (h : PA X es t) : PE X (.List es pos) (PV t) := by
  intro pins s σ H Q I hq
  refine wpAny_List_spliced (fT (h pos pins s σ H _ I hq) fun us s1 ⟨xs, H1, I1, r, z, q⟩ => ⟨by rw [← r.length]; exact z, ?_⟩)
  have hf : H1 s1.heap.objs.size = none := I1.hok.fresh (Nat.le_refl _)
  refine ⟨.ref s1.heap.objs.size, upd H1 s1.heap.objs.size (.lst xs), I1.laid (t' := s1.toks) (fun b u e => Heap.get?_push_of_some _ e) (Nat.le_refl _) ?_, rfl, q _ hf⟩
  exact ⟨z, us, 0, r, Heap.get?_push_size _ rfl⟩
end
noncomputable abbrev Sp := List V → Hp → VK → XK → Prop
noncomputable abbrev BZ := List Env → Hp → Shared → XK → Value → Shared → Prop
structure AK (P : Program) (w : World) (K : PySem.W.Frag) (mg : Str → Option Value) (base : Heap) (A : Around) (outer : List Env) (s : Shared) (H : Hp) : Prop where
  frames : A.frames = some outer
  mod : Mod K mg base
  bs : ∀ b o, base.get? b = some o → s.heap.get? b = some o ∧ H b = none
  JW : base.objs.size ≤ s.heap.objs.size
  tG : s.heap.FunFrames base outer
  LY : ∀ b ∈ frs outer, H b = none
  hok : mW P w H s.heap
  bare : AllBare s.gens
noncomputable def CE (outer : List Env) (P : Program) (w : World) (H : Hp) (s : Shared) (Q : VK) (u : Value) (s' : Shared) : Prop :=
  ∃ v H', s'.os = s.os ∧ AllBare s'.gens ∧ Un (frs outer) [] H H' s.heap s'.heap ∧ mW P w H' s'.heap ∧ RelV v u ∧ Q v H'
noncomputable def CR (CX : BZ) (outer : List Env) (P : Program) (w : World) (H : Hp) (s : Shared) (Q : VK) (E : XK) (r : Result) (s' : Shared) : Prop :=
  match r with
  | .ok (.ret u) => CE outer P w H s Q u s'
  | .ok _ => False
  | .error e => CX outer H s E e s'
structure ck (P : Program) (w : World) (K : PySem.W.Frag) (mg : Str → Option Value) (base : Heap) (CX : BZ) (k : Nat) (f : Addr) (fd : FuncData) (ps : List Str) (sp : Sp) : Prop where
  len : ∀ vs H Q E, sp vs H Q E → vs.length = ps.length
  run : ∀ (A : Around) (outer : List Env) (s : Shared) (H : Hp) (args : Args) (us : List Value) (vs : List V) (Q : VK) (E : XK), jS k A → AK P w K mg base A outer s H → BindsTo s fd args (ps.zip us) → Vals vs us → sp vs H Q E →
    codeAny (model P w) A (.call (.ref f) args) (CR CX outer P w H s Q E) s
theorem ck.imp {P : Program} {w : World} {K : PySem.W.Frag} {mg : Str → Option Value} {base : Heap} {CX : BZ} {k : Nat} {f : Addr} {fd : FuncData} {ps : List Str} {sp RL : Sp} (F : ck P w K mg base CX k f fd ps sp)
    (h : ∀ vs H Q E, RL vs H Q E → sp vs H Q E) : ck P w K mg base CX k f fd ps RL :=
  ⟨fun vs H Q E q => F.len vs H Q E (h _ _ _ _ q), fun A outer s H args us vs Q E hr he hb hv hs => F.run A outer s H args us vs Q E hr he hb hv (h _ _ _ _ hs)⟩
theorem AK.in1 {P : Program} {w : World} {K : PySem.W.Frag} {mg : Str → Option Value} {base : Heap} {A : Around} {outer : List Env} {s : Shared} {H : Hp} (e : AK P w K mg base A outer s H) :
    AK P w K mg base A.in1 outer s H := ⟨e.frames, e.mod, e.bs, e.JW, e.tG, e.LY, e.hok, e.bare⟩
section
variable {X : Cx} {pins : List (Addr × Obj)} {σ : St} {H : Hp} {s s' : Shared}
theorem Inv.jd (I : Inv X pins σ H s) : AK X.prog X.w X.K X.mg X.base X.A X.stack s H :=
  ⟨I.ok.frames, I.ok.mod, I.bs, Nat.le_trans I.ok.JW I.sz, I.stack, I.sS, I.hok, I.bare⟩
theorem Inv.after {Q : VK} {u : Value} (I : Inv X pins σ H s) (h : CE X.stack X.prog X.w H s Q u s') : EP X pins σ Q u s' := by
  obtain ⟨v, H', os, bare, un, hok, r, q⟩ := h
  obtain ⟨hh, g, d, t, os'⟩ := s'
  obtain rfl : os' = s.os := os
  exact ⟨v, H', I.call (h' := hh) (g' := g) (d' := d) (t' := t) (ch := []) un hok bare (fun b z => absurd z (by simp)), r, q⟩
end
noncomputable def Binds (K : PySem.W.Frag) (fd : FuncData) (ps : List Str) (ds : List Value) : Prop :=
  ∀ (s : Shared) (us : List Value), K.In s.heap → (us ++ ds).length = ps.length → BindsTo s fd ⟨us, []⟩ (ps.zip (us ++ ds))
theorem Binds.all {K : PySem.W.Frag} {fd : FuncData} {ps : List Str} (h : ∀ us : List Value, us.length = ps.length → bindArgs fd ⟨us, []⟩ = pure (ps.zip us)) : Binds K fd ps [] := fun s us _ hl => by
  rw [List.append_nil] at hl ⊢
  exact .of_eq (h us hl)
section
variable {X : Cx} {CX : BZ} {k : Nat} {f C : Addr} {fd : FuncData} {ps : List Str} {sp : Sp} {V1 : List V} {ds : List Value} {E : XK} {x m : Str} {p pos apos : Pos} {e o : Expr} {es : List Expr} {ta : TE} {t : TA}
structure Mk (K : PySem.W.Frag) (C f : Addr) : Prop where
  makes : PySem.W.makesIn K C = true
  init : PySem.W.findIn K (.ref C) "__init__" = some (some (.ref f))
  fn : PySem.W.isFn K (.ref f) = true
  kp : PySem.W.keepIn K (.ref C) = true
end
section
variable {X : Cx} {CX : BZ} {k : Nat} {f C : Addr} {fd : FuncData} {ps ks : List Str} {sp : Sp} {E : XK} {x m : Str} {p pos apos kpos : Pos} {e o : Expr} {es : List Expr} {kws : List Keyword} {te ta : TE} {t tk : TA} {nm : Option Str}
structure PX (K : PySem.W.Frag) (fd : FuncData) (ps ks : List Str) (g : List Value → List Value → List Value) (gV : List V → List V → List V) : Prop where
  to : ∀ (s : Shared) (us ws : List Value), K.In s.heap → (g us ws).length = ps.length → BindsTo s fd ⟨us, ks.zip ws⟩ (ps.zip (g us ws))
  rel : ∀ {vs : List V} {us : List Value} {zs : List V} {ws : List Value}, Vals vs us → Vals zs ws → Vals (gV vs zs) (g us ws)
variable {g : List Value → List Value → List Value} {gV : List V → List V → List V}
end
structure di (N P : List Str) (sc : Scope) : Prop where
  kind : sc.kind = .function
  co : sc.isCoroutine = false
  gen : sc.isGenerator = false
  nd : N.Nodup
  pre : N.take P.length = P
  par : ∀ x ∈ P, sc.names.lookup x = some .local ∨ sc.names.lookup x = some .cell
  Kv : ∀ y ∈ sc.names, y.2 ≠ .free
theorem vY {kindOf : Str → Option NameKind} {x : Str} : ∀ {binds : List (Str × Value)} {m : Str → Option Value}, (∀ v, (x, v) ∉ binds) → bindL kindOf binds m x = m x
  | [], _, _ => rfl
  | (n, v) :: r, m, h => by
    unfold bindL
    rw [vY fun w hw => h w (List.mem_cons_of_mem _ hw)]
    split
    · have : x ≠ n := by rintro rfl; exact h v List.mem_cons_self
      simp [this]
    · rfl
theorem vZ {kindOf : Str → Option NameKind} {x : Str} : ∀ {binds : List (Str × Value)} {m : Str → Option Value}, (∀ v, (x, v) ∉ binds) → bindC kindOf binds m x = m x
  | [], _, _ => rfl
  | (n, v) :: r, m, h => by
    unfold bindC
    rw [vZ fun w hw => h w (List.mem_cons_of_mem _ hw)]
    split
    · rfl
    · have : x ≠ n := by rintro rfl; exact h v List.mem_cons_self
      simp [this]
theorem v5 {kindOf : Str → Option NameKind} {x : Str} {v : Value} : ∀ {P : List Str} {vs : List Value} {i : Nat} {m : Str → Option Value}, P.Nodup → P[i]? = some x → vs[i]? = some v → kindOf x = some .local →
    bindL kindOf (P.zip vs) m x = some v
  | [], _, _, _, _, h, _, _ => by simp at h
  | _ :: _, [], _, _, _, _, h, _ => by simp at h
  | p :: P, w :: vs, 0, m, nd, h1, h2, hk => by
    simp at h1 h2; subst h1; subst h2
    show bindL kindOf ((p, w) :: P.zip vs) m p = _
    unfold bindL
    rw [vY fun v hv => (List.nodup_cons.mp nd).1 (List.of_mem_zip hv).1, if_pos hk]
    simp
  | p :: P, w :: vs, i + 1, m, nd, h1, h2, hk => by
    show bindL kindOf ((p, w) :: P.zip vs) m x = _
    unfold bindL
    exact v5 (i := i) (List.nodup_cons.mp nd).2 (by simpa using h1) (by simpa using h2) hk
theorem v7 {kindOf : Str → Option NameKind} {x : Str} {v : Value} : ∀ {P : List Str} {vs : List Value} {i : Nat} {m : Str → Option Value}, P.Nodup → P[i]? = some x → vs[i]? = some v → kindOf x ≠ some .local →
    bindC kindOf (P.zip vs) m x = some v
  | [], _, _, _, _, h, _, _ => by simp at h
  | _ :: _, [], _, _, _, _, h, _ => by simp at h
  | p :: P, w :: vs, 0, m, nd, h1, h2, hk => by
    simp at h1 h2; subst h1; subst h2
    show bindC kindOf ((p, w) :: P.zip vs) m p = _
    unfold bindC
    rw [vZ fun v hv => (List.nodup_cons.mp nd).1 (List.of_mem_zip hv).1, if_neg hk]
    simp
  | p :: P, w :: vs, i + 1, m, nd, h1, h2, hk => by
    show bindC kindOf ((p, w) :: P.zip vs) m x = _
    unfold bindC
    exact v7 (i := i) (List.nodup_cons.mp nd).2 (by simpa using h1) (by simpa using h2) hk
noncomputable def start (N : List Str) (vs : List V) : St := vs.map some ++ List.replicate (N.length - vs.length) none
noncomputable def kg (CX : BZ) (P : Program) (w : World) (K : PySem.W.Frag) (mg : Str → Option Value) (base : Heap) (N : List Str) (qual : Str) (scope : Scope) (f : Addr) (cd : Value) (A : Around) (outer : List Env) (s : Shared) (H : Hp) (E : XK) : Cx where
  prog := P
  w := w
  K := K
  mg := mg
  base := base
  A := A.deeper (envOfC qual scope s.heap.objs.size f cd)
  N := N
  s₀ := s
  H₀ := H
  env := envOfC qual scope s.heap.objs.size f cd
  outer := outer
  stack := envOfC qual scope s.heap.objs.size f cd :: outer
  ex := []
  calm := true
  fn := fun _ => true
  pn := []
  xe := fun e s' => wpAny (model P w) (A.deeper (envOfC qual scope s.heap.objs.size f cd)) (leaving (envOfC qual scope s.heap.objs.size f cd) e) (fun _ s'' => CX outer H s E e s'') (fun e' s'' => CX outer H s E e' s'') s'
theorem yQ {sc : Scope} {n : Nat} {x : Str} (h : sc.names.lookup x = some .cell) : ∃ c, (cellsFrom n sc.names []).lookup x = some c := by
  have q := PySem.W.cellsFrom_some sc.names n [] (.inl h)
  exact Option.isSome_iff_exists.mp q
theorem Dc {CX : BZ} {P : Program} {w : World} {K : PySem.W.Frag} {mg : Str → Option Value} {base : Heap} {N ps : List Str} {qual : Str} {scope : Scope} {f : Addr} {cd : Value} {A : Around} {outer : List Env} {s s1 : Shared} {H : Hp} {E : XK} {us : List Value} {vs : List V}
    (S : di N ps scope) (hd : A.handled = none) (e0 : AK P w K mg base A outer s H) (hl : vs.length = ps.length) (r : Vals vs us)
    (x : InCallC s s.heap.objs.size (bindL (envOfC qual scope s.heap.objs.size f cd).kindOf (ps.zip us) fun _ => none) (cellsFrom (s.heap.objs.size + 1) scope.names []) (bindC (envOfC qual scope s.heap.objs.size f cd).kindOf (ps.zip us) fun _ => none) s1) :
    Inv (kg CX P w K mg base N qual scope f cd A outer s H E) [] (start N vs) H s1 := by
  have hpl : ps.length ≤ N.length := by have := congrArg List.length S.pre; rw [List.length_take] at this; omega
  obtain ⟨h1, tk, rfl, hk⟩ := x.done
  have MM : ∀ b : Addr, b ∉ (kg CX P w K mg base N qual scope f cd A outer s H E).ex := fun b z => absurd (show b ∈ ([] : List Addr) from z) (by simp)
  refine ⟨⟨e0.mod, S.kind, rfl, rfl, Nat.le_refl _, fun y z c h1 h2 => ?_, fun y hy => ?_, fun y c _ h => ?_, fun _ => hd, Around.frames_deeper e0.frames, .inr ⟨rfl, rfl⟩, fun b z => absurd z (MM b), e0.bs, e0.JW, fun b _ _ => MM b, fun b z => absurd z (MM b), e0.tG, e0.LY⟩,
    rfl, e0.bare, Un.kept hk, ⟨_, x.toInCall.ns, fun i y v h1 h2 h3 => ?_⟩, fun y c h => ⟨_, x.cell y c h⟩, e0.hok.fresh (Nat.le_refl _), fun y c h => ?_, fun p hp => absurd (show p ∈ ([] : List (Addr × Obj)) from hp) (by simp), e0.hok.kept hk, ?_⟩
  · exact name_of_addr x.apart (PySem.mem_of_lookup h1) (PySem.mem_of_lookup h2)
  · have hy : scope.names.lookup y = some .cell ∨ scope.names.lookup y = some .free := hy
    rcases hy with hy | hy
    · exact yQ hy
    · exact absurd rfl (S.Kv _ (PySem.mem_of_lookup hy))
  · exact Nat.le_of_lt (x.above y c (PySem.mem_of_lookup h))
  · have hi : i < vs.length := by
      unfold start at h2
      by_cases hi : i < vs.length
      · exact hi
      · rw [List.getElem?_append_right (by simpa using hi)] at h2
        rw [List.getElem?_replicate] at h2
        split at h2 <;> cases h2
    have ha : vs[i]? = some v := by
      unfold start at h2
      rw [List.getElem?_append_left (by simpa using hi), List.getElem?_map] at h2
      cases e : vs[i]? with
      | none => rw [e] at h2; cases h2
      | some a => rw [e] at h2; cases h2; rfl
    obtain ⟨u, hu, rv⟩ := r.get ha
    have hp : ps[i]? = some y := by
      rw [← S.pre, List.getElem?_take_of_lt (by omega)]; exact h1
    have RM : ps.Nodup := by rw [← S.pre]; exact S.nd.sublist (List.take_sublist _ _)
    refine ⟨u, rv, ?_⟩
    rcases S.par y (List.mem_of_getElem? hp) with k | k
    · exact .inl ⟨k, v5 RM hp hu k⟩
    · obtain ⟨c, e⟩ := yQ (n := s.heap.objs.size + 1) k
      refine .inr ⟨.inl k, c, e, ?_⟩
      have q := x.cell y c e
      rw [v7 RM hp hu (by show scope.names.lookup y ≠ _; rw [k]; decide)] at q
      exact q
  · exact e0.hok.fresh (Nat.le_of_lt (x.above y c (PySem.mem_of_lookup h)))
  · unfold start
    show _ = N.length
    rw [List.length_append, List.length_map, List.length_replicate]
    omega
theorem MN {CX : BZ} {P : Program} {w : World} {K : PySem.W.Frag} {mg : Str → Option Value} {base : Heap} {k : Nat} {f : Addr} {name qual : Str} {params : Arguments} {body : List Stmt} {scope : Scope} {dV kV doc pm cdv ct oc : Value} {an od : Option Addr}
    {osl : Array (Option Value)} {N ps : List Str} {sp : Sp} (lk : K.lookup f = some ⟨oc, od, .func (PySem.W.fnOf name qual params body scope dV kV doc pm an cdv ct), osl⟩) (hcd : PySem.W.codeIn K cdv qual = true) (S : di N ps scope)
    (len : ∀ vs H Q E, sp vs H Q E → vs.length = ps.length)
    (hbody : ∀ (A : Around) (outer : List Env) (s : Shared) (H : Hp) (vs : List V) (Q : VK) (E : XK), jS k (A.deeper (envOfC qual scope s.heap.objs.size f cdv)) → sp vs H Q E →
      ∃ t, AD (kg CX P w K mg base N qual scope f cdv A outer s H E) body t ∧ t { nx := fun _ H' => Q .cj H', rt := Q } (start N vs) H) :
    ck P w K mg base CX (k + 1) f (PySem.W.fnOf name qual params body scope dV kV doc pm an cdv ct) ps sp := by
  refine ⟨len, fun A outer s H args us vs Q E hr e0 hb r L0 => ?_⟩
  have hl := len _ _ _ _ L0
  have KX : K.In s.heap := e0.mod.Pp.keeps fun b o e => (e0.bs b o e).1
  have lim : s.heap.NoLimit := e0.mod.nolimit.keeps fun b o e => (e0.bs b o e).1
  have hkind : ∀ y ∈ ps.zip us, scope.names.lookup y.1 = some .local ∨ (scope.names.lookup y.1 = some .cell ∧ ((cellsFrom (s.heap.objs.size + 1) scope.names []).lookup y.1).isSome = true) := fun ⟨n, v⟩ hy => by
    rcases S.par n (List.of_mem_zip hy).1 with q | q
    · exact .inl q
    · exact .inr ⟨q, PySem.W.cellsFrom_some _ _ _ (.inl q)⟩
  refine codeAny_call_function hr.depth (KX _ _ lk) rfl S.co S.gen rfl (PySem.W.codeRec_of KX hcd) (hb _ _ _ _ ?_)
  refine wpAny_newFunctionEnv_cells S.kind hkind fun env he s1 x => ?_
  subst he
  refine ⟨lim.keeps x.toInCall.keep, codeAny_func ?_⟩
  obtain ⟨t, ht, hq⟩ := hbody A outer s H vs Q E (hr.deeper _) L0
  have I : Inv (kg CX P w K mg base N qual scope f cdv A outer s H E) [] (start N vs) H s1 := Dc S hr.hd e0 hl r x
  refine wpAny_mono (ht [] s1 (start N vs) H _ I hq) (fun fl s' hs => ?_) fun e s' hs => hs
  have fin : ∀ {σ' : St} {H' : Hp} {v : V} {u : Value}, Inv (kg CX P w K mg base N qual scope f cdv A outer s H E) [] σ' H' s' → RelV v u → Q v H' → CE outer P w H s Q u s' :=
    fun {σ' H' v u} J rv q => ⟨v, H', J.os, J.bare, J.base, J.hok, rv, q⟩
  cases fl with
  | ret u =>
    obtain ⟨v, σ', H', J, rv, q⟩ := hs
    exact fin J rv q
  | next =>
    obtain ⟨σ', H', J, q⟩ := hs
    exact fin (v := V.cj) (u := Value.none) J rfl q
  | brk =>
    obtain ⟨_, _, _, q⟩ := hs
    exact False.elim q
  | cont =>
    obtain ⟨_, _, _, q⟩ := hs
    exact False.elim q
end L2
namespace L2
open PySem PySem.Spec PyProof.Rows
section
variable {X : Cx} {x : Str} {p pos : Pos} {e : Expr} {es : List Expr} {t : TA} {id T : String} {r : List V → Hp → VK → Prop}
noncomputable def RN (r : List V → Hp → VK → Prop) (t : TA) : TE := fun σ H Q => t σ H fun vs H1 => r vs H1 Q
theorem Ep (hc : gU X (.builtin id) r) (hg : Gl X x) (hm : X.mg x = none) (hv : bootBuiltins x = some (.builtin id)) (ha : PA X (e :: es) t) (hn : x ≠ "__name__" := by decide) (hdb : (x == ("__debug__" : Str)) = false := by decide)
    (he : starEach (e :: es) X.env = (false, eval e X.env) :: starEach es X.env := by rfl) (hpl : (backTo pos (starEach es X.env)).any (·.1) = false := by rfl) : PE X (.Call (.Name x p) (e :: es) [] pos) (RN r t) := by
  intro pins s σ H Q I h
  refine wpAny_Call_Name_kw (jC I hg hm hv ?_ hn hdb)
  exact PyProof.Rows.callWith_builtin1 (fT (ha pos pins s σ H _ I h) fun us s1 ⟨vs, H1, I1, r1, q1⟩ => hc pins s1 σ H1 vs us Q I1 r1 q1) he hpl
theorem De (hc : gU X (.type T) r) (hg : Gl X x) (hm : X.mg x = none) (hv : bootBuiltins x = some (.type T)) (ha : PA X (e :: es) t) (hn : x ≠ "__name__" := by decide) (hdb : (x == ("__debug__" : Str)) = false := by decide)
    (he : starEach (e :: es) X.env = (false, eval e X.env) :: starEach es X.env := by rfl) (hpl : (backTo pos (starEach es X.env)).any (·.1) = false := by rfl) : PE X (.Call (.Name x p) (e :: es) [] pos) (RN r t) := by
  intro pins s σ H Q I h
  refine wpAny_Call_Name_kw (jC I hg hm hv ?_ hn hdb)
  exact PyProof.Rows.callWith_type1 (fT (ha pos pins s σ H _ I h) fun us s1 ⟨vs, H1, I1, r1, q1⟩ => hc pins s1 σ H1 vs us Q I1 r1 q1) he hpl
end
end L2
namespace HT
open PySem PyProof.Rows
section
open PySem.SeqAt
open PySem.AutoSeq1 (wpAny_loadPart')
open PySem.MeetsSeq PySem.MeetsSeq2 PySem.MeetsSeq3
end
section
variable {prog : Program} {w : World} {A : Around} {E : Value → Shared → Prop} {s : Shared}
theorem Hs {t b : Addr} {vs ws : List Value} {Q : Value → Shared → Prop} (ht : IsTup s.heap t vs.toArray) (hb : IsTup s.heap b ws.toArray) (hv : vs ≠ [])
    (h1 : ws = [] → Q (.ref t) s) (h2 : ws ≠ [] → Q (.ref s.heap.objs.size) { s with heap := s.heap.push { cls := .type "tuple", data := .seq (vs ++ ws).toArray } })
    (hsz : vs.length + ws.length ≤ sizeLine) : wpAny (model prog w) A (binaryOp .Add (.ref t) (.ref b)) Q E s := by
  obtain ⟨⟨cls, dd, data, sl⟩, ho, hc, n, hd⟩ := id ht
  obtain ⟨⟨MO, dd2, data2, sl2⟩, ho2, hc2, n2, hd2⟩ := id hb
  simp only at hc hd hc2 hd2
  subst hc hd hc2 hd2
  have e : vs.toArray ++ ws.toArray = (vs ++ ws).toArray := by simp
  by_cases hw : ws = []
  · exact concat_meets ⟨_, ho, rfl⟩ ⟨_, ho2, rfl⟩ noFill_tuple_add seq_tuple_add PySem.F.slot_tuple_add PySem.F.entry_tuple_add (PySem.F.args_tuple_add_2 _ _)
      (tuple_addW1 t b vs.toArray ws.toArray n n2 dd dd2 sl sl2 (by simpa using hv) (by simp [hw])) ⟨ho, ho2, h1 hw⟩
  · refine concat_meets ⟨_, ho, rfl⟩ ⟨_, ho2, rfl⟩ noFill_tuple_add seq_tuple_add PySem.F.slot_tuple_add PySem.F.entry_tuple_add (PySem.F.args_tuple_add_2 _ _)
      (tuple_addW2 t b vs.toArray ws.toArray n n2 dd dd2 sl sl2 (by simpa using hv) (by simpa using hw) (by rw [List.size_toArray, List.size_toArray]; exact hsz)) ⟨ho, ho2, ?_⟩
    rw [e]
    exact h2 hw
noncomputable def gC (n d : Nat) : Option Int → Nat
  | none => d
  | some v => if v < 0 then (v + (n : Int)).toNat else min v.toNat n
theorem mZ (n d : Nat) : gC n d none = d := rfl
theorem pV (n d k : Nat) : gC n d (some (k : Int)) = min k n := by
  show (if (k : Int) < 0 then ((k : Int) + (n : Int)).toNat else min (k : Int).toNat n) = min k n
  rw [if_neg (by omega), Int.toNat_natCast]
theorem Kw (n d : Nat) (hd : d ≤ n) (o : Option Int) : gC n d o ≤ n := by
  cases o with
  | none => exact hd
  | some v =>
    show (if v < 0 then (v + (n : Int)).toNat else min v.toNat n) ≤ n
    by_cases hv : v < 0
    · rw [if_pos hv]; omega
    · rw [if_neg hv]; exact Nat.min_le_right _ _
theorem B0 (v : Int) (n d : Nat) : (if v < 0 then max (v + (n : Int)) 0 else min v (n : Int)) = ((gC n d (some v) : Nat) : Int) := by
  show (if v < 0 then max (v + (n : Int)) 0 else min v (n : Int)) = (((if v < 0 then (v + (n : Int)).toNat else min v.toNat n) : Nat) : Int)
  by_cases hv : v < 0
  · simp only [if_pos hv]; omega
  · simp only [if_neg hv]; omega
theorem AL (lo hi : Option Int) (n : Nat) : Builtin.Slice.sliceAdjust lo hi 1 (n : Int) = (((gC n 0 lo : Nat) : Int), ((gC n n hi : Nat) : Int)) := by
  have h1 : ¬ ((1 : Int) < 0) := by omega
  unfold Builtin.Slice.sliceAdjust
  simp only [h1, if_false]
  refine Prod.ext ?_ ?_
  · cases lo with
    | none => rfl
    | some v => exact B0 v n 0
  · cases hi with
    | none => rfl
    | some v => exact B0 v n n
theorem AM (i j : Nat) : Builtin.Slice.slicePlaces (i : Int) (j : Int) 1 = j - i := by
  unfold Builtin.Slice.slicePlaces
  have h1 : (1 : Int) > 0 := by omega
  simp only [h1, if_true, Int.ediv_one]
  split <;> omega
theorem tN {v : Value} {o : Option Int} {Q : Option Int → Shared → Prop} (p : IsPart v o) (h : Q o s) : wpAny (model prog w) A (Builtin.Slice.slicePartIndex v) Q E s := by
  cases p with
  | none => exact slicePart_none h
  | int i t => exact slicePart_int h
theorem q4 {sl : Addr} {vl vu : Value} {lo hi : Option Int} {n : Nat} {Q : Int × Int × Nat → Shared → Prop} (hs : s.heap.IsSliceOf sl vl vu .none) (pl : IsPart vl lo) (pu : IsPart vu hi)
    (h : Q (((gC n 0 lo : Nat) : Int), 1, gC n n hi - gC n 0 lo) s) : wpAny (model prog w) A (Builtin.Slice.sliceApplied (.ref sl) (pure (n : Int))) Q E s := by
  obtain ⟨os, hos, hcs, hds⟩ := id hs
  unfold Builtin.Slice.sliceApplied Builtin.Slice.sliceFields
  refine wpAny_bind (wpAny_bind (wpAny_field hos hds (x := vl) rfl (wpAny_bind (wpAny_field hos hds (x := vu) rfl (wpAny_bind (wpAny_field hos hds (x := .none) rfl (wpAny_pure ?_)))))))
  refine wpAny_bind (slicePart_none ?_)
  show wpAny _ _ (if ((1 : Int) == 0) = true then _ else _) _ _ s
  rw [if_neg (by decide)]
  refine wpAny_bind (tN pl (wpAny_bind (tN pu (wpAny_bind (wpAny_pure ?_)))))
  show wpAny _ _ (match Builtin.Slice.sliceAdjust lo hi 1 (n : Int) with | (lo, hi) => pure (lo, (1 : Int), Builtin.Slice.slicePlaces lo hi 1)) _ _ s
  rw [AL lo hi n]
  show wpAny _ _ (pure (((gC n 0 lo : Nat) : Int), (1 : Int), Builtin.Slice.slicePlaces ((gC n 0 lo : Nat) : Int) ((gC n n hi : Nat) : Int) 1)) _ _ s
  rw [AM]
  exact wpAny_pure h
theorem Er (xs : Array Value) (i k : Nat) : ((List.range k).filterMap fun (m : Nat) => xs[((i : Int) + (m : Int) * 1).toNat]?).toArray = ((xs.toList.drop i).take k).toArray := by
  have e : (fun (m : Nat) => xs[((i : Int) + (m : Int) * 1).toNat]?) = fun m => xs[i + m]? := by
    funext m
    have : ((i : Int) + (m : Int) * 1).toNat = i + m := by omega
    rw [this]
  rw [e]
  have := pick_run xs i k
  rw [List.filterMap_map] at this
  have e2 : ((fun x => xs[x]?) ∘ fun x => i + x) = fun m => xs[i + m]? := rfl
  rw [e2] at this
  rw [this]
theorem pW {t sl : Addr} {items : Array Value} {vl vu : Value} {lo hi : Option Int} {Q : Value → Shared → Prop} (ht : IsTup s.heap t items) (hs : s.heap.IsSliceOf sl vl vu .none) (pl : IsPart vl lo) (pu : IsPart vu hi)
    (hw : ¬ (gC items.size 0 lo = 0 ∧ gC items.size items.size hi = items.size))
    (h : Q (.ref s.heap.objs.size) { s with heap := s.heap.push { cls := .type "tuple", data := .seq ((items.toList.drop (gC items.size 0 lo)).take (gC items.size items.size hi - gC items.size 0 lo)).toArray } })
    (hsz : items.size ≤ sizeLine) : wpAny (model prog w) A (getItem (.ref t) (.ref sl)) Q E s := by
  have B3 : sizeOk (.seq ((items.toList.drop (gC items.size 0 lo)).take (gC items.size items.size hi - gC items.size 0 lo)).toArray) := by
    show ((items.toList.drop (gC items.size 0 lo)).take (gC items.size items.size hi - gC items.size 0 lo)).toArray.size ≤ sizeLine
    rw [List.size_toArray, List.length_take, List.length_drop, Array.length_toList]
    omega
  have hj : gC items.size items.size hi ≤ items.size := Kw _ _ (Nat.le_refl _) hi
  obtain ⟨os, hos, hcs, hds⟩ := id hs
  have TL : s.TypeIs (.ref sl) "slice" := ⟨os, hos, hcs⟩
  unfold getItem
  try with_reducible refine wpAny_holding ?_
  first | refine wpAny_bind (wpAny_pure ?_) | skip
  refine wpAny_bind (wpAny_sequenceKey ht.typeIs (by decide) ?_)
  refine wpAny_bind (wpAny_callSpecial?_slot (name := Str.ofString "__getitem__") ht.typeIs PyProof.Rows.slot_tuple_getitem
    (wpAny_call_entry PyProof.Rows.slot_tuple_getitem ht.typeIs entry_tuple_getitem ?_ (args_tuple_getitem _ _)))
  show wpAny _ _ (Builtin.Tuple.tupleItemsOf (.ref t) >>= _) _ _ s
  refine wpAny_bind (tupleItemsOf_ ht ?_)
  refine wpAny_bind (wpAny_typeOf TL ?_)
  rw [if_pos (by decide)]
  refine wpAny_bind (q4 hs pl pu ?_)
  have hno : ¬ ((((gC items.size 0 lo : Nat) : Int) == 0 && (1 : Int) == 1 && (gC items.size items.size hi - gC items.size 0 lo) == items.size) = true) := by
    intro q
    rw [Bool.and_eq_true, Bool.and_eq_true] at q
    have q1 : ((gC items.size 0 lo : Nat) : Int) = 0 := eq_of_beq q.1.1
    have q2 : gC items.size items.size hi - gC items.size 0 lo = items.size := eq_of_beq q.2
    exact hw ⟨by omega, by omega⟩
  show wpAny _ _ (if (((gC items.size 0 lo : Nat) : Int) == 0 && (1 : Int) == 1 && (gC items.size items.size hi - gC items.size 0 lo) == items.size) = true then _ else _) _ _ s
  rw [if_neg hno, Er]
  first
    | exact wpAny_bind (m := Builtin.Tuple.tupleExact _) (wpAny_newObj_type (wpAny_pure ⟨_, rfl, wpAny_pure h⟩) B3)
    | exact wpAny_bind (m := Builtin.Tuple.tupleExact _) (wpAny_newObj_type (wpAny_bind (wpAny_pure (wpAny_pure ⟨_, rfl, wpAny_pure h⟩))) B3)
    | exact wpAny_bind (wpAny_bind (m := Builtin.Tuple.tupleExact _) (wpAny_newObj_type (wpAny_pure (wpAny_pure ⟨_, rfl, wpAny_pure h⟩)) B3))
    | exact wpAny_bind (wpAny_bind (m := Builtin.Tuple.tupleExact _) (wpAny_newObj_type (wpAny_pure ⟨_, rfl, wpAny_pure h⟩) B3))
end
end HT
namespace L2
open PySem PySem.Spec PyProof.Rows
noncomputable abbrev TO := St → Hp → (Option Int → Hp → Prop) → Prop
noncomputable def PO (X : Cx) (e : Option Expr) (t : TO) : Prop :=
  ∀ (pins : List (Addr × Obj)) (s : Shared) (σ : St) (H : Hp) (Q : Option Int → Hp → Prop), Inv X pins σ H s → t σ H Q →
    wpAny (model X.prog X.w) X.A (evalPart e X.env) (fun u s' => ∃ o H', Inv X pins σ H' s' ∧ IsPart u o ∧ Q o H') X.xe s
noncomputable def Ht : TO := fun _ H Q => Q none H
noncomputable def MP (t : TE) : TO := fun σ H Q => t σ H fun x H1 => ∃ i, x = .int i ∧ Q (some i) H1
section
variable {X : Cx} {e : Expr} {te : TE} {lo hi : Option Expr} {tl th : TO} {pos p2 : Pos}
theorem Hu : PO X none Ht := by
  intro pins s σ H Q I h
  rw [evalPart_none]
  exact wpAny_pure ⟨none, H, I, .none, h⟩
theorem Hv (h : PE X e te) : PO X (some e) (MP te) := by
  intro pins s σ H Q I hw
  rw [evalPart_some]
  refine fT (h pins s σ H _ I hw) fun u s1 ⟨x, H1, I1, r1, q1⟩ => ?_
  obtain ⟨i, rfl, q⟩ := q1
  obtain ⟨t, rfl⟩ := r1
  exact ⟨some i, H1, I1, .int i t, q⟩
noncomputable def OY (X : Cx) (r : V → Option Int → Option Int → Hp → VK → Prop) : Prop :=
  ∀ (pins : List (Addr × Obj)) (s : Shared) (σ : St) (H : Hp) (x : V) (v vl vu : Value) (lo hi : Option Int) (sl : Addr) (Q : VK), Inv X pins σ H s → RelV x v → s.heap.IsSliceOf sl vl vu .none → IsPart vl lo → IsPart vu hi → r x lo hi H Q →
    ∃ T id, typeLookup (.type T) "__getitem__" = pure (some (.builtin id)) ∧ s.TypeIs v T ∧ wpAny (model X.prog X.w) X.A (getItem v (.ref sl)) (EP X pins σ Q) X.xe s
noncomputable def TM (r : V → Option Int → Option Int → Hp → VK → Prop) (te : TE) (tl th : TO) : TE := fun σ H Q => te σ H fun x H1 => tl σ H1 fun l H2 => th σ H2 fun u H3 => r x l u H3 Q
theorem Es {r : V → Option Int → Option Int → Hp → VK → Prop} (hr : OY X r) (he : PE X e te) (hl : PO X lo tl) (hu : PO X hi th) : PE X (.Subscript e (.Slice lo hi none p2) pos) (TM r te tl th) := by
  intro pins s σ H Q I h
  refine Subscript_ (fT (he pins s σ H _ I h) fun v s1 ⟨x, H1, I1, r1, q1⟩ => ?_)
  refine wpAny_Slice (fT (hl pins s1 σ H1 _ I1 q1) fun vl s2 ⟨l, H2, I2, pl, q2⟩ => fT (hu pins s2 σ H2 _ I2 q2) fun vu s3 ⟨u, H3, I3, pu, q3⟩ => ?_)
  rw [evalPart_none]
  refine wpAny_pure ?_
  have I4 : Inv X pins σ H3 { s3 with heap := s3.heap.push { cls := .type "slice", data := .fields #[vl, vu, .none] } } := I3.kept (t' := s3.toks) fun b ob q => Heap.get?_push_of_some _ q
  obtain ⟨T, id, hT, ht, hg⟩ := hr pins { s3 with heap := s3.heap.push { cls := .type "slice", data := .fields #[vl, vu, .none] } } σ H3 x v vl vu l u s3.heap.objs.size Q I4 r1 (Heap.IsSliceOf.new ..) pl pu q3
  show wpAny (model X.prog X.w) X.A (subscriptTail e (.Slice lo hi none p2) v (.ref s3.heap.objs.size)) (EP X pins σ Q) X.xe { s3 with heap := s3.heap.push { cls := .type "slice", data := .fields #[vl, vu, .none] } }
  exact tail_any (ops := [.ref s3.heap.objs.size, v]) ht hT hg (by with_unfolding_all rfl)
noncomputable def yS (xs : List V) (lo hi : Option Int) : List V := (xs.drop (HT.gC xs.length 0 lo)).take (HT.gC xs.length xs.length hi - HT.gC xs.length 0 lo)
theorem rR (xs : List V) (lo hi : Option Int) : (yS xs lo hi).length ≤ xs.length := by
  unfold yS
  rw [List.length_take, List.length_drop]
  omega
noncomputable def PY (K : PySem.W.Frag) : V → Option Int → Option Int → Hp → VK → Prop := fun x lo hi H Q => ∃ a xs, x = .ref a ∧ n9 K H a xs ∧
  ¬ (HT.gC xs.length 0 lo = 0 ∧ HT.gC xs.length xs.length hi = xs.length) ∧ ∀ p, H p = none → Q (.ref p) (upd H p (.tup (yS xs lo hi)))
theorem Ky : OY X (PY X.K) := by
  intro pins s σ H x v vl vu lo hi sl Q I rx hs pl pu h
  obtain ⟨a, xs, rfl, hx, hw, q⟩ := h
  cases rx
  obtain ⟨its, r, ht, hz⟩ := I.tuple hx
  have hlen : its.toArray.size = xs.length := by rw [List.size_toArray]; exact r.length.symm
  refine ⟨"tuple", _, PyProof.Rows.slot_tuple_getitem.lookup, ht.typeIs, ?_⟩
  refine HT.pW ht hs pl pu (by rw [hlen]; exact hw) ?_ (by rw [hlen]; exact hz)
  rw [hlen]
  refine ⟨.ref s.heap.objs.size, _, I.laid (t' := s.toks) (o := .tup (yS xs lo hi)) (fun b ob q => Heap.get?_push_of_some _ q) (Nat.le_refl _) ?_, rfl, q _ (I.hok.fresh (Nat.le_refl _))⟩
  exact ⟨Nat.le_trans (rR xs lo hi) hz, _, (r.drop (HT.gC xs.length 0 lo)).take (HT.gC xs.length xs.length hi - HT.gC xs.length 0 lo), IsTup.new _ _⟩
noncomputable def MQ (K : PySem.W.Frag) : R2 := fun x y H Q => ∃ a b xs ys, x = .ref a ∧ y = .ref b ∧ n9 K H a xs ∧ n9 K H b ys ∧ xs ≠ [] ∧ xs.length + ys.length ≤ sizeLine ∧
  (ys = [] → Q (.ref a) H) ∧ (ys ≠ [] → ∀ p, H p = none → Q (.ref p) (upd H p (.tup (xs ++ ys))))
theorem Vals.xg {xs : List V} {us : List Value} (r : Vals xs us) : us = [] ↔ xs = [] := by
  cases r with
  | nil => simp
  | cons _ _ => simp
theorem Hw : ly X (binaryOp .Add) (MQ X.K) := by
  intro pins s σ H x y v u Q I rx ry h
  obtain ⟨a, b, xs, ys, rfl, rfl, ha, hb, hx, hz, q1, q2⟩ := h
  cases rx
  cases ry
  obtain ⟨its, r1, p1, _⟩ := I.tuple ha
  obtain ⟨its2, r2, p2, _⟩ := I.tuple hb
  refine HT.Hs p1 p2 (fun z => hx (r1.xg.mp z)) (fun z => ⟨.ref a, H, I, rfl, q1 (r2.xg.mp z)⟩) (fun z => ?_) (by rw [← r1.length, ← r2.length]; exact hz)
  refine ⟨.ref s.heap.objs.size, _, I.laid (t' := s.toks) (o := .tup (xs ++ ys)) (fun b ob q => Heap.get?_push_of_some _ q) (Nat.le_refl _) ?_, rfl, q2 (fun w => z (r2.xg.mpr w)) _ (I.hok.fresh (Nat.le_refl _))⟩
  exact ⟨by rw [List.length_append]; exact hz, _, r1.append r2, IsTup.new _ _⟩
end
end L2
namespace L2
open PySem PySem.Spec PyProof.Rows
noncomputable def Hx (n : Nat) (i : Int) : Option Nat := if 0 ≤ i then (if i < n then some i.toNat else none) else if -(n : Int) ≤ i then some (i + n).toNat else none
noncomputable def fY {α : Type} (xs : List α) (i : Int) : Option α := (Hx xs.length i).bind fun j => xs[j]?
theorem Hy {n : Nat} {i : Int} {j : Nat} (h : Hx n i = some j) : seqIndex? i n = some j ∧ j < n ∧ -(n : Int) ≤ i ∧ i < n := by
  unfold Hx at h
  by_cases h0 : 0 ≤ i
  · rw [if_pos h0] at h
    by_cases h1 : i < n
    · rw [if_pos h1] at h
      have e : i.toNat = j := Option.some.inj h
      exact ⟨by rw [seqIndex_of h0 h1, e], by omega, by omega, h1⟩
    · rw [if_neg h1] at h; cases h
  · rw [if_neg h0] at h
    by_cases h1 : -(n : Int) ≤ i
    · rw [if_pos h1] at h
      have e : (i + n).toNat = j := Option.some.inj h
      exact ⟨by rw [seqIndex_neg (by omega) h1, e], by omega, h1, by omega⟩
    · rw [if_neg h1] at h; cases h
theorem xh {α : Type} {xs : List α} {i : Int} {v : α} (h : fY xs i = some v) : ∃ j, seqIndex? i xs.length = some j ∧ xs[j]? = some v ∧ j < xs.length ∧ -(xs.length : Int) ≤ i ∧ i < xs.length := by
  unfold fY at h
  cases e : Hx xs.length i with
  | none => rw [e] at h; cases h
  | some j =>
    rw [e] at h
    obtain ⟨h1, h2, h3, h4⟩ := Hy e
    exact ⟨j, h1, h, h2, h3, h4⟩
theorem dH {α : Type} {xs : List α} {j : Nat} {v : α} (h : xs[j]? = some v) : fY xs (j : Int) = some v := by
  have hj : j < xs.length := (List.getElem?_eq_some_iff.mp h).1
  have e : Hx xs.length (j : Int) = some j := by
    unfold Hx
    rw [if_pos (by omega), if_pos (by omega)]; simp
  unfold fY; rw [e]; exact h
noncomputable def sU (b : Expr) : Prop := ∀ o i, subscripted b false o i = operate [o, i] (getItem o i)
noncomputable def L1 (X : Cx) (r : R2) : Prop :=
  ∀ (value slice : Expr) (pins : List (Addr × Obj)) (s : Shared) (σ : St) (H : Hp) (x y : V) (v u : Value) (Q : VK), Inv X pins σ H s → RelV x v → RelV y u → r x y H Q →
    subscripted slice false v u = operate [v, u] (getItem v u) → wpAny (model X.prog X.w) X.A (subscriptTail value slice v u) (EP X pins σ Q) X.xe s
noncomputable def MR (X : Cx) (id : String) (r : V → List V → Hp → VK → Prop) : Prop :=
  ∀ (pins : List (Addr × Obj)) (s : Shared) (σ : St) (H : Hp) (x : V) (xs : List V) (v : Value) (us : List Value) (Q : VK), Inv X pins σ H s → RelV x v → Vals xs us → r x xs H Q →
    wpAny (model X.prog X.w) X.A (call (.builtin id) (v :: us)) (EP X pins σ Q) X.xe s
section
variable {X : Cx} {a b : Expr} {ta tb : TE} {pos : Pos}
theorem MT {r : R2} (hr : L1 X r) (ha : PE X a ta) (hb : PE X b tb) (hs : sU b) : PE X (.Subscript a b pos) (MD r ta tb) := by
  intro pins s σ H Q I h
  exact Subscript_ (Ke ha hb I h fun v u s2 x y H2 I2 rx ry q => hr a b pins s2 σ H2 x y v u Q I2 rx ry q (hs _ _))
noncomputable def PZ (K : PySem.W.Frag) : R2 := fun x y H Q => ∃ p xs i v, x = .ref p ∧ y = .int i ∧ mH K H p xs ∧ fY xs i = some v ∧ Q v H
noncomputable def P0 (K : PySem.W.Frag) : R2 := fun x y H Q => ∃ p xs i v, x = .ref p ∧ y = .int i ∧ n9 K H p xs ∧ fY xs i = some v ∧ Q v H
noncomputable def P4 : R2 := fun x y H Q => ∃ z i c, x = .str z ∧ y = .int i ∧ z.length ≤ sizeLine ∧ fY z.cps.toList i = some c ∧ Q (.str ⟨#[c]⟩) H
theorem Hz : L1 X (PZ X.K) := by
  intro value slice pins s σ H x y v u Q I rx ry h hs
  obtain ⟨p, xs, i, z, rfl, rfl, hq, he, q⟩ := h
  cases rx
  obtain ⟨t, rfl⟩ := ry
  obtain ⟨its, r, pl, hz⟩ := I.list hq
  obtain ⟨j, h1, h2, h3, h4, h5⟩ := xh he
  obtain ⟨w, ew, rw'⟩ := r.get h2
  have hl := r.length
  have hn := qZ
  have fin : EP X pins σ Q w s := ⟨z, H, I, rw', q⟩
  by_cases h0 : 0 ≤ i
  · have hj : i.toNat = j := by
      rw [seqIndex_of h0 h5] at h1
      exact Option.some.inj h1
    exact item_listR pl.isList h0 (by omega) (by rw [hj]; simpa using ew) fin hs
  · have hj : (i + (its.toArray.size : Int)).toNat = j := by
      rw [seqIndex_neg (by omega) h4] at h1
      rw [List.size_toArray, ← hl]
      exact Option.some.inj h1
    exact subscriptTail_builtinR (x := w) pl.isList.typeIs slot_list_getitem.lookup
      (wpAny_getItem_list_neg (Q := fun r s' => r = w ∧ EP X pins σ Q r s') pl.isList (by omega) (by rw [List.size_toArray] <;> omega) (by omega) (by rw [hj]; simpa using ew) ⟨rfl, fin⟩) hs
theorem Kz : L1 X (P0 X.K) := by
  intro value slice pins s σ H x y v u Q I rx ry h hs
  obtain ⟨p, xs, i, z, rfl, rfl, hq, he, q⟩ := h
  cases rx
  obtain ⟨t, rfl⟩ := ry
  obtain ⟨its, r, pl, hz⟩ := I.tuple hq
  obtain ⟨j, h1, h2, h3, h4, h5⟩ := xh he
  obtain ⟨w, ew, rw'⟩ := r.get h2
  have hl := r.length
  have hn := qZ
  have fin : EP X pins σ Q w s := ⟨z, H, I, rw', q⟩
  exact subscriptTail_builtinR (x := w) pl.typeIs slot_tuple_getitem.lookup
    (getItem_tuple (j := j) (Q := fun r s' => r = w ∧ EP X pins σ Q r s') pl (by omega) (by omega) (by rw [List.size_toArray, ← hl]; exact h1) (by simpa using ew) ⟨rfl, fin⟩) hs
theorem KA : L1 X P4 := by
  intro value slice pins s σ H x y v u Q I rx ry h hs
  obtain ⟨z, i, c, rfl, rfl, hz, he, q⟩ := h
  obtain ⟨t, rfl⟩ := rx
  obtain ⟨t', rfl⟩ := ry
  obtain ⟨j, h1, h2, h3, h4, h5⟩ := xh he
  have hl : z.cps.toList.length = z.length := by simp [Str.length]
  rw [hl] at h1 h4 h5
  have hn := qZ
  exact tail_any (typeIs_str s z t) slot_str_getitem.lookup (getItem_str (c := c) (by
    have e1 : decide (i < -(2 ^ 63 : Int)) = false := decide_eq_false (by omega)
    have e2 : decide (i ≥ 2 ^ 63) = false := decide_eq_false (by omega)
    rw [e1, e2, Bool.or_false]) (by rw [h1]; simpa using h2) ⟨.str ⟨#[c]⟩, H, I.tok _, ⟨_, rfl⟩, q⟩) hs
theorem xj (lo hi : Option Int) (n : Nat) : (sliceBounds lo hi none n).1 = ((HT.gC n 0 lo : Nat) : Int) ∧ (sliceBounds lo hi none n).2.1 = ((HT.gC n n hi : Nat) : Int) ∧ (sliceBounds lo hi none n).2.2 = 1 := by
  refine ⟨?_, ?_, rfl⟩
  · cases lo with
    | none => simp [sliceBounds, HT.gC]
    | some i =>
      simp only [sliceBounds, HT.gC, Option.getD_none, show (1 : Int) > 0 by decide, if_true]
      by_cases h : i < 0
      · simp only [h, if_true] <;> omega
      · simp only [h, if_false] <;> omega
  · cases hi with
    | none => simp [sliceBounds, HT.gC]
    | some i =>
      simp only [sliceBounds, HT.gC, Option.getD_none, show (1 : Int) > 0 by decide, if_true]
      by_cases h : i < 0
      · simp only [h, if_true] <;> omega
      · simp only [h, if_false] <;> omega
theorem uZ (its : List Value) (lo hi : Option Int) : slicePick its.toArray lo hi none = ((its.drop (HT.gC its.length 0 lo)).take (HT.gC its.length its.length hi - HT.gC its.length 0 lo)).toArray := by
  obtain ⟨h1, h2, h3⟩ := xj lo hi its.toArray.size
  unfold slicePick
  rw [h1, h2, h3]
  simp only [sliceRange_one, pick_run, List.size_toArray] <;> rfl
noncomputable def P5 (K : PySem.W.Frag) : V → Option Int → Option Int → Hp → VK → Prop := fun x lo hi H Q => ∃ a xs, x = .ref a ∧ mH K H a xs ∧ ∀ p, H p = none → Q (.ref p) (upd H p (.lst (yS xs lo hi)))
theorem HA : OY X (P5 X.K) := by
  intro pins s σ H x v vl vu lo hi sl Q I rx hs pl pu h
  obtain ⟨a, xs, rfl, hx, q⟩ := h
  cases rx
  obtain ⟨its, r, ht, hz⟩ := I.list hx
  have hlen := r.length
  refine ⟨"list", _, slot_list_getitem.lookup, ht.isList.typeIs, ?_⟩
  refine wpAny_getItem_list_slice ht.isList hs pl pu .none (by simp) ?_ (by rw [List.size_toArray] <;> omega)
  rw [uZ, ← hlen]
  refine ⟨.ref s.heap.objs.size, _, I.laid (t' := s.toks) (o := .lst (yS xs lo hi)) (fun b ob q => Heap.get?_push_of_some _ q) (Nat.le_refl _) ?_, rfl, q _ (I.hok.fresh (Nat.le_refl _))⟩
  exact ⟨Nat.le_trans (rR xs lo hi) hz, _, 0, (r.drop (HT.gC xs.length 0 lo)).take (HT.gC xs.length xs.length hi - HT.gC xs.length 0 lo), Heap.get?_push_size _ rfl⟩
theorem pX : gU X (.builtin "len") (fun xs H Q => ∃ p ys, xs = [.ref p] ∧ (mH X.K H p ys ∨ n9 X.K H p ys) ∧ Q (.int ys.length) H) := by
  intro pins s σ H xs us Q I r h
  obtain ⟨p, ys, rfl, hq, q⟩ := h
  obtain ⟨u, rfl, rx⟩ := vals1 r
  cases rx
  have hn := qZ
  rcases hq with hq | hq
  · obtain ⟨its, r', pl, hz⟩ := I.list hq
    have hlen := r'.length
    exact Calls.call_len_list pl.isList (by simp only [List.size_toArray] <;> omega) ⟨.int ys.length, H, I.tok _, ⟨s.toks + 1, by rw [List.size_toArray, hlen]⟩, q⟩
  · obtain ⟨its, r', pl, hz⟩ := I.tuple hq
    have hlen := r'.length
    exact len_tuple pl (by simp only [List.size_toArray] <;> omega) ⟨.int ys.length, H, I.tok _, ⟨s.toks + 1, by rw [List.size_toArray, hlen]⟩, q⟩
theorem xm : gU X (.builtin "len") (fun xs H Q => ∃ z, xs = [.str z] ∧ z.length ≤ sizeLine ∧ Q (.int z.length) H) := by
  intro pins s σ H xs us Q I r h
  obtain ⟨z, rfl, hz, q⟩ := h
  obtain ⟨u, rfl, t, rfl⟩ := vals1 r
  have hn := qZ
  exact len_str (by omega) ⟨.int z.length, H, I.tok _, ⟨_, rfl⟩, q⟩
theorem pY : gU X (.type "list") (fun xs H Q => ∃ p ys, xs = [.ref p] ∧ (mH X.K H p ys ∨ n9 X.K H p ys) ∧ ∀ l, H l = none → Q (.ref l) (upd H l (.lst ys))) := by
  intro pins s σ H xs us Q I r h
  obtain ⟨p, ys, rfl, hq, q⟩ := h
  obtain ⟨u, rfl, rx⟩ := vals1 r
  cases rx
  have fin : ∀ (its : List Value), Vals ys its → ys.length ≤ sizeLine → ∀ (h' : Heap) (c' : Nat), (∀ b o', s.heap.get? b = some o' → h'.get? b = some o') →
      h'.get? s.heap.objs.size = some { cls := .type "list", dict := none, data := .seq its.toArray c', slots := #[] } → EP X pins σ Q (.ref s.heap.objs.size) { s with heap := h' } := fun its r' hz h' c' kp e =>
    ⟨.ref s.heap.objs.size, _, I.laid (t' := s.toks) kp (Nat.le_refl _) (show fk X.prog X.w _ h' _ (.lst ys) from ⟨hz, its, c', r', e⟩), rfl, q _ (I.hok.fresh (Nat.le_refl _))⟩
  rcases hq with hq | hq
  · obtain ⟨its, r', pl, hz⟩ := I.list hq
    have hlen := r'.length
    obtain ⟨o, ho, hc, n, hd⟩ := pl.isList
    exact call_list_seq p (.inl rfl) ho hc hd (fun h' c' kp e => fin its r' hz h' c' kp e) (by simp only [List.size_toArray] <;> omega)
  · obtain ⟨its, r', pl, hz⟩ := I.tuple hq
    have hlen := r'.length
    obtain ⟨o, ho, hc, n, hd⟩ := pl
    exact call_list_seq p (.inr rfl) ho hc hd (fun h' c' kp e => fin its r' hz h' c' kp e) (by simp only [List.size_toArray] <;> omega)
theorem oG : gU X (.type "tuple") (fun xs H Q => ∃ p ys, xs = [.ref p] ∧ ((mH X.K H p ys ∧ ∀ l, H l = none → Q (.ref l) (upd H l (.tup ys))) ∨ (n9 X.K H p ys ∧ Q (.ref p) H))) := by
  intro pins s σ H xs us Q I r h
  obtain ⟨p, ys, rfl, h⟩ := h
  obtain ⟨u, rfl, rx⟩ := vals1 r
  cases rx
  rcases h with ⟨hq, q⟩ | ⟨hq, q⟩
  · obtain ⟨its, r', pl, hz⟩ := I.list hq
    have hlen := r'.length
    refine call_tuple_list pl.isList (fun h' kp => ?_) (by simp only [List.size_toArray] <;> omega)
    have I1 : Inv X pins σ H { s with heap := h' } := I.kept (t' := s.toks) kp
    have I2 : Inv X pins σ (upd H h'.objs.size (.tup ys)) { s with heap := h'.push { cls := .type "tuple", data := .seq its.toArray } } :=
      I1.laid (t' := s.toks) (fun b o e => Heap.get?_push_of_some _ e) (Nat.le_refl _) (show fk X.prog X.w _ _ _ (.tup ys) from ⟨hz, its, r', IsTup.new _ _⟩)
    exact ⟨.ref h'.objs.size, _, I2, rfl, q _ (I1.hok.fresh (Nat.le_refl _))⟩
  · obtain ⟨its, r', pl, hz⟩ := I.tuple hq
    exact call_tuple_same pl ⟨.ref p, H, I, rfl, q⟩
noncomputable def P6 (K : PySem.W.Frag) (T : String) (x : V) (H : Hp) : Prop := match x with
  | .str _ => T = "str"
  | .int _ => T = "int"
  | .ref p => (T = "list" ∧ ∃ xs, mH K H p xs) ∨ (T = "tuple" ∧ ∃ o, K.lookup p = some o ∧ o.cls = .type "tuple" ∧ o.dict = none) ∨
      (T = "dict" ∧ ((∃ kvs, H p = some (.dK kvs)) ∨ ∃ kvs, H p = some (.dT kvs))) ∨ (T = "set" ∧ ∃ S n, H p = some (.set S n))
  | _ => False
theorem KC {pins : List (Addr × Obj)} {σ : St} {H : Hp} {s : Shared} {T : String} {x : V} {v : Value} (I : Inv X pins σ H s) (r : RelV x v) (ty : P6 X.K T x H) :
    s.TypeIs v T ∧ ∀ a, v = .ref a → ∃ ob, s.heap.get? a = some ob ∧ ob.dict = none := by
  cases x with
  | str z =>
    obtain ⟨t, rfl⟩ := r
    cases (show T = "str" from ty)
    exact ⟨typeIs_str s z t, fun _ e => nomatch e⟩
  | int i =>
    obtain ⟨t, rfl⟩ := r
    cases (show T = "int" from ty)
    exact ⟨typeIs_int s i t, fun _ e => nomatch e⟩
  | ref p =>
    cases r
    rcases ty with ⟨rfl, xs, hq⟩ | ⟨rfl, o, hk, hc, hd⟩ | ⟨rfl, hk⟩ | ⟨rfl, S, n, hk⟩
    · obtain ⟨its, _, pl, _⟩ := I.list hq
      refine ⟨pl.isList.typeIs, fun a e => ?_⟩
      cases e
      obtain ⟨o, n, e, c, hd, _⟩ := pl
      exact ⟨o, e, hd⟩
    · refine ⟨⟨o, I.CZ p o hk, hc⟩, fun a e => ?_⟩
      cases e
      exact ⟨o, I.CZ _ o hk, hd⟩
    · have z : ∃ o, s.heap.get? p = some o ∧ o.ExactDict := by
        rcases hk with ⟨kvs, hk⟩ | ⟨kvs, hk⟩
        · obtain ⟨_, _, _, _, o, _, _, e, ex, _⟩ := I.hok p _ hk
          exact ⟨o, e, ex⟩
        · obtain ⟨_, _, _, _, o, _, _, e, ex, _⟩ := I.hok p _ hk
          exact ⟨o, e, ex⟩
      obtain ⟨o, e, ex⟩ := z
      refine ⟨⟨o, e, ex.1⟩, fun a e2 => ?_⟩
      cases e2
      exact ⟨o, e, ex.2.1⟩
    · obtain ⟨o, _, _, _, e, ex, _⟩ := I.hok p _ hk
      refine ⟨⟨o, e, ex.1⟩, fun a e2 => ?_⟩
      cases e2
      exact ⟨o, e, ex.2.1⟩
  | _ => exact False.elim ty
noncomputable def TN (K : PySem.W.Frag) (T : String) (r : V → List V → Hp → VK → Prop) (to : TE) (t : TA) : TE := fun σ H Q => to σ H fun x H1 => P6 K T x H1 ∧ t σ H1 fun xs H2 => r x xs H2 Q
variable {o e : Expr} {es : List Expr} {to : TE} {t : TA} {name : Str} {apos cpos : Pos} {T id : String} {r : V → List V → Hp → VK → Prop}
theorem MU (pa : PlainAttrs T) (slot : Slot T name id) (hty : typeOf (.builtin id) = pure (.type "method_descriptor")) (hm : MR X id r) (ho : PE X o to) (ha : PA X (e :: es) t)
    (hbase : attributeBase o name X.env (eval o X.env) = eval o X.env := by rfl)
    (hfew : ((backTo cpos (starEach (e :: es) X.env)).all (fun x => !x.1) && (backToKw cpos (keywordEach [] X.env)).all (fun x => x.1.isSome)
      && decide ((e :: es).length + ([] : List Keyword).length + (if ([] : List Keyword).isEmpty then 0 else 1) < 30)) = true := by rfl)
    (hline : (apos.endLine == cpos.line) = true := by rfl) (hs : starEach (e :: es) X.env = (false, eval e X.env) :: starEach es X.env := by rfl) (hplain : (backTo cpos (starEach es X.env)).any (·.1) = false := by rfl) :
    PE X (.Call (.Attribute o name apos) (e :: es) [] cpos) (TN X.K T r to t) := by
  intro pins s σ H Q I h
  refine wpAny_Call_method_late hbase hfew hline rfl (fT (ho pins s σ H _ I h) fun v s1 ⟨x, H1, I1, r1, ty, q1⟩ => ?_)
  obtain ⟨h1, h2⟩ := KC I1 r1 ty
  refine ⟨T, id, pa, slot, hty, h1, h2, ?_⟩
  have hA := ha cpos pins s1 σ H1 _ I1 q1
  rw [hs] at hA ⊢
  refine Calls.callWith_builtin (by show (false || (backTo cpos (starEach es X.env)).any (·.1)) = false; rw [hplain] <;> rfl) (Calls.evalArgs_plain ?_)
  exact fT hA fun us s2 ⟨vs, H2, I2, r2, q2⟩ => hm pins s2 σ H2 x vs v us Q I2 r1 r2 q2
end
end L2
namespace L2
open PySem PySem.Spec PyProof.Rows
noncomputable def RO (X : Cx) (id : String) (r : V → List V → Hp → VK → Prop) : Prop :=
  ∀ (pins : List (Addr × Obj)) (s : Shared) (σ : St) (H : Hp) (x : V) (xs : List V) (v : Value) (us : List Value) (Q : VK), Inv X pins σ H s → RelV x v → Vals xs us → r x xs H Q →
    wpAny (model X.prog X.w) X.A (call (.builtin id) (v :: us)) (EP X pins σ Q) X.xe s
theorem Vals.one : ∀ {x : V} {us : List Value}, Vals [x] us → ∃ u, us = [u] ∧ RelV x u
  | _, _, .cons r .nil => ⟨_, rfl, r⟩
theorem Vals.zero : ∀ {us : List Value}, Vals [] us → us = []
  | _, .nil => rfl
theorem Vals.dropLast {xs : List V} {us : List Value} (h : Vals xs us) : Vals xs.dropLast us.dropLast := by
  induction h with
  | nil => exact .nil
  | cons r t ih =>
    cases t with
    | nil => exact .nil
    | cons q t' => exact .cons r ih
theorem Vals.eraseIdx : ∀ {xs : List V} {us : List Value} (i : Nat), Vals xs us → Vals (xs.eraseIdx i) (us.eraseIdx i)
  | _, _, _, .nil => .nil
  | _, _, 0, .cons _ t => t
  | _, _, i + 1, .cons r t => .cons r (Vals.eraseIdx i t)
theorem Vals.reverse {xs : List V} {us : List Value} (h : Vals xs us) : Vals xs.reverse us.reverse := by
  induction h with
  | nil => exact .nil
  | cons r t ih => rw [List.reverse_cons, List.reverse_cons]; exact Vals.append ih (.cons r .nil)
theorem Vals.rep {xs : List V} {us : List Value} (h : Vals xs us) : ∀ k : Nat, Vals (List.replicate k xs).flatten (List.replicate k us).flatten
  | 0 => .nil
  | k + 1 => by
    rw [List.replicate_succ, List.replicate_succ, List.flatten_cons, List.flatten_cons]
    exact Vals.append h (Vals.rep h k)
theorem v8 {α : Type} : ∀ (l : List α) (i : Nat), (l.eraseIdx i).length ≤ l.length
  | [], _ => Nat.le_refl _
  | _ :: _, 0 => Nat.le_succ _
  | _ :: r, i + 1 => Nat.succ_le_succ (v8 r i)
theorem foldl_rep (its : List Value) : ∀ (k : Nat) (acc : List Value),
    List.foldl (fun x1 x2 => x1 ++ x2) acc.toArray (List.replicate k its.toArray) = (acc ++ (List.replicate k its).flatten).toArray
  | 0, acc => by simp
  | k + 1, acc => by
    have e : acc.toArray ++ its.toArray = (acc ++ its).toArray := by simp
    have e2 : (acc ++ its) ++ (List.replicate k its).flatten = acc ++ (List.replicate (k + 1) its).flatten := by
      rw [List.replicate_succ, List.flatten_cons, List.append_assoc]
    rw [← e2, ← foldl_rep its k (acc ++ its), ← e, List.replicate_succ, List.foldl_cons]
section
variable {X : Cx} {pins : List (Addr × Obj)} {σ : St} {H : Hp} {s : Shared} {l b : Addr} {xs ys zs : List V}
theorem Inv.KD {its its' : List Value} {n : Nat} {f : Array Value → Array Value} {t' : Nat} (I : Inv X pins σ H s) (hH : H l = some (.lst xs))
    (e : s.heap.get? l = some { cls := .type "list", data := .seq its.toArray n }) (hf : f its.toArray = its'.toArray) (hv : Vals ys its') (hz : ys.length ≤ sizeLine) :
    Inv X pins σ (upd H l (.lst ys)) { s with heap := s.heap.update l (Obj.mapSeq f), toks := t' } := by
  have q := PySem.IsL.update e f
  rw [hf] at q
  refine I.write (x := l) (e := l) (by rw [hH]; exact trivial) (.inl rfl) (fun b' u hb hu => (Heap.get?_update_other s.heap (Obj.mapSeq f) (Ne.symm hb)).trans hu) ⟨_, q⟩ ?_
  exact ⟨hz, its', _, hv, q⟩
theorem Inv.MV {its : List Value} {t' : Nat} (I : Inv X pins σ H s) (hv : Vals ys its) (hz : ys.length ≤ sizeLine) :
    Inv X pins σ (upd H s.heap.objs.size (.lst ys)) { s with heap := s.heap.push { cls := .type "list", data := .seq its.toArray }, toks := t' } :=
  I.laid (fun _ _ q => Heap.get?_push_of_some _ q) (Nat.le_refl _) ⟨hz, its, 0, hv, Heap.get?_push_size _ rfl⟩
theorem Inv.fresh (I : Inv X pins σ H s) : H s.heap.objs.size = none := I.hok.fresh (Nat.le_refl _)
theorem Inv.HB (I : Inv X pins σ H s) (hH : H l = some (.lst xs)) : xs.length ≤ sizeLine ∧ ∃ (its : List Value) (n : Nat), Vals xs its ∧ xs.length = its.length ∧ s.heap.get? l = some { cls := .type "list", data := .seq its.toArray n } := by
  obtain ⟨z, its, n, r, e⟩ := I.hok l _ hH
  exact ⟨z, its, n, r, r.length, e⟩
theorem Et {n : Nat} (h : n ≤ sizeLine) : Builtin.List.listTooLong n = false := by
  unfold Builtin.List.listTooLong
  exact decide_eq_false (by omega)
end
section
variable {X : Cx}
noncomputable def HC : V → List V → Hp → VK → Prop := fun x vs H Q => ∃ l xs y, x = .ref l ∧ vs = [y] ∧ H l = some (.lst xs) ∧ xs.length < sizeLine ∧ Q .cj (upd H l (.lst (xs ++ [y])))
theorem v9 : RO X "list.append" HC := by
  intro pins s σ H x vs v us Q I rx rv h
  obtain ⟨l, xs, y, rfl, rfl, hH, hz, q⟩ := h
  cases rx
  obtain ⟨u, rfl, ru⟩ := rv.one
  obtain ⟨z, its, n, r, hl, e⟩ := I.HB hH
  refine call_meets F.slot_list_append ⟨_, e, rfl⟩ F.entry_list_append (F.args_list_append_2 _ _) (PySem.list_append l its.toArray n u (by rw [List.size_toArray]; omega)) ⟨e, ?_⟩
  refine ⟨.cj, _, I.KD (its' := its ++ [u]) hH e (by simp) (r.append (.cons ru .nil)) ?_, rfl, q⟩
  rw [List.length_append, List.length_singleton]
  omega
noncomputable def KG : V → List V → Hp → VK → Prop := fun x vs H Q => ∃ l xs i k y, x = .ref l ∧ vs = [.int i] ∧ H l = some (.lst xs) ∧ -(2 ^ 63) ≤ i ∧ i < 2 ^ 63 ∧ seqIndex? i xs.length = some k ∧ xs[k]? = some y ∧ Q y (upd H l (.lst (xs.eraseIdx k)))
theorem Eu : RO X "list.pop" KG := by
  intro pins s σ H x vs v us Q I rx rv h
  obtain ⟨l, xs, i, k, y, rfl, rfl, hH, h1, h2, hk, hy, q⟩ := h
  cases rx
  obtain ⟨u, rfl, ru⟩ := rv.one
  obtain ⟨t, rfl⟩ := ru
  obtain ⟨z, its, n, r, hl, e⟩ := I.HB hH
  obtain ⟨w, hw, rw'⟩ := r.get hy
  refine call_meets F.slot_list_pop ⟨_, e, rfl⟩ F.entry_list_pop (F.args_list_pop_2 _ _)
    (MeetsSeq.list_pop_at l its.toArray n i t k w (fitsIndex_both h1 h2) (by rw [List.size_toArray, ← hl]; exact hk) (by rw [← Array.getElem?_toList]; exact hw) (by rw [List.size_toArray]; omega)) ⟨e, ?_⟩
  refine ⟨y, _, I.KD (its' := its.eraseIdx k) hH e ?_ (r.eraseIdx k) ?_, rw', q⟩
  · show its.toArray.eraseIdxIfInBounds k = (its.eraseIdx k).toArray
    rw [List.eraseIdxIfInBounds_toArray]
  · have := v8 xs k
    omega
noncomputable def P7 : R2 := fun x y H Q => ∃ l k xs, x = .ref l ∧ y = .int k ∧ H l = some (.lst xs) ∧ -(2 ^ 63) ≤ k ∧ k < 2 ^ 63 ∧ xs.length * k.toNat ≤ sizeLine ∧
  ∀ p, H p = none → Q (.ref p) (upd H p (.lst (List.replicate k.toNat xs).flatten))
theorem len_rep {α : Type} (xs : List α) (k : Nat) : (List.replicate k xs).flatten.length = k * xs.length := by
  induction k with
  | zero => simp
  | succ k ih => rw [List.replicate_succ, List.flatten_cons, List.length_append, ih, Nat.succ_mul, Nat.add_comm]
theorem KH : ly X (binaryOp .Mult) P7 := by
  intro pins s σ H x y v u Q I rx ry h
  obtain ⟨l, k, xs, rfl, rfl, hH, h1, h2, hz, q⟩ := h
  cases rx
  obtain ⟨t, rfl⟩ := ry
  obtain ⟨z, its, n, r, hl, e⟩ := I.HB hH
  have hlen : its.toArray.size * k.toNat ≤ sizeLine := by rw [List.size_toArray, ← hl]; exact hz
  have hcap : ¬ its.toArray.size * k.toNat > (2 ^ 63 - 1) / 8 := by
    have : (sizeLine : Nat) ≤ (2 ^ 63 - 1) / 8 := by decide
    omega
  have hfit : ¬ (!Builtin.List.listFitsIndex k) = true := by
    rw [fitsIndex_both h1 h2]
    exact Bool.false_ne_true
  have MW : ¬ Builtin.List.listTooLong (its.toArray.size * k.toNat) = true := by
    rw [Et hlen]
    exact Bool.false_ne_true
  have hnew : List.foldl (fun x1 x2 => x1 ++ x2) #[] (List.replicate (if its.toArray.isEmpty = true then 0 else k.toNat) its.toArray) = (List.replicate k.toNat its).flatten.toArray := by
    have f0 : ∀ m : Nat, List.foldl (fun x1 x2 => x1 ++ x2) #[] (List.replicate m its.toArray) = (List.replicate m its).flatten.toArray := fun m => by
      have := foldl_rep its m []
      rw [List.nil_append] at this
      exact this
    rw [f0]
    cases its with
    | nil => simp
    | cons a r' => rw [if_neg (by simp)]
  refine wpAny_binaryOp_repeat_ref (T := "list") (U := "int") (by decide) ⟨_, e, rfl⟩ (fun s' => typeIs_int s' k t) noFill_list_mul F.fills_int_mul F.slot_int_rmul repeat_list F.slot_int_index.lookup
    (call_meets F.slot_int_rmul (typeIs_int s k t) F.entry_int_rmul (F.args_int_rmul_2 _ _) (int___rmul___int_list k t l its.toArray n)
      ⟨e, rfl, ⟨_, e, rfl⟩, call_meets F.slot_list_mul ⟨_, e, rfl⟩ F.entry_list_mul (F.args_list_mul_2 _ _) (AutoListH.list___mul___list_int_3 l its.toArray n k t hfit hcap MW) ⟨e, ?_⟩⟩)
  rw [hnew]
  exact ⟨.ref _, _, I.MV (t' := s.toks) (r.rep k.toNat) (by rw [len_rep, Nat.mul_comm]; exact hz), rfl, q _ I.fresh⟩
end
section
variable {prog : Program} {w : World} {A : Around} {E : Value → Shared → Prop} {s : Shared}
end
section
variable {X : Cx}
end
end L2
namespace RP
open PySem PySem.W PySem.Calls PyProof.Rows
theorem sM {P : Params} {h : Heap} : ∀ (ns : List Int) (vs : List Value), WellAll P h vs (ns.map WData.int) → IntsAre vs ns := by
  intro ns
  induction ns with
  | nil =>
    intro vs w
    rw [List.map_nil] at w
    cases w
    exact .nil
  | cons n ns ih =>
    intro vs w
    rw [List.map_cons] at w
    cases w with
    | cons a b =>
      cases a
      exact .cons _ _ (ih _ b)
theorem Df {l : OpenLaw} {n : Nat} (hn : l.most = some n) {P : Params} {h : Heap} {args : List WData} {vals : List Value}
    (hpre : l.row.toRowW.claim.pre args = true) (hwl : WellAll P h vals args) :
    ∃ a vs ns, vals = [Value.ref a] ∧ args = [WData.list (ns.map WData.int)] ∧ h.get? a = some { cls := .type "list", data := .seq vs.toArray } ∧ IntsAre vs ns ∧ ns.length ≤ n := by
  have hsh : WShape.hasAll [] args [.list .int] = true := (pre_splitW hpre).1
  have hc : l.pre.holds [] { args := args } = true := (pre_splitW hpre).2
  obtain ⟨d, r, rfl, h1, h2⟩ := hasAllW_cons hsh
  obtain rfl := hasAllW_nil h2
  obtain ⟨xs, rfl, h3⟩ := hasW_list h1
  obtain ⟨ns, rfl⟩ := items_int h3
  have hlen : ns.length ≤ n := by
    unfold OpenLaw.pre at hc
    have h4 : (WTm.not (.lt (.lit (.int (n : Int))) (.len (.arg 0)))).holds [] { args := [.list (ns.map .int)] } = true := by
      have h4 := (holds_andW hc).1
      rw [hn] at h4
      exact h4
    have h5 := condW_of h4 (w_not (w_lt w_lit (w_len_list (w_arg rfl))))
    rw [List.length_map] at h5
    refine Nat.le_of_not_lt fun q => ?_
    have q' : (n : Int) < ((ns.length : Nat) : Int) := by omega
    first
      | (rw [decide_eq_true q'] at h5; exact absurd h5 (by decide))
      | (simp at h5; omega)
  cases hwl with
  | cons w1 w2 =>
    cases w2
    cases w1 with
    | list ho hall => exact ⟨_, _, ns, rfl, rfl, ho, sM ns _ hall, hlen⟩
theorem Dg (l : OpenLaw) (args : List WData) : l.row.toRowW.claim.post args (.bool true) args = true :=
  postW_of (r := l.row.toRowW) (X := (true == true))
    (show WShape.has [] (.bool true) .bool = true by first | rfl | decide | simp [WShape.has, WShape.arms, WShape.armsAll])
    (show (WTm.eq .res (.lit (.bool true))).value [] { args := args, res := some (.bool true), after := args } = some (.bool (true == true)) from w_eq_bool (w_res rfl) w_lit) rfl
theorem yT {l : OpenLaw} {n : Nat} {q : Program} {loose : List Str} {XP : (Str → Option Value) → Heap → Prop} {YP : World → Heap → Prop} {d : DefRec}
    (hn : l.most = some n) (hdf : d.params.defaults = [])
    (call : ∀ (w : World) (s₀ s₁ : Shared) (mg mb : Str → Option Value) (fa : Addr) (o : Obj) (pm cd doc : Value) (a : Addr) (vs : List Value) (ns : List Int),
      Ground q loose [] XP w s₀ mg mb s₁.heap → YP w s₁.heap →
      s₁.heap.get? fa = some o → o.data = .func (docDef d.name d.params d.body d.scope pm cd doc) → s₁.heap.CodeRec cd d.name → mg d.name = some (.ref fa) →
      s₁.heap.get? a = some { cls := .type "list", data := .seq vs.toArray } → IntsAre vs ns → ns.length ≤ n → s₁.gens = #[] →
      codeAny (model l.prog w) callerA (.call (.ref fa) ⟨[.ref a], []⟩) (fun r s' => r = .ok (.ret (.bool true)) ∧ OldK s₁.heap s'.heap ∧ s'.os = s₁.os ∧ AllBare s'.gens) s₁) :
    WalkO q loose XP YP l.row.toRowW d [] (fun f vs => PySem.call f vs) := by
  intro w s₀ s₁ mg mb G Y fa o pm cd doc dV kV ho hd hcd hD hmg hg args vals as hpre hlay hrd hwl hlo
  obtain rfl : dV = .none := Dflts.none hD hdf
  obtain rfl : kV = .none := Dflts.noKw hD
  obtain ⟨a, vs, ns, rfl, rfl, hobj, hints, hlen⟩ := Df hn hpre hwl
  refine enter_call (codeAny_mono (call w s₀ s₁ mg mb fa o pm cd doc a vs ns G Y ho (fd_plain hd) hcd hmg hobj hints hlen hg) fun r s' hq => ?_)
  obtain ⟨rfl, h2, h3, h4⟩ := hq
  exact ⟨.inl ⟨.bool true, .bool true, [], rfl, fun _ => rfl, .bool true, Dg l _, fun _ => ⟨List.Pairwise.nil, fun _ hm => (nomatch hm)⟩⟩, h2, h3, h4⟩
section
variable {prog : Program} {w : World} {A : Around} {E : Value → Shared → Prop} {s : Shared} {K : Frag}
end
end RP
namespace L2
open PySem PySem.Spec PyProof.Rows
theorem wc : ∀ {vs : List Value} {ns : List Int}, IntsAre vs ns → Vals (ns.map V.int) vs
  | _, _, .nil => .nil
  | _, _, .cons n t h => .cons ⟨t, rfl⟩ (wc h)
noncomputable def HE (H : Hp) : Prop := ∀ b, H b = none ∨ ∃ o xs, H b = some (.jc o (.lst xs))
theorem Ew {P : Program} {w : World} {K : PySem.W.Frag} {mg mb : Str → Option Value} {CX : BZ} {k : Nat} {fa a : Addr} {fd : FuncData} {x : Str} {sp : Sp} {s₁ : Shared} {vs : List Value} {ns : List Int}
    (KX : K.In s₁.heap) (hns : s₁.heap.Ns mainGlobals mg) (hb : s₁.heap.Ns builtinsNs mb) (OZ : ∀ x : Str, x ≠ "__name__" → mb x = bootBuiltins x) (hlim : s₁.heap.NoLimit) (hg : s₁.gens = #[])
    (ha : s₁.heap.get? a = some { cls := .type "list", data := .seq vs.toArray }) (hi : IntsAre vs ns) (hl : ns.length ≤ sizeLine) (hr : jS k callerA)
    (F : ∀ base : Heap, K.In base → base.Ns mainGlobals mg → ck P w K mg base CX k fa fd [x] sp) (hbind : ∀ (s : Shared) (u : Value), BindsTo s fd ⟨[u], []⟩ [(x, u)])
    (L0 : ∀ H : Hp, HE H → mH K H a (ns.map V.int) → sp [.ref a] H (fun v _ => v = .bl true) fun _ _ _ => False)
    (P8 : ∀ H e s', CX [] H s₁ (fun _ _ _ => False) e s' → False) :
    codeAny (model P w) callerA (.call (.ref fa) ⟨[.ref a], []⟩) (fun r s' => r = .ok (.ret (.bool true)) ∧ OldK s₁.heap s'.heap ∧ s'.os = s₁.os ∧ AllBare s'.gens) s₁ := by
  have rv := wc hi
  have P9 := hi.length
  have core : ∀ H : Hp, HE H → mH K H a (ns.map V.int) → mW P w H s₁.heap → (∀ b, H b ≠ none → b = a) → (H a ≠ none → K.lookup a = none) →
      codeAny (model P w) callerA (.call (.ref fa) ⟨[.ref a], []⟩) (fun r s' => r = .ok (.ret (.bool true)) ∧ OldK s₁.heap s'.heap ∧ s'.os = s₁.os ∧ AllBare s'.gens) s₁ := by
    intro H hO hS hok hA hK
    have nP : ∀ {b : Addr} {o : Obj}, s₁.heap.get? b = some o → H b = none → (wX s₁.heap H).get? b = some o := fun e n => Ec e n
    have MM : ∀ {b : Addr} {o : Obj} {es : Array DictEntry} {ep : Nat}, s₁.heap.get? b = some o → o.data = .dict es ep → H b = none := fun {b o es ep} e d => by
      cases q : H b with
      | none => rfl
      | some u =>
        have e' : b = a := hA b (by rw [q]; simp)
        subst e'
        rw [ha] at e; cases e
        have d' : Data.seq vs.toArray _ = Data.dict es ep := d
        cases d'
    have O0 : ∀ {b : Addr} {m : Str → Option Value}, s₁.heap.Ns b m → (wX s₁.heap H).Ns b m := fun {b m} ⟨o, es, ep, e, d, r⟩ => ⟨o, es, ep, nP e (MM e d), d, r⟩
    have RQ : K.In (wX s₁.heap H) := fun b o e => nP (KX b o e) (by
      cases q : H b with
      | none => rfl
      | some u =>
        have e' : b = a := hA b (by rw [q]; simp)
        subst e'
        rw [hK (by rw [q]; simp)] at e; cases e)
    have hM : Mod K mg (wX s₁.heap H) := ⟨RQ, O0 hns, ⟨mb, O0 hb, OZ⟩, let ⟨mc, h1, h2⟩ := hlim; ⟨mc, O0 h1, h2⟩⟩
    have e0 : AK P w K mg (wX s₁.heap H) callerA [] s₁ H := ⟨rfl, hM, fun b o e => G6 e, Nat.le_of_eq (CY _ _), trivial, fun b hb => absurd (show b ∈ ([] : List Addr) from hb) (by simp), hok, .of_eq hg⟩
    refine codeAny_mono ((F _ RQ (O0 hns)).run callerA [] s₁ H ⟨[.ref a], []⟩ [.ref a] [.ref a] _ _ hr e0 (hbind s₁ (.ref a)) (.cons rfl .nil) (L0 H hO hS)) fun r s' h => ?_
    cases r with
    | error e => exact (P8 H e s' h).elim
    | ok fl =>
      cases fl with
      | next => exact False.elim h
      | brk => exact False.elim h
      | cont => exact False.elim h
      | ret u =>
        obtain ⟨v, H', os, bare, un, Qa, r', q⟩ := h
        have q' : v = .bl true := q
        subst q'
        obtain rfl : u = Value.bool true := r'
        refine ⟨rfl, OldK.of_keep fun b o e => ?_, os, bare⟩
        cases q : H b with
        | none => exact un.keep b o e q (by intro z; exact absurd (show b ∈ ([] : List Addr) from z) (by simp)) (by simp)
        | some u =>
          rcases hO b with z | ⟨ob, xs, z⟩
          · rw [q] at z; cases z
          · have z2 := un.oX b ob _ z
            obtain ⟨e1, _⟩ := hok b _ z
            obtain ⟨e2, _⟩ := Qa b _ z2
            rw [e] at e1; cases e1
            exact e2
  cases hk : K.lookup a with
  | some o =>
    have e := KX a o hk
    rw [ha] at e
    cases e
    refine core (fun _ => none) (fun _ => .inl rfl) (.inr ⟨_, vs.toArray, _, hk, rfl, rfl, rfl, by rw [List.size_toArray, P9]; exact hl, by simpa using rv⟩) (fun b u z => by have z' : (none : Option HO) = some u := z; cases z') (fun b z => absurd rfl z) fun z => absurd rfl z
  | none =>
    refine core (fun b => if b = a then some (.jc { cls := .type "list", data := .seq vs.toArray } (.lst (ns.map V.int))) else none) (fun b => ?_) (.inl (.inr ⟨{ cls := .type "list", data := .seq vs.toArray }, if_pos rfl⟩)) (fun b u z => ?_) (fun b z => ?_) fun _ => hk
    · by_cases hb : b = a
      · exact .inr ⟨_, _, if_pos hb⟩
      · exact .inl (if_neg hb)
    · by_cases hb : b = a
      · have z' := (if_pos hb).symm.trans z
        cases z'
        subst hb
        exact ⟨ha, by rw [List.length_map]; exact hl, vs, _, rv, ha⟩
      · have z' := (if_neg hb).symm.trans z
        cases z'
    · by_cases hb : b = a
      · exact hb
      · exact absurd (if_neg hb) z
end L2
namespace L2
open PySem PySem.Spec PyProof.Rows
noncomputable abbrev KOf {K : PySem.W.Frag} {h : Heap} (_ : K.In h) : PySem.W.Frag := K
theorem HF {l : PySem.W.OpenLaw} {n k : Nat} {q : Program} {loose : List Str} {XP : (Str → Option Value) → Heap → Prop} {YP : World → Heap → Prop} {d : DefRec} {K : Params → PySem.W.Frag} {CX : World → BZ} {sp : World → Sp} {x : Str}
    (hn : l.most = some n) (hn2 : n ≤ sizeLine) (hdf : d.params.defaults = []) (hr : jS k callerA)
    (hY : ∀ (w : World) (h : Heap), YP w h → (K w.params).In h)
    (F : ∀ (w : World) (mg : Str → Option Value) (fa : Addr) (h : Heap), (K w.params).In h → h.Ns mainGlobals mg → mg d.name = some (.ref fa) →
      ∃ fd : FuncData, (∀ (s : Shared) (u : Value), BindsTo s fd ⟨[u], []⟩ [(x, u)]) ∧
        ∀ base : Heap, (K w.params).In base → base.Ns mainGlobals mg → ck l.prog w (K w.params) mg base (CX w) k fa fd [x] (sp w))
    (L0 : ∀ (w : World) (H : Hp) (a : Addr) (ns : List Int), ns.length ≤ n → HE H → mH (K w.params) H a (ns.map V.int) → sp w [.ref a] H (fun v _ => v = .bl true) fun _ _ _ => False)
    (P8 : ∀ (w : World) (H : Hp) (s : Shared) (e : Value) (s' : Shared), CX w [] H s (fun _ _ _ => False) e s' → False) :
    PySem.W.WalkO q loose XP YP l.row.toRowW d [] (fun f vs => PySem.call f vs) := by
  refine RP.yT hn hdf fun w s₀ s₁ mg mb fa o pm cd doc a vs ns G Y ho hd hcd hmg hobj hints hlen hg => ?_
  have KX := hY w _ Y
  obtain ⟨fd, hb, hF⟩ := F w mg fa _ KX G.T.g hmg
  exact Ew KX G.T.g G.T.b G.T.builtins G.T.nolimit hg hobj hints (Nat.le_trans hlen hn2) hr hF hb (fun H hO hS => L0 w H a ns hlen hO hS) fun H e s' => P8 w H s₁ e s'
end L2
namespace L2
open PySem PySem.Spec PyProof.Rows
noncomputable def aR (s : Stmt) : Arguments := match s with
  | .FunctionDef _ a _ _ _ _ _ _ _ _ => a
  | _ => { posonlyargs := [], args := [], vararg := none, kwonlyargs := [], kw_defaults := [], kwarg := none, defaults := [] }
noncomputable def aO (s : Stmt) : List Stmt := match s with
  | .FunctionDef _ _ b _ _ _ _ _ _ _ => b
  | _ => []
noncomputable def aa (s : Stmt) : Scope := match s with
  | .FunctionDef _ _ _ _ _ _ sc _ _ _ => sc
  | _ => { kind := .function, names := [], isGenerator := false, isCoroutine := false }
structure xo (K : PySem.W.Frag) (x qual : Str) (st : Stmt) (f : Addr) (fd : FuncData) : Prop where
  ex : ∃ (oc : Value) (od : Option Addr) (kV doc pm : Value) (an : Option Addr) (cdv ct : Value) (osl : Array (Option Value)),
    fd = PySem.W.fnOf x qual (aR st) (aO st) (aa st) .none kV doc pm an cdv ct ∧ K.lookup f = some ⟨oc, od, .func fd, osl⟩ ∧ PySem.W.codeIn K cdv qual = true
  kp : PySem.W.keepIn K (.ref f) = true
section
variable {P : Program} {w : World} {K : PySem.W.Frag} {mg : Str → Option Value} {base : Heap}
theorem xo.binds {x qual : Str} {st : Stmt} {f : Addr} {fd : FuncData} {ps : List Str} (F : xo K x qual st f fd)
    (h : ∀ (kV doc pm : Value) (an : Option Addr) (cdv ct : Value) (us : List Value), us.length = ps.length → bindArgs (PySem.W.fnOf x qual (aR st) (aO st) (aa st) .none kV doc pm an cdv ct) ⟨us, []⟩ = pure (ps.zip us)) : Binds K fd ps [] := by
  obtain ⟨oc, od, kV, doc, pm, an, cdv, ct, osl, rfl, lk, hcd⟩ := F.ex
  exact .all (h kV doc pm an cdv ct)
theorem gk {x qual : Str} {st : Stmt} {f : Addr} {oc : Value} {od an : Option Addr} {osl : Array (Option Value)} {kV doc pm cdv ct : Value} (l : K.lookup f = some ⟨oc, od, .func (PySem.W.fnOf x qual (aR st) (aO st) (aa st) .none kV doc pm an cdv ct), osl⟩)
    (c : PySem.W.codeIn K cdv qual = true) (k : PySem.W.keepIn K (.ref f) = true) : xo K x qual st f (PySem.W.fnOf x qual (aR st) (aO st) (aa st) .none kV doc pm an cdv ct) := ⟨⟨oc, od, kV, doc, pm, an, cdv, ct, osl, rfl, l, c⟩, k⟩
end
section
variable {X : Cx}
end
noncomputable def MX (H H' : Hp) : Prop := ∀ b o, H b = some o → H' b = some o
theorem MX.free {H H' : Hp} (e : MX H H') {l : Addr} (h : H' l = Option.none) : H l = Option.none := by
  cases q : H l with
  | none => rfl
  | some o =>
    rw [e l o q] at h
    cases h
end L2
end
section
set_option Elab.async false
set_option linter.all false
set_option maxRecDepth 100000
namespace L2
open PySem PySem.Spec PyProof.Rows
section
variable {κ : Type} [DecidableEq κ]
noncomputable def oh (kvs : List (κ × V)) (k : κ) : Option V := (kvs.find? fun kv => decide (kv.1 = k)).map (·.2)
noncomputable def putK (kvs : List (κ × V)) (k : κ) (v : V) : List (κ × V) :=
  if (kvs.any fun kv => decide (kv.1 = k)) = true then kvs.map (fun kv => if kv.1 = k then (kv.1, v) else kv) else kvs ++ [(k, v)]
theorem tO {p : κ × V} {r : List (κ × V)} {k : κ} (e : p.1 = k) : oh (p :: r) k = some p.2 := by simp [oh, List.find?_cons, e]
theorem pZ {p : κ × V} {r : List (κ × V)} {k : κ} (e : ¬ p.1 = k) : oh (p :: r) k = oh r k := by simp [oh, List.find?_cons, e]
theorem yU (k : κ) : ∀ kvs : List (κ × V), (kvs.any fun kv => decide (kv.1 = k)) = (oh kvs k).isSome
  | [] => rfl
  | p :: r => by
    rw [List.any_cons]
    by_cases e : p.1 = k
    · simp only [tO e, decide_eq_true e, Bool.true_or, Option.isSome_some]
    · rw [pZ e, decide_eq_false e, Bool.false_or]; exact yU k r
theorem m5 (kvs : List (κ × V)) (k : κ) (v : V) : (putK kvs k v).length ≤ kvs.length + 1 := by
  unfold putK
  split
  · rw [List.length_map]; omega
  · rw [List.length_append, List.length_cons, List.length_nil]; omega
theorem sL.Dh {o : Option V} {u : Option Value} (r : sL o u) : o.isSome = u.isSome := by
  cases o with
  | none => cases u with
    | none => rfl
    | some _ => exact (show False from r).elim
  | some _ => cases u with
    | none => exact (show False from r).elim
    | some _ => rfl
theorem sL.getD {o : Option V} {u : Option Value} {d : V} {d' : Value} (r : sL o u) (rd : RelV d d') : RelV (o.getD d) (u.getD d') := by
  cases o with
  | none => cases u with
    | none => exact rd
    | some _ => exact (show False from r).elim
  | some _ => cases u with
    | none => exact (show False from r).elim
    | some _ => exact r
theorem KV.val {kvs : List (κ × V)} {vs : List (κ × Value)} (r : KV kvs vs) (k : κ) : sL (oh kvs k) (valueAt vs k) := by
  unfold KV at r
  induction r with
  | nil => exact True.intro
  | @cons p q ps qs h t ih =>
    obtain ⟨h1, h2⟩ := h
    by_cases e : p.1 = k
    · have e' : q.1 = k := h1.symm.trans e
      have b : valueAt (q :: qs) k = some q.2 := by simp [valueAt, List.find?_cons, e']
      rw [tO e, b]; exact h2
    · have e' : ¬ q.1 = k := fun z => e (h1.trans z)
      have b : valueAt (q :: qs) k = valueAt qs k := by simp [valueAt, List.find?_cons, e']
      rw [pZ e, b]; exact ih
theorem KV.any {kvs : List (κ × V)} {vs : List (κ × Value)} (r : KV kvs vs) (k : κ) : (kvs.any fun kv => decide (kv.1 = k)) = vs.any fun kv => decide (kv.1 = k) := by
  unfold KV at r
  induction r with
  | nil => rfl
  | cons h t ih => rw [List.any_cons, List.any_cons, ih, h.1]
theorem KV.repl {kvs : List (κ × V)} {vs : List (κ × Value)} (r : KV kvs vs) (k : κ) {y : V} {u : Value} (ry : RelV y u) :
    KV (kvs.map fun kv => if kv.1 = k then (kv.1, y) else kv) (vs.map fun kv => if kv.1 = k then (kv.1, u) else kv) := by
  unfold KV at r ⊢
  induction r with
  | nil => exact .nil
  | @cons p q ps qs h t ih =>
    rw [List.map_cons, List.map_cons]
    refine .cons ?_ ih
    obtain ⟨h1, h2⟩ := h
    by_cases e : p.1 = k
    · rw [if_pos e, if_pos (h1.symm.trans e)]; exact ⟨h1, ry⟩
    · rw [if_neg e, if_neg (fun z => e (h1.trans z))]; exact ⟨h1, h2⟩
theorem KV.put {kvs : List (κ × V)} {vs : List (κ × Value)} (r : KV kvs vs) (k : κ) {y : V} {u : Value} (ry : RelV y u) : KV (putK kvs k y) (stored vs k u) := by
  unfold putK stored
  rw [r.any k]
  by_cases e : (vs.any fun kv => decide (kv.1 = k)) = true
  · rw [if_pos e, if_pos e]; exact r.repl k ry
  · rw [if_neg e, if_neg e]; exact Paired.snoc r ⟨rfl, ry⟩
theorem KV.length {kvs : List (κ × V)} {vs : List (κ × Value)} (r : KV kvs vs) : kvs.length = vs.length := Paired.length r
end
theorem Ex {P : Program} {w : World} {k : Key} {u : Value} (r : RelV (kV k) u) : (dG P w).is k u = true := by
  cases k with
  | inl i => obtain ⟨t, e⟩ := (show ∃ t, u = Value.int i t from r); subst e; exact yL P w i t
  | inr x => obtain ⟨t, e⟩ := (show ∃ t, u = Value.str x t from r); subst e; exact yM P w x t
theorem we {P : Program} {w : World} : ∀ {ks : List Key} {us : List Value}, Vals (ks.map kV) us → ItemsAre (dG P w) ks us
  | [], _, r => by rw [List.map_nil] at r; cases r; exact .nil
  | k :: ks, _, r => by
    rw [List.map_cons] at r
    cases r with
    | cons h t => exact .cons (Ex h) (we t)
noncomputable abbrev KT (H : Hp) : List (List Key × V) → List (List Key × Addr × Value) → Prop := Paired fun p q => p.1 = q.1 ∧ H q.2.1 = some (.tup (p.1.map kV)) ∧ RelV p.2 q.2.2
theorem KT.val {H : Hp} {kvs : List (List Key × V)} {xs : List (List Key × Addr × Value)} (r : KT H kvs xs) (k : List Key) : sL (oh kvs k) ((atKey xs k).map (·.2)) := by
  induction r with
  | nil => exact True.intro
  | @cons p q ps qs h t ih =>
    obtain ⟨h1, _, h2⟩ := h
    by_cases e : p.1 = k
    · have e' : q.1 = k := h1.symm.trans e
      have b : atKey (q :: qs) k = some q.2 := by simp [atKey, List.find?_cons, e']
      rw [tO e, b]; exact h2
    · have e' : ¬ q.1 = k := fun z => e (h1.trans z)
      have b : atKey (q :: qs) k = atKey qs k := by simp [atKey, List.find?_cons, e']
      rw [pZ e, b]; exact ih
theorem KT.repl {H : Hp} {kvs : List (List Key × V)} {xs : List (List Key × Addr × Value)} (r : KT H kvs xs) (k : List Key) {y : V} {u : Value} (ry : RelV y u) :
    KT H (kvs.map fun kv => if kv.1 = k then (kv.1, y) else kv) (xs.map (putAt k u)) := by
  induction r with
  | nil => exact .nil
  | @cons p q ps qs h t ih =>
    rw [List.map_cons, List.map_cons]
    refine .cons ?_ ih
    obtain ⟨h1, h2, h3⟩ := h
    unfold putAt
    by_cases e : p.1 = k
    · rw [if_pos e, if_pos (h1.symm.trans e)]; exact ⟨h1, h2, ry⟩
    · rw [if_neg e, if_neg (fun z => e (h1.trans z))]; exact ⟨h1, h2, h3⟩
theorem KT.put {H : Hp} {kvs : List (List Key × V)} {xs : List (List Key × Addr × Value)} (r : KT H kvs xs) (k : List Key) {b : Addr} {y : V} {u : Value} (hb : H b = some (.tup (k.map kV))) (ry : RelV y u) :
    KT H (putK kvs k y) (storedH xs k b u) := by
  have e : (kvs.any fun kv => decide (kv.1 = k)) = (atKey xs k).isSome := by
    rw [yU, (r.val k).Dh, Option.isSome_map]
  unfold putK storedH
  rw [e]
  by_cases q : (atKey xs k).isSome = true
  · rw [if_pos q, if_pos q]; exact r.repl k ry
  · rw [if_neg q, if_neg q]; exact Paired.snoc r ⟨rfl, hb, ry⟩
theorem KT.keeps {H H' : Hp} {kvs : List (List Key × V)} {xs : List (List Key × Addr × Value)} (r : KT H kvs xs) (ht : ∀ b ys, H b = some (.tup ys) → H' b = some (.tup ys)) : KT H' kvs xs :=
  Paired.JU r fun _ _ z => ⟨z.1, ht _ _ z.2.1, z.2.2⟩
section
variable {P : Program} {w : World} {H : Hp} {h : Heap} {a : Addr}
theorem Jo {u : HO} (ok : mW P w H h) (e : Rd H a u) : fk P w H h a u := e.ok ok
theorem Ey {kvs : List (Key × V)} (ok : mW P w H h) (e : Rd H a (.dK kvs)) : kvs.length ≤ sizeLine ∧ (a == sysModules) = false ∧ ∃ vs, KV kvs vs ∧ h.DictOf (dG P w) a vs :=
  show fk P w H h a (.dK kvs) from Jo ok e
theorem MY {kvs : List (Key × V)} (ok : mW P w H h) (e : H a = some (.dK kvs)) : kvs.length ≤ sizeLine ∧ (a == sysModules) = false ∧ ∃ vs, KV kvs vs ∧ h.DictOf (dG P w) a vs := Ey ok (.inl e)
theorem xq {ks : List Key} (ok : mW P w H h) (e : H a = some (.tup (ks.map kV))) : (tupleKind (dG P w)).is h ks a := by
  obtain ⟨_, its, r, o, h1, h2, n, h3⟩ := (show fk P w H h a (.tup (ks.map kV)) from ok a _ e)
  exact ⟨o, its.toArray, n, h1, h2, h3, by simpa using we r⟩
theorem Ez {kvs : List (List Key × V)} (ok : mW P w H h) (e : Rd H a (.dT kvs)) : kvs.length ≤ sizeLine ∧ (a == sysModules) = false ∧
    ∃ xs, KT H kvs xs ∧ h.DictOfH (tupleKind (dG P w)) a xs := by
  obtain ⟨z, y, xs, r, o, es, ep, h1, h2, h3, h4, h5⟩ := (show fk P w H h a (.dT kvs) from Jo ok e)
  refine ⟨z, y, xs, r, o, es, ep, h1, h2, h3, h4, fun x hx => ?_, h5⟩
  have all : ∀ {l : List (List Key × V)} {m : List (List Key × Addr × Value)}, KT H l m → ∀ x ∈ m, (tupleKind (dG P w)).is h x.1 x.2.1 := by
    intro l m q
    induction q with
    | nil => intro x hx; exact nomatch hx
    | @cons p q ps qs hq t ih =>
      intro x hx
      rcases List.mem_cons.mp hx with e | hx
      · subst e
        exact xq ok (by rw [← hq.1]; exact hq.2.1)
      · exact ih x hx
  exact all r x hx
theorem Jp {kvs : List (List Key × V)} (ok : mW P w H h) (e : H a = some (.dT kvs)) : kvs.length ≤ sizeLine ∧ (a == sysModules) = false ∧
    ∃ xs, KT H kvs xs ∧ h.DictOfH (tupleKind (dG P w)) a xs := Ez ok (.inl e)
end
noncomputable def EA (H : Hp) (a : Addr) (y : V) (r : Option V) : Prop :=
  (∃ kvs k, Rd H a (.dK kvs) ∧ y = kV k ∧ r = oh kvs k) ∨ ∃ kvs k b, Rd H a (.dT kvs) ∧ y = .ref b ∧ H b = some (.tup (k.map kV)) ∧ r = oh kvs k
noncomputable def u0 (H : Hp) (a : Addr) (y v : V) (H' : Hp) : Prop :=
  (∃ kvs k, H a = some (.dK kvs) ∧ y = kV k ∧ kvs.length < sizeLine ∧ H' = upd H a (.dK (putK kvs k v))) ∨
  ∃ kvs k b, H a = some (.dT kvs) ∧ y = .ref b ∧ H b = some (.tup (k.map kV)) ∧ kvs.length < sizeLine ∧ H' = upd H a (.dT (putK kvs k v))
theorem EA.k {H : Hp} {a : Addr} {kvs : List (Key × V)} {k : Key} (e : H a = some (.dK kvs)) : EA H a (kV k) (oh kvs k) := .inl ⟨kvs, k, .inl e, rfl, rfl⟩
theorem u0.k {H : Hp} {a : Addr} {kvs : List (Key × V)} {k : Key} {v : V} (e : H a = some (.dK kvs)) (hl : kvs.length < sizeLine) : u0 H a (kV k) v (upd H a (.dK (putK kvs k v))) := .inl ⟨kvs, k, e, rfl, hl, rfl⟩
theorem u0.t {H : Hp} {a b : Addr} {kvs : List (List Key × V)} {k : List Key} {v : V} (e : H a = some (.dT kvs)) (eb : H b = some (.tup (k.map kV))) (hl : kvs.length < sizeLine) :
    u0 H a (.ref b) v (upd H a (.dT (putK kvs k v))) := .inr ⟨kvs, k, b, e, rfl, eb, hl, rfl⟩
section
variable {X : Cx} {pins : List (Addr × Obj)} {σ : St} {H : Hp} {s : Shared} {a : Addr} {y v : V} {u r : Value} {o : Option V} {A : Around} {E : Value → Shared → Prop}
theorem Inv.big (I : Inv X pins σ H s) : sysModules < s.heap.objs.size := by
  have h : mainGlobals < s.heap.objs.size := (I.mod.glob.keeps I.bk).lt
  exact Nat.lt_trans (by decide) h
theorem Di {Q : Value → Shared → Prop} (hu : A.units + 1 < cLine) (I : Inv X pins σ H s) (g : EA H a y (some v)) (ry : RelV y u) (h : ∀ w' s', Inv X pins σ H s' → RelV v w' → Q w' s') :
    wpAny (model X.prog X.w) A (getItem (.ref a) u) Q E s := by
  rcases g with ⟨kvs, k, e, ey, l⟩ | ⟨kvs, k, b, e, ey, eb, l⟩
  · subst ey
    obtain ⟨z, hd, vs, rel, dd⟩ := Ey I.hok e
    obtain ⟨w', hw, rw'⟩ := sL.some_of (v := v) (o := valueAt vs k) (by rw [l]; exact rel.val k)
    exact wpAny_getItem_of (Ex ry) dd.mapOf hw (h w' _ (I.tok _) rw')
  · subst ey
    cases (show u = Value.ref b from ry)
    obtain ⟨z, hd, xs, rel, dd⟩ := Ez I.hok e
    obtain ⟨w', hw, rw'⟩ := sL.some_of (v := v) (o := (atKey xs k).map (·.2)) (by rw [l]; exact rel.val k)
    obtain ⟨p, hp, hp2⟩ := Option.map_eq_some_iff.mp hw
    refine wpAny_getItem_heap (tupleKind_room_in1 hu) (xq I.hok eb) dd hp ?_
    rw [hp2]
    exact h w' _ (I.tok _) rw'
theorem xr {h' : Heap} {t' : Nat} {ob : HO} (I : Inv X pins σ H s) (mu : Mm (H a)) (hs : Heap.SameBut a s.heap h') (he : ∃ q, h'.get? a = some q) (new : fk X.prog X.w (upd H a ob) h' a ob) :
    Inv X pins σ (upd H a ob) { s with heap := h', toks := t' } :=
  I.write (x := a) (e := a) mu (.inl rfl) (fun b q hb z => (hs.2 b hb).trans z) he new
theorem KI {P : Program} {w : World} {H' : Hp} {h' : Heap} {kvs : List (Key × V)} {vs : List (Key × Value)} (z : kvs.length ≤ sizeLine) (hd : (a == sysModules) = false) (rel : KV kvs vs) (dd : h'.DictOf (dG P w) a vs) :
    fk P w H' h' a (.dK kvs) := ⟨z, hd, vs, rel, dd⟩
theorem Dj {H' : Hp} {Q : Unit → Shared → Prop} (hu : A.units + 1 < cLine) (I : Inv X pins σ H s) (g : u0 H a y v H') (ry : RelV y u) (rv : RelV v r) (h : ∀ s', Inv X pins σ H' s' → Q () s') :
    wpAny (model X.prog X.w) A (setItem (.ref a) u r) Q E s := by
  rcases g with ⟨kvs, k, e, ey, l, eH⟩ | ⟨kvs, k, b, e, ey, eb, l, eH⟩
  · subst ey eH
    obtain ⟨z, hd, vs, rel, dd⟩ := MY I.hok e
    have hz : vs.length ≤ sizeLine := by rw [← rel.length]; exact z
    have hl : (putK kvs k v).length ≤ sizeLine := by have := m5 kvs k v; omega
    refine wpAny_setItem_pairs (hsz := hz) (Ex ry) dd fun h' L4 hs => h _ ?_
    have he : ∃ q, h'.get? a = some q := let ⟨q, _, _, hq, _⟩ := L4; ⟨q, hq⟩
    exact xr I (by rw [e]; exact True.intro) hs he (KI hl hd (rel.put k rv) L4)
  · subst ey eH
    cases (show u = Value.ref b from ry)
    obtain ⟨z, hd, xs, rel, dd⟩ := Jp I.hok e
    have hz : xs.length ≤ sizeLine := by rw [← Paired.length rel]; exact z
    have hl : (putK kvs k v).length ≤ sizeLine := by have := m5 kvs k v; omega
    refine wpAny_setItem_heap (hsz := hz) (tupleKind_room_in1 hu) (xq I.hok eb) dd fun h' L4 hs => h _ ?_
    obtain ⟨q, es, ep, hq, h2, h3, h4, _, h5⟩ := L4
    refine xr I (by rw [e]; exact True.intro) hs ⟨q, hq⟩ ⟨hl, hd, _, (rel.put k eb rv).keeps fun c ys ec => ?_, q, es, ep, hq, h2, h3, h4, h5⟩
    rw [aJ (gT ec e (fun z => nomatch z))]
    exact ec
end
section
variable {X : Cx} {pins : List (Addr × Obj)} {σ : St} {H : Hp} {s : Shared} {a : Addr} {kvs : List (Key × V)} {k : Key} {u : Value} {A : Around} {E : Value → Shared → Prop}
end
noncomputable def KJ (i : Expr) : Prop := ∀ ov iv, subscripted i false ov iv = operate [ov, iv] (getItem ov iv)
theorem HG {prog : Program} {w : World} {A : Around} {E : Value → Shared → Prop} {s : Shared} {env : Env} {value slice : Expr} {pos : Pos} {T id : String} {Q : Value → Shared → Prop}
    (hl : typeLookup (.type T) "__getitem__" = pure (some (.builtin id))) (hs : KJ slice)
    (h : wpAny (model prog w) A (eval value env) (fun o s₁ => wpAny (model prog w) A (eval slice env) (fun i s₂ => s₂.TypeIs o T ∧ wpAny (model prog w) A (getItem o i) Q E s₂) E s₁) E s) :
    wpAny (model prog w) A (eval (.Subscript value slice pos) env) Q E s := by
  refine Subscript_ (wpAny_mono h (fun o s₁ h₁ => wpAny_mono h₁ (fun i s₂ h₂ => ?_) fun _ _ x => x) fun _ _ x => x)
  obtain ⟨hT, h₂⟩ := h₂
  unfold subscriptTail
  refine wpAny_bind ?_
  rw [getitemInPython_of_ne hT.not_modules]
  refine wpAny_bind (wpAny_specialOf hT hl ?_)
  have fin : wpAny (model prog w) A (subscripted slice false o i) (fun r s₃ => wpAny (model prog w) A (letTemporaryGo value o r >>= fun _ => pure r) Q E s₃) E s₂ := by
    rw [hs o i]
    exact wpAny_operating (wpAny_mono h₂ (fun r s₃ h₃ => wpAny_bind (wpAny_letTemporaryGo (wpAny_pure h₃))) fun _ _ x => x)
  first
    | exact wpAny_pure (wpAny_bind fin)
    | exact wpAny_bind (wpAny_pure (wpAny_bind fin))
    | exact wpAny_bind fin
theorem yV {X : Cx} {pins : List (Addr × Obj)} {σ : St} {H : Hp} {s : Shared} {a : Addr} {y : V} {o : Option V} (I : Inv X pins σ H s) (g : EA H a y o) : s.TypeIs (.ref a) "dict" := by
  rcases g with ⟨kvs, k, e, _, _⟩ | ⟨kvs, k, b, e, _, _, _⟩
  · obtain ⟨_, _, vs, _, dd⟩ := Ey I.hok e
    exact dd.typeIs
  · obtain ⟨_, _, xs, _, dd⟩ := Ez I.hok e
    exact dd.typeIs
noncomputable def MZ (td ty : TE) : TE := fun σ H Q => td σ H fun x H1 => ty σ H1 fun y H2 => ∃ a v, x = .ref a ∧ EA H2 a y (some v) ∧ Q v H2
noncomputable def B4 (td ty tv : TE) : TS := fun D σ H => tv σ H fun v H1 => td σ H1 fun x H2 => ty σ H2 fun y H3 => ∃ a H4, x = .ref a ∧ u0 H3 a y v H4 ∧ D.nx σ H4
section
variable {X : Cx} {o i e value : Expr} {pos pos' tpos : Pos} {td ty tv : TE}
theorem HH (hu : X.A.units + 1 < cLine) (ho : PE X o td) (hi : PE X i ty) (hs : KJ i) : PE X (.Subscript o i pos) (MZ td ty) := by
  intro pins s σ H Q I h
  refine HG PySem.F.slot_dict_getitem.lookup hs (fT (ho pins s σ H _ I h) fun u s1 ⟨x, H1, I1, rx, q1⟩ => fT (hi pins s1 σ H1 _ I1 q1) fun iv s2 ⟨y, H2, I2, ry, a, v, ex, g, q2⟩ => ?_)
  subst ex
  obtain rfl : u = Value.ref a := rx
  exact ⟨yV I2 g, Di hu I2 g ry fun w' s3 I3 rw' => ⟨v, H2, I3, rw', q2⟩⟩
theorem HJ (hu : X.A.units + 1 < cLine) (ho : PE X o td) (hi : PE X i ty) (hv : PE X value tv) (hs : swapsWith value (some (.Subscript o i pos')) pos.line X.env = pure false) :
    PS X (.Assign [.Subscript o i pos'] value pos) (B4 td ty tv) := by
  intro pins s σ H D I h
  refine wpAny_Assign_Subscript (fT (hv pins s σ H _ I h) fun r s1 ⟨v, H1, I1, rv, q1⟩ => fT (ho pins s1 σ H1 _ I1 q1) fun u s2 ⟨x, H2, I2, rx, q2⟩ => fT (hi pins s2 σ H2 _ I2 q2) fun iv s3 ⟨y, H3, I3, ry, a, H4, ex, g, q3⟩ => ?_) hs
  subst ex
  obtain rfl : u = Value.ref a := rx
  exact Dj hu I3 g ry rv fun s4 I4 => ⟨σ, H4, I4, q3⟩
end
theorem yW {P : Program} {w : World} {H : Hp} (h : Heap) (hb : sysModules < h.objs.size) : fk P w H (h.push { cls := .type "dict", data := .dict #[] }) h.objs.size (.dT []) :=
  ⟨Nat.zero_le _, beq_eq_false_iff_ne.mpr (Ne.symm (Nat.ne_of_lt hb)), [], .nil, _, #[], 0, Heap.get?_push_size _ rfl, ⟨rfl, rfl, rfl⟩, rfl, rfl, List.nodup_nil⟩
noncomputable def KL : TE := fun _ H Q => ∀ p, H p = none → Q (.ref p) (upd H p (.dT []))
section
variable {X : Cx} {pos : Pos}
theorem EB : PE X (.Dict [] [] pos) KL := fun pins s σ H Q I h =>
  wpAny_Dict_empty ⟨.ref s.heap.objs.size, _, I.laid (a := s.heap.objs.size) (o := .dT []) (t' := s.toks) (fun _ _ q => Heap.get?_push_of_some _ q) (Nat.le_refl _) (yW s.heap I.big), rfl, h _ (I.hok.fresh (Nat.le_refl _))⟩
end
structure M1 (X : Cx) (o : Expr) (m : Str) (apos : Pos) (e : Expr) (cpos : Pos) : Prop where
  base : attributeBase o m X.env (eval o X.env) = eval o X.env
  few : ((backTo cpos (starEach [e] X.env)).all (fun x => !x.1) && (backToKw cpos (keywordEach [] X.env)).all (fun x => x.1.isSome)
    && decide (([e] : List Expr).length + ([] : List Keyword).length + (if ([] : List Keyword).isEmpty then 0 else 1) < 30)) = true
  line : (apos.endLine == cpos.line) = true
  trees : backTo cpos (starEach [e] X.env) = [(false, eval e X.env)]
structure M2 (X : Cx) (o : Expr) (m : Str) (apos : Pos) (e f : Expr) (cpos : Pos) : Prop where
  base : attributeBase o m X.env (eval o X.env) = eval o X.env
  few : ((backTo cpos (starEach [e, f] X.env)).all (fun x => !x.1) && (backToKw cpos (keywordEach [] X.env)).all (fun x => x.1.isSome)
    && decide (([e, f] : List Expr).length + ([] : List Keyword).length + (if ([] : List Keyword).isEmpty then 0 else 1) < 30)) = true
  line : (apos.endLine == cpos.line) = true
  trees : backTo cpos (starEach [e, f] X.env) = [(false, eval e X.env), (false, eval f X.env)]
section
variable {X : Cx} {pins : List (Addr × Obj)} {σ : St} {H : Hp} {s : Shared} {a : Addr} {y d : V} {u r : Value} {o : Option V} {A : Around} {E : Value → Shared → Prop}
end
section
variable {X : Cx} {o e f : Expr} {apos cpos : Pos} {td ty tx : TE}
end
section
variable {X : Cx} {pins : List (Addr × Obj)} {σ : St} {H : Hp} {s : Shared} {a : Addr} {kvs : List (Key × V)} {A : Around} {E : Value → Shared → Prop}
end
section
variable {X : Cx} {pins : List (Addr × Obj)} {σ : St} {H : Hp} {s : Shared} {a : Addr} {y : V} {u : Value} {A : Around} {E : Value → Shared → Prop}
end
end L2
end
section
set_option Elab.async false
set_option linter.all false
set_option maxRecDepth 100000
namespace L3
open PySem PySem.Spec L2
inductive D where
 | cj | bl (b : Bool) | int (i : Int) | str (x : Str) | tup (xs : List D) | con (xs : List D) | obj (n : Nat) | fn (x : Str) | u6 (cls : Str) (args : List D)
inductive DO where
 | lst (xs : List D)
 | dead
 | dct (kvs : List (Key × D))
 | d8 (fz : Bool) (kvs : List (List Key × D))
noncomputable abbrev DH := List DO
noncomputable abbrev DS := List (Option D)
inductive XD where
 | mk (cls : Str) (args : List D)
inductive Out (α : Type) where
 | stuck
 | ok (a : α) (G : DH)
 | bY (c : XD) (G : DH)
noncomputable abbrev M (α : Type) := DH → Out α
noncomputable def M.bind {α β : Type} (m : M α) (k : α → M β) : M β := fun G => match m G with
 | .stuck => .stuck
 | .ok a G' => k a G'
 | .bY c G' => .bY c G'
noncomputable def M.ret {α : Type} (a : α) : M α := fun G => .ok a G
noncomputable def M.stop {α : Type} : M α := fun _ => .stuck
noncomputable def yJ (H : Hp) (a : Addr) (xs : List V) : Prop := H a = some (.tup xs)
theorem yJ.of {H : Hp} {a : Addr} {xs : List V} (h : H a = some (.tup xs)) : yJ H a xs := h
theorem yJ.t {K : PySem.W.Frag} {H : Hp} {a : Addr} {xs : List V} (h : yJ H a xs) : n9 K H a xs := .inl (.inl h)
instance {K : PySem.W.Frag} {H : Hp} {a : Addr} {xs : List V} : Coe (yJ H a xs) (n9 K H a xs) := ⟨yJ.t⟩
noncomputable def KN (K : PySem.W.Frag) (H : Hp) (a : Addr) (xs : List V) : Prop :=
 (∃ o, H a = some (.jc o (.lst xs))) ∨
  ∃ (o : Obj) (its : Array Value) (n : Nat), K.lookup a = some o ∧ o.cls = .type "list" ∧ o.dict = none ∧ o.data = .seq its n ∧ its.size ≤ sizeLine ∧ Vals xs its.toList
theorem KN.seq {K : PySem.W.Frag} {H : Hp} {a : Addr} {xs : List V} (h : KN K H a xs) : mH K H a xs := by
 rcases h with ⟨o, h⟩ | h
 ·exact .inl (.inr ⟨o, h⟩)
 ·exact .inr h
noncomputable def M0 (a : Addr) (cv : Value) : Heap → Prop := fun h => ∃ o, h.get? a = some o ∧ o.cls = cv
mutual
noncomputable def Rep (K : PySem.W.Frag) (mg : Str → Option Value) (ρ : List Addr) (H : Hp) : D → V → Prop
 | .cj, v => v = .cj
 | .bl b, v => v = .bl b
 | .int i, v => v = .int i
 | .str x, v => v = .str x
 | .tup ds, v => ∃ a xs, v = .ref a ∧ yJ H a xs ∧ au K mg ρ H ds xs
 | .con ds, v => ∃ a xs, v = .ref a ∧ KN K H a xs ∧ au K mg ρ H ds xs
 | .obj n, v => ∃ a, v = .ref a ∧ ρ[n]? = some a
 | .fn x, v => ∃ a, v = .ref a ∧ mg x = some (.ref a)
 | .u6 c _, v => ∃ a cv, v = .ref a ∧ mg c = some cv ∧ H a = some (.ext (M0 a cv))
noncomputable def au (K : PySem.W.Frag) (mg : Str → Option Value) (ρ : List Addr) (H : Hp) : List D → List V → Prop
 | [], vs => vs = []
 | d :: ds, vs => ∃ v r, vs = v :: r ∧ Rep K mg ρ H d v ∧ au K mg ρ H ds r
end
noncomputable def stay : HO → Bool
 | .ext _ => true
 | .jc _ _ => true
 | _ => false
noncomputable def EC (H : Hp) (a : Addr) (u : HO) : Prop := H a = some u ∧ stay u = true
theorem EC.upd {H : Hp} {p a : Addr} {o u w : HO} (h : EC H a u) (hp : H p = some o) (ho : stay o = false) : EC (L2.upd H p w) a u :=
 ⟨by rw [aJ (gT h.1 hp (by rintro rfl; rw [h.2] at ho; cases ho))]; exact h.1, h.2⟩
structure dh (K : PySem.W.Frag) (H H' : Hp) (ρ ρ' : List Addr) : Prop where
 tup : ∀ a xs, yJ H a xs → yJ H' a xs
 con : ∀ a xs, KN K H a xs → KN K H' a xs
 pre : ∃ r, ρ' = ρ ++ r
 ext : ∀ a u, EC H a u → EC H' a u
section
variable {K : PySem.W.Frag} {mg : Str → Option Value} {H H' H1 H2 : Hp} {ρ ρ' ρ1 ρ2 : List Addr}
theorem dh.refl : dh K H H ρ ρ := ⟨fun _ _ h => h, fun _ _ h => h, ⟨[], by simp⟩, fun _ _ h => h⟩
theorem dh.trans (a : dh K H H1 ρ ρ1) (b : dh K H1 H2 ρ1 ρ2) : dh K H H2 ρ ρ2 := by
 obtain ⟨r1, e1⟩ := a.pre
 obtain ⟨r2, e2⟩ := b.pre
 exact ⟨fun x xs h => b.tup x xs (a.tup x xs h), fun x xs h => b.con x xs (a.con x xs h), ⟨r1 ++ r2, by rw [e2, e1, List.append_assoc]⟩, fun x φ h => b.ext x φ (a.ext x φ h)⟩
theorem dh.get (f : dh K H H' ρ ρ') {n : Nat} {a : Addr} (h : ρ[n]? = some a) : ρ'[n]? = some a := by
 obtain ⟨r, e⟩ := f.pre
 rw [e, List.getElem?_append_left (List.getElem?_eq_some_iff.mp h).1]; exact h
mutual
theorem Rep.mono (f : dh K H H' ρ ρ') : ∀ (d : D) (v : V), Rep K mg ρ H d v → Rep K mg ρ' H' d v
 | .cj, v, h => by unfold Rep at h ⊢; exact h
 | .bl b, v, h => by unfold Rep at h ⊢; exact h
 | .int i, v, h => by unfold Rep at h ⊢; exact h
 | .str x, v, h => by unfold Rep at h ⊢; exact h
 | .tup ds, v, h => by
  unfold Rep at h ⊢
  obtain ⟨a, xs, e, s, r⟩ := h
  exact ⟨a, xs, e, f.tup _ _ s, au.mono f ds xs r⟩
 | .con ds, v, h => by
  unfold Rep at h ⊢
  obtain ⟨a, xs, e, s, r⟩ := h
  exact ⟨a, xs, e, f.con _ _ s, au.mono f ds xs r⟩
 | .obj n, v, h => by
  unfold Rep at h ⊢
  obtain ⟨a, e, r⟩ := h
  exact ⟨a, e, f.get r⟩
 | .fn x, v, h => by unfold Rep at h ⊢; exact h
 | .u6 c as, v, h => by
  unfold Rep at h ⊢
  obtain ⟨a, cv, e, m, r⟩ := h
  exact ⟨a, cv, e, m, (f.ext _ _ ⟨r, rfl⟩).1⟩
theorem au.mono (f : dh K H H' ρ ρ') : ∀ (ds : List D) (vs : List V), au K mg ρ H ds vs → au K mg ρ' H' ds vs
 | [], vs, h => by unfold au at h ⊢; exact h
 | d :: ds, vs, h => by
  unfold au at h ⊢
  obtain ⟨v, r, e, h1, h2⟩ := h
  exact ⟨v, r, e, Rep.mono f d v h1, au.mono f ds r h2⟩
end
theorem au.length : ∀ {ds : List D} {vs : List V}, au K mg ρ H ds vs → ds.length = vs.length
 | [], vs, h => by unfold au at h; subst h; rfl
 | d :: ds, vs, h => by
  unfold au at h
  obtain ⟨v, r, rfl, _, h2⟩ := h
  simp [au.length h2]
theorem au.nil : au K mg ρ H [] [] := by unfold au; rfl
theorem au.cons {d : D} {v : V} {ds : List D} {vs : List V} (h : Rep K mg ρ H d v) (t : au K mg ρ H ds vs) : au K mg ρ H (d :: ds) (v :: vs) := by
 unfold au; exact ⟨v, vs, rfl, h, t⟩
theorem au.get : ∀ {ds : List D} {vs : List V} {i : Nat} {d : D}, au K mg ρ H ds vs → ds[i]? = some d → ∃ v, vs[i]? = some v ∧ Rep K mg ρ H d v
 | [], vs, i, d, h, e => by simp at e
 | x :: ds, vs, 0, d, h, e => by
  unfold au at h
  obtain ⟨v, r, rfl, h1, _⟩ := h
  simp at e; subst e
  exact ⟨v, rfl, h1⟩
 | x :: ds, vs, i + 1, d, h, e => by
  unfold au at h
  obtain ⟨v, r, rfl, _, h2⟩ := h
  obtain ⟨u, e1, e2⟩ := au.get (i := i) (d := d) h2 (by simpa using e)
  exact ⟨u, by simpa using e1, e2⟩
theorem au.append : ∀ {ds es : List D} {vs us : List V}, au K mg ρ H ds vs → au K mg ρ H es us → au K mg ρ H (ds ++ es) (vs ++ us)
 | [], es, vs, us, h, h' => by unfold au at h; subst h; exact h'
 | d :: ds, es, vs, us, h, h' => by
  unfold au at h
  obtain ⟨v, r, rfl, h1, h2⟩ := h
  exact .cons h1 (au.append h2 h')
theorem au.take : ∀ (n : Nat) {ds : List D} {vs : List V}, au K mg ρ H ds vs → au K mg ρ H (ds.take n) (vs.take n)
 | 0, _, _, _ => by simpa using au.nil
 | n + 1, [], vs, h => by unfold au at h; subst h; simpa using au.nil
 | n + 1, d :: ds, vs, h => by
  unfold au at h
  obtain ⟨v, r, rfl, h1, h2⟩ := h
  exact .cons h1 (au.take n h2)
theorem au.drop : ∀ (n : Nat) {ds : List D} {vs : List V}, au K mg ρ H ds vs → au K mg ρ H (ds.drop n) (vs.drop n)
 | 0, _, _, h => by simpa using h
 | n + 1, [], vs, h => by unfold au at h; subst h; simpa using au.nil
 | n + 1, d :: ds, vs, h => by
  unfold au at h
  obtain ⟨v, r, rfl, h1, h2⟩ := h
  simpa using au.drop n h2
theorem au.ints : ∀ (ns : List Int), au K mg ρ H (ns.map D.int) (ns.map V.int)
 | [] => .nil
 | n :: ns => .cons (by unfold Rep; rfl) (au.ints ns)
end
noncomputable def HK (K : PySem.W.Frag) (mg : Str → Option Value) (ρ : List Addr) (H : Hp) (a : Addr) : DO → Prop
 | .lst ds => ∃ xs, H a = some (.lst xs) ∧ au K mg ρ H ds xs
 | .dead => ∃ o, H a = some o
 | .dct kvs => ∃ xs, H a = some (.dK ((kvs.map (·.1)).zip xs)) ∧ au K mg ρ H (kvs.map (·.2)) xs
 | .d8 fz kvs => ∃ xs, (if fz = true then ∃ o, H a = some (.jc o (.dT ((kvs.map (·.1)).zip xs))) else H a = some (.dT ((kvs.map (·.1)).zip xs))) ∧ au K mg ρ H (kvs.map (·.2)) xs
structure iB (K : PySem.W.Frag) (mg : Str → Option Value) (H : Hp) (ρ : List Addr) (G : DH) : Prop where
 hl : ρ.length = G.length
 nd : ρ.Nodup
 ob : ∀ (n : Nat) (o : DO), G[n]? = some o → ∃ a, ρ[n]? = some a ∧ HK K mg ρ H a o
noncomputable def u7 (K : PySem.W.Frag) (mg : Str → Option Value) (H : Hp) (ρ : List Addr) (σ : St) (τ : DS) : Prop :=
 σ.length = τ.length ∧ ∀ (i : Nat) (d : D), τ[i]? = some (some d) → ∃ v, σ[i]? = some (some v) ∧ Rep K mg ρ H d v
structure Ab (K : PySem.W.Frag) (mg : Str → Option Value) (σ : St) (H : Hp) (τ : DS) (ρ : List Addr) (G : DH) : Prop where
 st : u7 K mg H ρ σ τ
 hp : iB K mg H ρ G
section
variable {K : PySem.W.Frag} {mg : Str → Option Value} {H H' H1 H2 : Hp} {ρ ρ' ρ1 ρ2 : List Addr} {G G' : DH} {σ : L2.St} {τ : DS}
theorem u7.mono (f : dh K H H' ρ ρ') (h : u7 K mg H ρ σ τ) : u7 K mg H' ρ' σ τ := ⟨h.1, fun i d e => by
 obtain ⟨v, e1, r⟩ := h.2 i d e
 exact ⟨v, e1, r.mono f⟩⟩
theorem u7.set {i : Nat} {d : D} {v : V} (h : u7 K mg H ρ σ τ) (r : Rep K mg ρ H d v) : u7 K mg H ρ (σ.set i (some v)) (τ.set i (some d)) := by
 refine ⟨by simp [h.1], fun j e he => ?_⟩
 by_cases hj : i = j
 ·subst hj
  rw [List.getElem?_set] at he
  by_cases hi : i < τ.length
  ·rw [if_pos rfl, if_pos hi] at he
   cases he
   exact ⟨v, by rw [List.getElem?_set, if_pos rfl, if_pos (by rw [h.1]; exact hi)], r⟩
  ·rw [if_pos rfl, if_neg hi] at he
   cases he
 ·rw [List.getElem?_set_ne hj] at he
  obtain ⟨u, e1, r1⟩ := h.2 j e he
  exact ⟨u, by rw [List.getElem?_set_ne hj]; exact e1, r1⟩
theorem Ab.fut (ab : Ab K mg σ H τ ρ G) (f : dh K H H' ρ ρ') (hp : iB K mg H' ρ' G') : Ab K mg σ H' τ ρ' G' := ⟨ab.st.mono f, hp⟩
theorem iB.lst {n : Nat} {ds : List D} (h : iB K mg H ρ G) (e : G[n]? = some (.lst ds)) : ∃ a xs, ρ[n]? = some a ∧ H a = some (.lst xs) ∧ au K mg ρ H ds xs := by
 obtain ⟨a, e1, xs, e2, r⟩ := h.ob n _ e
 exact ⟨a, xs, e1, e2, r⟩
theorem iB.there {n : Nat} {a : Addr} (h : iB K mg H ρ G) (e : ρ[n]? = some a) : ∃ o, H a = some o := by
 have hn : n < G.length := by rw [← h.hl]; exact (List.getElem?_eq_some_iff.mp e).1
 obtain ⟨a', e1, r⟩ := h.ob n G[n] (List.getElem?_eq_getElem hn)
 rw [e] at e1; cases e1
 cases hg : G[n] with
 | lst xs => rw [hg] at r; obtain ⟨ys, e2, _⟩ := r; exact ⟨_, e2⟩
 | dead => rw [hg] at r; exact r
 | dct kv => rw [hg] at r; obtain ⟨ys, e2, _⟩ := r; exact ⟨_, e2⟩
 | d8 fz kv =>
  rw [hg] at r; obtain ⟨ys, e2, _⟩ := r
  cases fz
  ·exact ⟨_, e2⟩
  ·obtain ⟨o, e2⟩ := e2; exact ⟨_, e2⟩
theorem iB.not_mem {p : Addr} (h : iB K mg H ρ G) (hp : H p = none) : p ∉ ρ := fun hm => by
 obtain ⟨n, hn, e⟩ := List.getElem_of_mem hm
 obtain ⟨o, q⟩ := h.there (n := n) (a := p) (by rw [List.getElem?_eq_getElem hn, e])
 rw [hp] at q; cases q
theorem HK.mono {a : Addr} {o : DO} (f : dh K H H' ρ ρ') (he : ∀ u, H a = some u → H' a = some u) (h : HK K mg ρ H a o) : HK K mg ρ' H' a o := by
 cases o with
 | lst ds =>
  obtain ⟨xs, e, r⟩ := h
  exact ⟨xs, he _ e, r.mono f⟩
 | dead =>
  obtain ⟨o, e⟩ := h
  exact ⟨o, he _ e⟩
 | dct kv =>
  obtain ⟨xs, e, r⟩ := h
  exact ⟨xs, he _ e, r.mono f⟩
 | d8 fz kv =>
  obtain ⟨xs, e, r⟩ := h
  refine ⟨xs, ?_, r.mono f⟩
  cases fz
  ·exact he _ e
  ·obtain ⟨o, e⟩ := e; exact ⟨o, he _ e⟩
theorem ef {p : Addr} {o : HO} (hp : H p = none) (ρ : List Addr) : dh K H (upd H p o) ρ ρ := by
 refine ⟨fun a xs h => ?_, fun a xs h => ?_, ⟨[], by simp⟩, fun a φ h => ⟨by rw [aJ (dg h.1 hp)]; exact h.1, h.2⟩⟩
 ·exact (by rw [yJ, aJ (dg h hp)]; exact h)
 ·rcases h with ⟨q, h⟩ | h
  ·exact .inl ⟨q, by rw [aJ (dg h hp)]; exact h⟩
  ·exact .inr h
theorem xu {p : Addr} {xs ys : List V} (hp : H p = some (.lst xs)) (ρ : List Addr) : dh K H (upd H p (.lst ys)) ρ ρ := by
 refine ⟨fun a zs h => ?_, fun a zs h => ?_, ⟨[], by simp⟩, fun a φ h => h.upd hp rfl⟩
 ·exact (by rw [yJ, aJ (gT h hp (by intro z; cases z))]; exact h)
 ·rcases h with ⟨q, h⟩ | h
  ·exact .inl ⟨q, by rw [aJ (gT h hp (by intro z; cases z))]; exact h⟩
  ·exact .inr h
theorem iB.new {p : Addr} {o : HO} (h : iB K mg H ρ G) (hp : H p = none) : iB K mg (upd H p o) ρ G :=
 ⟨h.hl, h.nd, fun n ob e => by
  obtain ⟨a, e1, r⟩ := h.ob n ob e
  exact ⟨a, e1, r.mono (ef hp ρ) fun u q => by rw [aJ (dg q hp)]; exact q⟩⟩
theorem aB {α : Type} (l : List α) (a : α) : (l ++ [a])[l.length]? = some a := by simp
theorem eV (ρ : List Addr) (p : Addr) : dh K H H ρ (ρ ++ [p]) := ⟨fun _ _ h => h, fun _ _ h => h, ⟨[p], rfl⟩, fun _ _ h => h⟩
theorem iB.more {p : Addr} {ds : List D} {xs : List V} (h : iB K mg H ρ G) (hp : H p = none) (r : au K mg ρ H ds xs) : iB K mg (upd H p (.lst xs)) (ρ ++ [p]) (G ++ [.lst ds]) := by
 have f : dh K H (upd H p (.lst xs)) ρ (ρ ++ [p]) := (ef hp ρ).trans (eV ρ p)
 refine ⟨by simp [h.hl], ?_, fun n ob e => ?_⟩
 ·rw [List.nodup_append]
  refine ⟨h.nd, by simp, fun a ha b hb => ?_⟩
  have e : b = p := by simpa using hb
  subst e
  rintro rfl
  exact h.not_mem hp ha
 ·by_cases hn : n < G.length
  ·rw [List.getElem?_append_left hn] at e
   obtain ⟨a, e1, r'⟩ := h.ob n ob e
   exact ⟨a, f.get e1, r'.mono f fun u q => by rw [aJ (dg q hp)]; exact q⟩
  ·have hl : n < (G ++ [DO.lst ds]).length := (List.getElem?_eq_some_iff.mp e).1
   have hn' : n = G.length := by simp at hl; omega
   subst hn'
   rw [aB] at e
   cases e
   refine ⟨p, by rw [← h.hl, aB], xs, bX, r.mono f⟩
theorem iB.put {n : Nat} {a : Addr} {ds es : List D} {xs ys : List V} (h : iB K mg H ρ G) (hn : ρ[n]? = some a) (ha : H a = some (.lst xs)) (r : au K mg ρ H es ys) : iB K mg (upd H a (.lst ys)) ρ (G.set n (.lst es)) := by
 have f : dh K H (upd H a (.lst ys)) ρ ρ := xu ha ρ
 refine ⟨by simp [h.hl], h.nd, fun m ob e => ?_⟩
 by_cases hm : n = m
 ·subst hm
  rw [List.getElem?_set, if_pos rfl] at e
  split at e
  ·cases e
   exact ⟨a, hn, ys, bX, r.mono f⟩
  ·cases e
 ·rw [List.getElem?_set_ne hm] at e
  obtain ⟨b, e1, r'⟩ := h.ob m ob e
  have hb : b ≠ a := by
   rintro rfl
   obtain ⟨h1, xw⟩ := List.getElem?_eq_some_iff.mp hn
   obtain ⟨h2, D8⟩ := List.getElem?_eq_some_iff.mp e1
   exact hm ((List.getElem_inj h.nd).mp (xw.trans D8.symm))
  exact ⟨b, e1, r'.mono f fun u q => by rw [aJ hb]; exact q⟩
end
noncomputable abbrev fK := XD → St → Hp → Prop
section
variable (K : PySem.W.Frag) (mg : Str → Option Value) (EE : fK)
noncomputable def lA (H : Hp) (σ : St) (τ : DS) (ρ : List Addr) : Out D → VK → Prop
 | .stuck, _ => False
 | .ok d G', Q => ∀ v H' ρ', dh K H H' ρ ρ' → Ab K mg σ H' τ ρ' G' → Rep K mg ρ' H' d v → Q v H'
 | .bY c G', _ => ∀ H' ρ', dh K H H' ρ ρ' → Ab K mg σ H' τ ρ' G' → EE c σ H'
noncomputable def HL (H : Hp) (σ : St) (τ : DS) (ρ : List Addr) : Out Bool → (Bool → Hp → Prop) → Prop
 | .stuck, _ => False
 | .ok b G', Q => ∀ H' ρ', dh K H H' ρ ρ' → Ab K mg σ H' τ ρ' G' → Q b H'
 | .bY c G', _ => ∀ H' ρ', dh K H H' ρ ρ' → Ab K mg σ H' τ ρ' G' → EE c σ H'
noncomputable def M3 (H : Hp) (σ : St) (τ : DS) (ρ : List Addr) : Out (List D) → (List V → Hp → Prop) → Prop
 | .stuck, _ => False
 | .ok ds G', Q => ∀ vs H' ρ', dh K H H' ρ ρ' → Ab K mg σ H' τ ρ' G' → au K mg ρ' H' ds vs → Q vs H'
 | .bY c G', _ => ∀ H' ρ', dh K H H' ρ ρ' → Ab K mg σ H' τ ρ' G' → EE c σ H'
noncomputable def dw (m : DS → M D) : TE := fun σ H Q => ∃ τ ρ G, Ab K mg σ H τ ρ G ∧ lA K mg EE H σ τ ρ (m τ G) Q
noncomputable def liftT (m : DS → M Bool) : TT := fun σ H Q => ∃ τ ρ G, Ab K mg σ H τ ρ G ∧ HL K mg EE H σ τ ρ (m τ G) Q
noncomputable def p5 (m : DS → M (List D)) : TA := fun σ H Q => ∃ τ ρ G, Ab K mg σ H τ ρ G ∧ M3 K mg EE H σ τ ρ (m τ G) Q
inductive Res where
 | stuck
 | nx (τ : DS) (G : DH)
 | rt (d : D) (G : DH)
 | bk (τ : DS) (G : DH)
 | ct (τ : DS) (G : DH)
 | xn (c : XD) (τ : DS) (G : DH)
noncomputable def u9 (H : Hp) (ρ : List Addr) (Dd : Ends) : Res → Prop
 | .stuck => False
 | .nx τ G => ∀ σ' H' ρ', dh K H H' ρ ρ' → Ab K mg σ' H' τ ρ' G → Dd.nx σ' H'
 | .bk τ G => ∀ σ' H' ρ', dh K H H' ρ ρ' → Ab K mg σ' H' τ ρ' G → Dd.bk σ' H'
 | .ct τ G => ∀ σ' H' ρ', dh K H H' ρ ρ' → Ab K mg σ' H' τ ρ' G → Dd.ct σ' H'
 | .rt d G => ∀ v H' ρ', dh K H H' ρ ρ' → iB K mg H' ρ' G → Rep K mg ρ' H' d v → Dd.rt v H'
 | .xn c τ G => ∀ σ' H' ρ', dh K H H' ρ ρ' → Ab K mg σ' H' τ ρ' G → EE c σ' H'
noncomputable abbrev MS := DS → DH → Res
noncomputable def jT (m : MS) : TS := fun Dd σ H => ∃ τ ρ G, Ab K mg σ H τ ρ G ∧ u9 K mg EE H ρ Dd (m τ G)
end
section
variable {K : PySem.W.Frag} {mg : Str → Option Value} {EE : fK} {H H1 : Hp} {σ : L2.St} {τ : DS} {ρ ρ1 : List Addr}
theorem lA.fut {r : Out D} {Q : VK} (f : dh K H H1 ρ ρ1) (h : lA K mg EE H σ τ ρ r Q) : lA K mg EE H1 σ τ ρ1 r Q := by
 cases r with
 | stuck => exact h
 | ok d G' => exact fun v H' ρ' f' => h v H' ρ' (f.trans f')
 | bY c G' => exact fun H' ρ' f' => h H' ρ' (f.trans f')
theorem HL.fut {r : Out Bool} {Q : Bool → Hp → Prop} (f : dh K H H1 ρ ρ1) (h : HL K mg EE H σ τ ρ r Q) : HL K mg EE H1 σ τ ρ1 r Q := by
 cases r with
 | stuck => exact h
 | ok d G' => exact fun H' ρ' f' => h H' ρ' (f.trans f')
 | bY c G' => exact fun H' ρ' f' => h H' ρ' (f.trans f')
theorem M3.fut {r : Out (List D)} {Q : List V → Hp → Prop} (f : dh K H H1 ρ ρ1) (h : M3 K mg EE H σ τ ρ r Q) : M3 K mg EE H1 σ τ ρ1 r Q := by
 cases r with
 | stuck => exact h
 | ok d G' => exact fun v H' ρ' f' => h v H' ρ' (f.trans f')
 | bY c G' => exact fun H' ρ' f' => h H' ρ' (f.trans f')
theorem u9.fut {r : Res} {Dd : Ends} (f : dh K H H1 ρ ρ1) (h : u9 K mg EE H ρ Dd r) : u9 K mg EE H1 ρ1 Dd r := by
 cases r with
 | stuck => exact h
 | nx τ G => exact fun s H' ρ' f' => h s H' ρ' (f.trans f')
 | bk τ G => exact fun s H' ρ' f' => h s H' ρ' (f.trans f')
 | ct τ G => exact fun s H' ρ' f' => h s H' ρ' (f.trans f')
 | rt d G => exact fun s H' ρ' f' => h s H' ρ' (f.trans f')
 | xn c τ G => exact fun s H' ρ' f' => h s H' ρ' (f.trans f')
theorem m6 {m : DS → M D} {k : DS → D → M D} {Q : VK} (h : dw K mg EE (fun τ => (m τ).bind (k τ)) σ H Q) :
  dw K mg EE m σ H fun x H1 => ∃ τ ρ G d, Ab K mg σ H1 τ ρ G ∧ Rep K mg ρ H1 d x ∧ lA K mg EE H1 σ τ ρ (k τ d G) Q := by
 obtain ⟨τ, ρ, G, ab, ok⟩ := h
 refine ⟨τ, ρ, G, ab, ?_⟩
 dsimp only [M.bind] at ok
 cases e : m τ G with
 | stuck => rw [e] at ok; exact ok
 | bY c G' => rw [e] at ok; exact ok
 | ok d G' => rw [e] at ok; exact fun v H' ρ' f bH r => ⟨τ, ρ', G', d, bH, r, ok.fut f⟩
theorem ED {m : DS → M D} {k : DS → D → M Bool} {Q : Bool → Hp → Prop} (h : liftT K mg EE (fun τ => (m τ).bind (k τ)) σ H Q) :
  dw K mg EE m σ H fun x H1 => ∃ τ ρ G d, Ab K mg σ H1 τ ρ G ∧ Rep K mg ρ H1 d x ∧ HL K mg EE H1 σ τ ρ (k τ d G) Q := by
 obtain ⟨τ, ρ, G, ab, ok⟩ := h
 refine ⟨τ, ρ, G, ab, ?_⟩
 dsimp only [M.bind] at ok
 cases e : m τ G with
 | stuck => rw [e] at ok; exact ok
 | bY c G' => rw [e] at ok; exact ok
 | ok d G' => rw [e] at ok; exact fun v H' ρ' f bH r => ⟨τ, ρ', G', d, bH, r, ok.fut f⟩
theorem KO {m : DS → M Bool} {k : DS → Bool → M D} {Q : VK} (h : dw K mg EE (fun τ => (m τ).bind (k τ)) σ H Q) :
  liftT K mg EE m σ H fun b H1 => ∃ τ ρ G, Ab K mg σ H1 τ ρ G ∧ lA K mg EE H1 σ τ ρ (k τ b G) Q := by
 obtain ⟨τ, ρ, G, ab, ok⟩ := h
 refine ⟨τ, ρ, G, ab, ?_⟩
 dsimp only [M.bind] at ok
 cases e : m τ G with
 | stuck => rw [e] at ok; exact ok
 | bY c G' => rw [e] at ok; exact ok
 | ok d G' => rw [e] at ok; exact fun H' ρ' f bH => ⟨τ, ρ', G', bH, ok.fut f⟩
theorem EF {m : DS → M Bool} {k : DS → Bool → M Bool} {Q : Bool → Hp → Prop} (h : liftT K mg EE (fun τ => (m τ).bind (k τ)) σ H Q) :
  liftT K mg EE m σ H fun b H1 => ∃ τ ρ G, Ab K mg σ H1 τ ρ G ∧ HL K mg EE H1 σ τ ρ (k τ b G) Q := by
 obtain ⟨τ, ρ, G, ab, ok⟩ := h
 refine ⟨τ, ρ, G, ab, ?_⟩
 dsimp only [M.bind] at ok
 cases e : m τ G with
 | stuck => rw [e] at ok; exact ok
 | bY c G' => rw [e] at ok; exact ok
 | ok d G' => rw [e] at ok; exact fun H' ρ' f bH => ⟨τ, ρ', G', bH, ok.fut f⟩
theorem KP {m : DS → M D} {k : DS → D → M (List D)} {Q : List V → Hp → Prop} (h : p5 K mg EE (fun τ => (m τ).bind (k τ)) σ H Q) :
  dw K mg EE m σ H fun x H1 => ∃ τ ρ G d, Ab K mg σ H1 τ ρ G ∧ Rep K mg ρ H1 d x ∧ M3 K mg EE H1 σ τ ρ (k τ d G) Q := by
 obtain ⟨τ, ρ, G, ab, ok⟩ := h
 refine ⟨τ, ρ, G, ab, ?_⟩
 dsimp only [M.bind] at ok
 cases e : m τ G with
 | stuck => rw [e] at ok; exact ok
 | bY c G' => rw [e] at ok; exact ok
 | ok d G' => rw [e] at ok; exact fun v H' ρ' f bH r => ⟨τ, ρ', G', d, bH, r, ok.fut f⟩
theorem AN {m : DS → M (List D)} {k : DS → List D → M D} {Q : VK} (h : dw K mg EE (fun τ => (m τ).bind (k τ)) σ H Q) :
  p5 K mg EE m σ H fun x H1 => ∃ τ ρ G d, Ab K mg σ H1 τ ρ G ∧ au K mg ρ H1 d x ∧ lA K mg EE H1 σ τ ρ (k τ d G) Q := by
 obtain ⟨τ, ρ, G, ab, ok⟩ := h
 refine ⟨τ, ρ, G, ab, ?_⟩
 dsimp only [M.bind] at ok
 cases e : m τ G with
 | stuck => rw [e] at ok; exact ok
 | bY c G' => rw [e] at ok; exact ok
 | ok d G' => rw [e] at ok; exact fun v H' ρ' f bH r => ⟨τ, ρ', G', d, bH, r, ok.fut f⟩
noncomputable def bZ {α : Type} (m : M α) (k : α → DH → Res) (x : XD → DH → Res) : DH → Res := fun G => match m G with
 | .stuck => .stuck
 | .ok a G' => k a G'
 | .bY c G' => x c G'
theorem xx {m : DS → M D} {k : DS → D → DH → Res} {Dd : Ends} (h : jT K mg EE (fun τ => bZ (m τ) (k τ) fun c G => .xn c τ G) Dd σ H) :
  dw K mg EE m σ H fun x H1 => ∃ τ ρ G d, Ab K mg σ H1 τ ρ G ∧ Rep K mg ρ H1 d x ∧ u9 K mg EE H1 ρ Dd (k τ d G) := by
 obtain ⟨τ, ρ, G, ab, ok⟩ := h
 refine ⟨τ, ρ, G, ab, ?_⟩
 dsimp only [bZ] at ok
 cases e : m τ G with
 | stuck => rw [e] at ok; exact ok
 | bY c G' => rw [e] at ok; exact fun H' ρ' f bH => ok σ H' ρ' f bH
 | ok d G' => rw [e] at ok; exact fun v H' ρ' f bH r => ⟨τ, ρ', G', d, bH, r, ok.fut f⟩
theorem EG {m : DS → M Bool} {k : DS → Bool → DH → Res} {Dd : Ends} (h : jT K mg EE (fun τ => bZ (m τ) (k τ) fun c G => .xn c τ G) Dd σ H) :
  liftT K mg EE m σ H fun b H1 => ∃ τ ρ G, Ab K mg σ H1 τ ρ G ∧ u9 K mg EE H1 ρ Dd (k τ b G) := by
 obtain ⟨τ, ρ, G, ab, ok⟩ := h
 refine ⟨τ, ρ, G, ab, ?_⟩
 dsimp only [bZ] at ok
 cases e : m τ G with
 | stuck => rw [e] at ok; exact ok
 | bY c G' => rw [e] at ok; exact fun H' ρ' f bH => ok σ H' ρ' f bH
 | ok d G' => rw [e] at ok; exact fun H' ρ' f bH => ⟨τ, ρ', G', bH, ok.fut f⟩
end
noncomputable def QE (X : Cx) (EE : fK) (e : Expr) (m : DS → M D) : Prop := PE X e (dw X.K X.mg EE m)
noncomputable def QT (X : Cx) (EE : fK) (e : Expr) (m : DS → M Bool) : Prop := PT X e (liftT X.K X.mg EE m)
noncomputable def QW (X : Cx) (EE : fK) (e : Expr) (m : DS → M Bool) : Prop := PW X e (liftT X.K X.mg EE m)
noncomputable def QA (X : Cx) (EE : fK) (es : List Expr) (m : DS → M (List D)) : Prop := PA X es (p5 X.K X.mg EE m)
noncomputable def QS (X : Cx) (EE : fK) (st : Stmt) (m : MS) : Prop := PS X st (jT X.K X.mg EE m)
noncomputable def Dk (X : Cx) (EE : fK) (st : List Stmt) (m : MS) : Prop := AD X st (jT X.K X.mg EE m)
section
variable {X : Cx}
theorem PE.mono {e : Expr} {t t' : TE} (h : PE X e t) (i : ∀ σ H Q, t' σ H Q → t σ H Q) : PE X e t' := fun pins s σ H Q I q => h pins s σ H Q I (i _ _ _ q)
theorem PT.mono {e : Expr} {t t' : TT} (h : PT X e t) (i : ∀ σ H Q, t' σ H Q → t σ H Q) : PT X e t' := fun pins s σ H Q I q => h pins s σ H Q I (i _ _ _ q)
theorem PA.mono {e : List Expr} {t t' : TA} (h : PA X e t) (i : ∀ σ H Q, t' σ H Q → t σ H Q) : PA X e t' := fun pos pins s σ H Q I q => h pos pins s σ H Q I (i _ _ _ q)
theorem PS.mono {e : Stmt} {t t' : TS} (h : PS X e t) (i : ∀ D σ H, t' D σ H → t D σ H) : PS X e t' := fun pins s σ H D I q => h pins s σ H D I (i _ _ _ q)
theorem AD.mono {e : List Stmt} {t t' : TS} (h : AD X e t) (i : ∀ D σ H, t' D σ H → t D σ H) : AD X e t' := fun pins s σ H D I q => h pins s σ H D I (i _ _ _ q)
end
end L3
end
section
set_option Elab.async false
set_option linter.all false
set_option maxRecDepth 100000
namespace L3
open PySem PySem.Spec L2
section
variable {X : Cx} {EE : fK} {a b c : Expr} {ma mb mc : DS → M D} {pos : Pos}
noncomputable def ah (i : Nat) : DS → M D := fun τ G => match τ[i]? with
 | some (some d) => .ok d G
 | _ => .stuck
noncomputable def eC (d : D) : DS → M D := fun _ => M.ret d
theorem KQ (i : Nat) {x : Str} {pos : Pos} (hN : X.N[i]? = some x := by rfl) (hv : LX X.env.scope x := by first | exact Or.inl rfl | exact Or.inr (Or.inl rfl) | exact Or.inr (Or.inr rfl)) (hd : (x == ("__debug__" : Str)) = false := by decide)
  (hcd : (x == ("__classdict__" : Str)) = false := by decide) : QE X EE (.Name x pos) (ah i) := PE.mono (JZ hN hv hd hcd) fun σ H Q ⟨τ, ρ, G, ab, ok⟩ => by
 unfold ah at ok
 cases e : τ[i]? with
 | none => rw [e] at ok; exact ok.elim
 | some o =>
  cases o with
  | none => rw [e] at ok; exact ok.elim
  | some d =>
   rw [e] at ok
   obtain ⟨v, e1, r⟩ := ab.st.2 i d e
   exact ⟨v, e1, ok v H ρ .refl ab r⟩
theorem HM {d : D} {v : V} {e : Expr} (h : PE X e (tC v)) (r : ∀ ρ H, Rep X.K X.mg ρ H d v) : QE X EE e (eC d) := PE.mono h fun σ H Q ⟨τ, ρ, G, ab, ok⟩ => ok v H ρ .refl ab (r ρ H)
theorem aj {i : Int} {j pos} : QE X EE (.Constant (.int i) j pos) (eC (.int i)) := HM J0 fun _ _ => by unfold Rep; rfl
theorem yX {i : Bool} {j pos} : QE X EE (.Constant (.bool i) j pos) (eC (.bl i)) := HM Ms fun _ _ => by unfold Rep; rfl
theorem kh {j pos} : QE X EE (.Constant .none j pos) (eC .cj) := HM J1 fun _ _ => by unfold Rep; rfl
theorem ki {x j pos} : QE X EE (.Constant (.str x) j pos) (eC (.str x)) := HM J2 fun _ _ => by unfold Rep; rfl
noncomputable def ay (f : D → D → M D) (ma mb : DS → M D) : DS → M D := fun τ => (ma τ).bind fun x => (mb τ).bind fun y => f x y
noncomputable def HN (X : Cx) (EE : fK) (r : R2) (f : D → D → M D) : Prop := ∀ (σ : L2.St) (H : Hp) (τ : DS) (ρ : List Addr) (G : DH) (x y : V) (d e : D) (Q : VK),
 Ab X.K X.mg σ H τ ρ G → Rep X.K X.mg ρ H d x → Rep X.K X.mg ρ H e y → lA X.K X.mg EE H σ τ ρ (f d e G) Q → r x y H Q
theorem sV {f : D → D → M D} {r : R2} (hd : HN X EE r f) {σ : L2.St} {H : Hp} {Q : VK} (h : dw X.K X.mg EE (ay f ma mb) σ H Q) :
  MD r (dw X.K X.mg EE ma) (dw X.K X.mg EE mb) σ H Q := by
 obtain ⟨τ, ρ, G, ab, ok⟩ := m6 (k := fun τ x => (mb τ).bind fun y => f x y) h
 refine ⟨τ, ρ, G, ab, ?_⟩
 cases e : ma τ G with
 | stuck => rw [e] at ok; exact ok
 | bY c G' => rw [e] at ok; exact ok
 | ok d G' =>
  rw [e] at ok
  intro v H' ρ' f' bH r'
  obtain ⟨τ2, ρ2, G2, d2, dz, r2, aK⟩ := ok v H' ρ' f' bH r'
  refine ⟨τ2, ρ2, G2, dz, ?_⟩
  dsimp only [M.bind] at aK
  cases e2 : mb τ2 G2 with
  | stuck => rw [e2] at aK; exact aK
  | bY c G' => rw [e2] at aK; exact aK
  | ok d3 G3 =>
   rw [e2] at aK
   exact fun v3 H3 ρ3 f3 AO r3 => hd σ H3 τ2 ρ3 G3 v v3 d2 d3 Q AO (r2.mono f3) r3 (aK.fut f3)
theorem tP {op : Operator} {r : R2} {f : D → D → M D} (ho : ly X (binaryOp op) r) (hd : HN X EE r f) (ha : QE X EE a ma) (hb : QE X EE b mb) : QE X EE (.BinOp a op b pos) (ay f ma mb) :=
 PE.mono (ME ho ha hb) fun _ _ _ h => sV hd h
theorem AQ {op : CmpOp} {r : R2} {f : D → D → M D} (ho : ly X (compareOp op) r) (hd : HN X EE r f) (ha : QE X EE a ma) (hb : QE X EE b mb) (hm : behindInMarks op b = false) : QE X EE (.Compare a [op] [b] pos) (ay f ma mb) :=
 PE.mono (Ho ho ha hb hm) fun _ _ _ h => sV hd h
theorem M4 {r : R2} {f : D → D → M D} (ho : L1 X r) (hd : HN X EE r f) (ha : QE X EE a ma) (hb : QE X EE b mb) (hs : sU b := by intro _ _; rfl) : QE X EE (.Subscript a b pos) (ay f ma mb) :=
 PE.mono (MT ho ha hb hs) fun _ _ _ h => sV hd h
noncomputable def iX (C : Int → Int → Bool) (g : Int → Int → D) : D → D → M D
 | .int i, .int j => if C i j then M.ret (g i j) else M.stop
 | _, _ => M.stop
theorem B5 {C : Int → Int → Bool} {g : Int → Int → D} {d e : D} {G : DH} {σ : L2.St} {H : Hp} {τ : DS} {ρ : List Addr} {Q : VK} (ok : lA X.K X.mg EE H σ τ ρ (iX C g d e G) Q) :
  ∃ i j, d = .int i ∧ e = .int j ∧ C i j = true ∧ lA X.K X.mg EE H σ τ ρ (.ok (g i j) G) Q := by
 cases d <;> cases e <;> try exact ok.elim
 rename_i i j
 dsimp only [iX] at ok
 cases hc : C i j with
 | false => rw [hc] at ok; exact ok.elim
 | true => rw [hc] at ok; exact ⟨i, j, rfl, rfl, hc, ok⟩
theorem sW {C : Int → Int → Bool} {P : Int → Int → Prop} {g : Int → Int → D} {gv : Int → Int → V} (hC : ∀ i j, C i j = true → P i j) (hg : ∀ i j ρ H, Rep X.K X.mg ρ H (g i j) (gv i j)) : HN X EE (rI P gv) (iX C g) :=
 fun σ H τ ρ G x y d e Q ab r1 r2 ok => by
  obtain ⟨i, j, rfl, rfl, hc, ok⟩ := B5 ok
  unfold Rep at r1 r2
  exact ⟨i, j, r1, r2, hC i j hc, ok _ H ρ .refl ab (hg i j ρ H)⟩
theorem m7 {g : Int → Int → D} {gv : Int → Int → V} (hg : ∀ i j ρ H, Rep X.K X.mg ρ H (g i j) (gv i j)) : HN X EE (Jl gv) (iX (fun _ _ => true) g) :=
 fun σ H τ ρ G x y d e Q ab r1 r2 ok => by
  obtain ⟨i, j, rfl, rfl, hc, ok⟩ := B5 ok
  unfold Rep at r1 r2
  exact ⟨i, j, r1, r2, ok _ H ρ .refl ab (hg i j ρ H)⟩
noncomputable abbrev Dl := iX (fun _ _ => true) fun i j => .int (i - j)
noncomputable abbrev EH := iX (fun i j => (decide (-(2 ^ 64) < i) && decide (i < 2 ^ 64)) || (decide (-(2 ^ 64) < j) && decide (j < 2 ^ 64))) fun i j => .int (i * j)
noncomputable abbrev mJ := iX (fun _ j => decide (0 < j) && decide (j < 1073741824)) fun i j => .int (i / j)
noncomputable abbrev fj := iX (fun _ j => decide (0 < j)) fun i j => .int (i % j)
noncomputable abbrev M5 := iX (fun i j => decide (0 ≤ j) && (decide (j ≤ 1000000) && decide (i.natAbs < 2 ^ 64))) fun i j => .int (i ^ j.toNat)
noncomputable abbrev O1 := iX (fun _ _ => true) fun i j => .bl (decide (i < j))
noncomputable abbrev EI := iX (fun _ _ => true) fun i j => .bl (decide (j < i))
noncomputable abbrev L5 := iX (fun _ _ => true) fun i j => .bl (decide (j ≤ i))
theorem AR (ha : QE X EE a ma) (hb : QE X EE b mb) : QE X EE (.BinOp a .Sub b pos) (ay Dl ma mb) := tP Kl (m7 fun _ _ _ _ => by unfold Rep; rfl) ha hb
theorem xy (ha : QE X EE a ma) (hb : QE X EE b mb) : QE X EE (.BinOp a .Mult b pos) (ay EH ma mb) := tP Km (sW (fun i j h => by
 simp only [Bool.or_eq_true, Bool.and_eq_true, decide_eq_true_eq] at h; exact h) fun _ _ _ _ => by unfold Rep; rfl) ha hb
theorem jm (ha : QE X EE a ma) (hb : QE X EE b mb) : QE X EE (.BinOp a .FloorDiv b pos) (ay mJ ma mb) := tP Hl (sW (fun i j h => by
 simp only [Bool.and_eq_true, decide_eq_true_eq] at h; exact h) fun _ _ _ _ => by unfold Rep; rfl) ha hb
theorem cO (ha : QE X EE a ma) (hb : QE X EE b mb) : QE X EE (.BinOp a .Mod b pos) (ay fj ma mb) := tP Ko (sW (fun i j h => of_decide_eq_true h) fun _ _ _ _ => by unfold Rep; rfl) ha hb
theorem KR (ha : QE X EE a ma) (hb : QE X EE b mb) : QE X EE (.BinOp a .Pow b pos) (ay M5 ma mb) := tP Kp (sW (fun i j h => by
 simp only [Bool.and_eq_true, decide_eq_true_eq] at h; exact h) fun _ _ _ _ => by unfold Rep; rfl) ha hb
theorem M6 (ha : QE X EE a ma) (hb : QE X EE b mb) : QE X EE (.Compare a [.GtE] [b] pos) (ay L5 ma mb) := AQ Jm (m7 fun _ _ _ _ => by unfold Rep; rfl) ha hb (AH _)
noncomputable def bU (ds : List D) : M D := fun G => if ds.length ≤ sizeLine then .ok (.obj G.length) (G ++ [.lst ds]) else .stuck
noncomputable def kE (ds : List D) : M D := fun G => if ds.length ≤ sizeLine then .ok (.tup ds) G else .stuck
theorem o9 {σ : L2.St} {H : Hp} {τ : DS} {ρ : List Addr} {G : DH} {ds : List D} {vs : List V} {Q : VK} (ab : Ab X.K X.mg σ H τ ρ G) (r : au X.K X.mg ρ H ds vs) (ok : lA X.K X.mg EE H σ τ ρ (bU ds G) Q) :
  vs.length ≤ sizeLine ∧ ∀ p, H p = none → Q (.ref p) (upd H p (.lst vs)) := by
 unfold bU at ok
 split at ok
 ·rename_i hl
  rw [r.length] at hl
  refine ⟨hl, fun p hp => ?_⟩
  have f : dh X.K H (upd H p (.lst vs)) ρ (ρ ++ [p]) := (ef hp ρ).trans (eV ρ p)
  refine ok (.ref p) _ (ρ ++ [p]) f (ab.fut f (ab.hp.more hp r)) ?_
  unfold Rep
  exact ⟨p, rfl, by rw [← ab.hp.hl, aB]⟩
 ·exact ok.elim
theorem xA {σ : L2.St} {H : Hp} {τ : DS} {ρ : List Addr} {G : DH} {ds : List D} {vs : List V} {Q : VK} (ab : Ab X.K X.mg σ H τ ρ G) (r : au X.K X.mg ρ H ds vs) (ok : lA X.K X.mg EE H σ τ ρ (kE ds G) Q) :
  vs.length ≤ sizeLine ∧ ∀ p, H p = none → Q (.ref p) (upd H p (.tup vs)) := by
 unfold kE at ok
 split at ok
 ·rename_i hl
  rw [r.length] at hl
  refine ⟨hl, fun p hp => ?_⟩
  have f : dh X.K H (upd H p (.tup vs)) ρ ρ := ef hp ρ
  refine ok (.ref p) _ ρ f (ab.fut f (ab.hp.new hp)) ?_
  unfold Rep
  exact ⟨p, vs, rfl, .of bX, r.mono f⟩
 ·exact ok.elim
noncomputable def aE : DS → M (List D) := fun _ => M.ret []
noncomputable def ai (m : DS → M D) (r : DS → M (List D)) : DS → M (List D) := fun τ => (m τ).bind fun x => (r τ).bind fun xs => M.ret (x :: xs)
theorem av : QA X EE [] aE := PA.mono Eo fun σ H Q ⟨τ, ρ, G, ab, ok⟩ => ok [] H ρ .refl ab .nil
theorem HP {e : Expr} {es : List Expr} {m : DS → M D} {r : DS → M (List D)} (ha : QE X EE e m) (hr : QA X EE es r) (hs : starEach (e :: es) X.env = (false, eval e X.env) :: starEach es X.env := by rfl) : QA X EE (e :: es) (ai m r) :=
 PA.mono (w9 ha hr hs) fun σ H Q h => by
  obtain ⟨τ, ρ, G, ab, ok⟩ := KP (k := fun τ x => (r τ).bind fun xs => M.ret (x :: xs)) h
  refine ⟨τ, ρ, G, ab, ?_⟩
  cases e : m τ G with
  | stuck => rw [e] at ok; exact ok
  | bY c G' => rw [e] at ok; exact ok
  | ok d G' =>
   rw [e] at ok
   intro v H' ρ' f' bH r'
   obtain ⟨τ2, ρ2, G2, d2, dz, r2, aK⟩ := ok v H' ρ' f' bH r'
   refine ⟨τ2, ρ2, G2, dz, ?_⟩
   dsimp only [M.bind] at aK
   cases e2 : r τ2 G2 with
   | stuck => rw [e2] at aK; exact aK
   | bY c G' => rw [e2] at aK; exact aK
   | ok d3 G3 =>
    rw [e2] at aK
    exact fun v3 H3 ρ3 f3 AO r3 => aK (v :: v3) H3 ρ3 f3 AO (.cons (r2.mono f3) r3)
noncomputable def az (f : List D → M D) (m : DS → M (List D)) : DS → M D := fun τ => (m τ).bind f
theorem nQ {m : DS → M (List D)} {f : List D → M D} {r : List V → Hp → VK → Prop} {σ : L2.St} {H : Hp} {Q : VK}
  (hd : ∀ (H : Hp) (τ : DS) (ρ : List Addr) (G : DH) (xs : List V) (ds : List D), Ab X.K X.mg σ H τ ρ G → au X.K X.mg ρ H ds xs → lA X.K X.mg EE H σ τ ρ (f ds G) Q → r xs H Q)
  (h : dw X.K X.mg EE (az f m) σ H Q) : p5 X.K X.mg EE m σ H fun xs H1 => r xs H1 Q := by
 obtain ⟨τ, ρ, G, ab, ok⟩ := AN (k := fun _ => f) h
 refine ⟨τ, ρ, G, ab, ?_⟩
 cases e : m τ G with
 | stuck => rw [e] at ok; exact ok
 | bY c G' => rw [e] at ok; exact ok
 | ok d G' =>
  rw [e] at ok
  intro v H' ρ' f' bH r'
  obtain ⟨τ2, ρ2, G2, d2, dz, r2, aK⟩ := ok v H' ρ' f' bH r'
  exact hd H' τ2 ρ2 G2 v d2 dz r2 aK
theorem tQ {es : List Expr} {m : DS → M (List D)} {x1} (h : QA X EE es m) : QE X EE (.Tuple es x1 pos) (az kE m) :=
 PE.mono (Ks h) fun σ H Q h => nQ (r := fun xs H1 Q => xs.length ≤ sizeLine ∧ ∀ p, H1 p = none → Q (.ref p) (upd H1 p (.tup xs))) (fun H τ ρ G xs ds ab r ok => xA ab r ok) h
theorem gm {es : List Expr} {m : DS → M (List D)} (h : QA X EE es m) : QE X EE (.List es pos) (az bU m) :=
 PE.mono (Ku h) fun σ H Q h => nQ (r := fun xs H1 Q => xs.length ≤ sizeLine ∧ ∀ p, H1 p = none → Q (.ref p) (upd H1 p (.lst xs))) (fun H τ ρ G xs ds ab r ok => o9 ab r ok) h
noncomputable def CallD (X : Cx) (EE : fK) (r : List V → Hp → VK → Prop) (f : List D → M D) : Prop := ∀ (σ : L2.St) (H : Hp) (τ : DS) (ρ : List Addr) (G : DH) (xs : List V) (ds : List D) (Q : VK),
 Ab X.K X.mg σ H τ ρ G → au X.K X.mg ρ H ds xs → lA X.K X.mg EE H σ τ ρ (f ds G) Q → r xs H Q
theorem EJ {x : Str} {p : Pos} {e : Expr} {es : List Expr} {m : DS → M (List D)} {id : String} {r : List V → Hp → VK → Prop} {f : List D → M D} (hc : gU X (.builtin id) r) (hd : CallD X EE r f) (hm : X.mg x = none) (ha : QA X EE (e :: es) m)
  (hg : Gl X x := by rfl) (hv : bootBuiltins x = some (.builtin id) := by first | rfl | decide) (hn : x ≠ "__name__" := by decide) (hdb : (x == ("__debug__" : Str)) = false := by decide)
  (he : starEach (e :: es) X.env = (false, eval e X.env) :: starEach es X.env := by rfl) (hpl : (backTo pos (starEach es X.env)).any (·.1) = false := by rfl) : QE X EE (.Call (.Name x p) (e :: es) [] pos) (az f m) :=
 PE.mono (Ep hc hg hm hv ha hn hdb he hpl) fun σ H Q h => nQ (r := r) (fun H τ ρ G xs ds ab r ok => hd σ H τ ρ G xs ds Q ab r ok) h
theorem Dm {x : Str} {p : Pos} {e : Expr} {es : List Expr} {m : DS → M (List D)} {T : String} {r : List V → Hp → VK → Prop} {f : List D → M D} (hc : gU X (.type T) r) (hd : CallD X EE r f) (hm : X.mg x = none) (ha : QA X EE (e :: es) m)
  (hg : Gl X x := by rfl) (hv : bootBuiltins x = some (.type T) := by first | rfl | decide) (hn : x ≠ "__name__" := by decide) (hdb : (x == ("__debug__" : Str)) = false := by decide)
  (he : starEach (e :: es) X.env = (false, eval e X.env) :: starEach es X.env := by rfl) (hpl : (backTo pos (starEach es X.env)).any (·.1) = false := by rfl) : QE X EE (.Call (.Name x p) (e :: es) [] pos) (az f m) :=
 PE.mono (De hc hg hm hv ha hn hdb he hpl) fun σ H Q h => nQ (r := r) (fun H τ ρ G xs ds ab r ok => hd σ H τ ρ G xs ds Q ab r ok) h
noncomputable def q8 (f : D → M Bool) (m : DS → M D) : DS → M Bool := fun τ => (m τ).bind f
noncomputable def vc : D → M Bool
 | .cj => M.ret false
 | .bl b => M.ret b
 | .int i => M.ret (i != 0)
 | .str y => if y.length ≤ sizeLine then M.ret ((y.length : Int) != 0) else M.stop
 | .tup xs => M.ret (!xs.isEmpty)
 | .con xs => M.ret (!xs.isEmpty)
 | .obj n => fun G => match G[n]? with
  | some (.lst xs) => .ok (!xs.isEmpty) G
  | _ => .stuck
 | .fn _ => M.stop
 | .u6 _ _ => M.stop
theorem lC {K : PySem.W.Frag} {mg : Str → Option Value} {ρ : List Addr} {H : Hp} {ds : List D} {vs : List V} (r : au K mg ρ H ds vs) : (!vs.isEmpty) = !ds.isEmpty := by
 have := r.length
 cases ds <;> cases vs <;> first | rfl | (simp at this)
theorem EK {m : DS → M D} {σ : L2.St} {H : Hp} {Q : Bool → Hp → Prop} (h : liftT X.K X.mg EE (q8 vc m) σ H Q) :
  dw X.K X.mg EE m σ H fun x H1 => ∃ k, Hr X.K x H1 k ∧ Q k H1 := by
 obtain ⟨τ, ρ, G, ab, ok⟩ := ED (k := fun _ => vc) h
 refine ⟨τ, ρ, G, ab, ?_⟩
 cases e : m τ G with
 | stuck => rw [e] at ok; exact ok
 | bY c G' => rw [e] at ok; exact ok
 | ok d G' =>
  rw [e] at ok
  intro v H' ρ' f' bH r'
  obtain ⟨τ2, ρ2, G2, d2, dz, r2, aK⟩ := ok v H' ρ' f' bH r'
  cases d2 with
  | cj => unfold Rep at r2; subst r2; exact ⟨false, rfl, aK H' ρ2 .refl dz⟩
  | bl b => unfold Rep at r2; subst r2; exact ⟨b, rfl, aK H' ρ2 .refl dz⟩
  | int i => unfold Rep at r2; subst r2; exact ⟨_, rfl, aK H' ρ2 .refl dz⟩
  | str y =>
   unfold Rep at r2; subst r2
   dsimp only [vc] at aK
   split at aK
   ·rename_i hl; exact ⟨_, ⟨hl, rfl⟩, aK H' ρ2 .refl dz⟩
   ·exact aK.elim
  | tup xs =>
   unfold Rep at r2
   obtain ⟨p, vs, rfl, sq, rs⟩ := r2
   exact ⟨!vs.isEmpty, .inr (.inl ⟨vs, sq, rfl⟩), by rw [lC rs]; exact aK H' ρ2 .refl dz⟩
  | con xs =>
   unfold Rep at r2
   obtain ⟨p, vs, rfl, sq, rs⟩ := r2
   exact ⟨!vs.isEmpty, .inl ⟨vs, sq.seq, rfl⟩, by rw [lC rs]; exact aK H' ρ2 .refl dz⟩
  | obj n =>
   unfold Rep at r2
   obtain ⟨p, rfl, e1⟩ := r2
   dsimp only [vc] at aK
   cases q : G2[n]? with
   | none => rw [q] at aK; exact aK.elim
   | some o =>
    cases o with
    | dead => first | (rw [q] at ok; exact ok.elim) | (rw [q] at aK; exact aK.elim) | (rw [q] at e; cases e; done) | (rw [g] at ok; exact ok.elim) | (rw [g] at q; cases q; done) | (rw [g] at h; cases h; done) | (rw [g2] at ok; exact ok.elim) | (rw [g1, g2] at ok; exact ok.elim) | (rw [q1] at ok; exact ok.elim) | exact ok.elim
    | dct kv => first | (rw [q] at ok; exact ok.elim) | (rw [q] at aK; exact aK.elim) | (rw [q] at e; cases e; done) | (rw [g] at ok; exact ok.elim) | (rw [g] at q; cases q; done) | (rw [g] at h; cases h; done) | (rw [g2] at ok; exact ok.elim) | (rw [g1, g2] at ok; exact ok.elim) | (rw [q1] at ok; exact ok.elim) | exact ok.elim
    | d8 fz kv => first | (rw [q] at ok; exact ok.elim) | (rw [q] at aK; exact aK.elim) | (rw [q] at e; cases e; done) | (rw [g] at ok; exact ok.elim) | (rw [g] at q; cases q; done) | (rw [g] at h; cases h; done) | (rw [g2] at ok; exact ok.elim) | (rw [g1, g2] at ok; exact ok.elim) | (rw [q1] at ok; exact ok.elim) | exact ok.elim
    | lst xs =>
     rw [q] at aK
     obtain ⟨p', vs, e2, hp, rs⟩ := dz.hp.lst q
     rw [e1] at e2; cases e2
     exact ⟨!vs.isEmpty, .inl ⟨vs, .of hp, rfl⟩, by rw [lC rs]; exact aK H' ρ2 .refl dz⟩
  | fn x => exact aK.elim
  | u6 c as => exact aK.elim
theorem KS (ha : QE X EE a ma) (he : ∀ whole, isTrue a X.env whole = (do let v ← whole; standAt a.pos; holding [v] (truthy v)) := by intro _; rfl) : QT X EE a (q8 vc ma) :=
 PT.mono (Em ha he) fun σ H Q h => EK h
end
end L3
end
section
set_option Elab.async false
set_option linter.all false
set_option maxRecDepth 100000
namespace L3
open PySem PySem.Spec L2
noncomputable def bR {α β : Type} (f : α → Option β) : List α → Option (List β)
 | [] => some []
 | a :: r => match f a, bR f r with
  | some b, some bs => some (b :: bs)
  | _, _ => none
noncomputable def kF (G : DH) : Nat → D → Option PyData
 | 0, _ => none
 | _ + 1, .cj => some .none
 | _ + 1, .bl b => some (.bool b)
 | _ + 1, .int i => some (.int i)
 | _ + 1, .str x => some (.str x)
 | n + 1, .tup ds => (bR (kF G n) ds).map .tuple
 | n + 1, .con ds => (bR (kF G n) ds).map .list
 | n + 1, .obj k => match G[k]? with
  | some (.lst ds) => (bR (kF G n) ds).map .list
  | _ => none
 | _ + 1, .fn _ => none
 | _ + 1, .u6 _ _ => none
section
variable {X : Cx} {EE : fK} {pins : List (Addr × Obj)} {σ : L2.St} {H : Hp} {s : Shared} {ρ : List Addr} {G : DH}
theorem readsAll {f : D → Option PyData} (hf : ∀ (d : D) (x : V) (u : Value) (p : PyData), Rep X.K X.mg ρ H d x → RelV x u → f d = some p → ∃ as, Reads s.heap u p as) :
  ∀ (ds : List D) (xs : List V) (us : List Value) (ps : List PyData), au X.K X.mg ρ H ds xs → Vals xs us → bR f ds = some ps → ∃ as, ReadsAll s.heap us ps as
 | [], xs, us, ps, r, v, e => by
  unfold au at r; subst r
  cases v; cases e
  exact ⟨[], .nil⟩
 | d :: ds, xs, us, ps, r, v, e => by
  unfold au at r
  obtain ⟨x, r', rfl, h1, h2⟩ := r
  cases v with
  | cons v1 v2 =>
  unfold bR at e
  cases e1 : f d with
  | none => rw [e1] at e; cases e
  | some p =>
   cases e2 : bR f ds with
   | none => rw [e1, e2] at e; cases e
   | some qs =>
    rw [e1, e2] at e
    cases e
    obtain ⟨as, a1⟩ := hf d x _ p h1 v1 e1
    obtain ⟨bs, a2⟩ := readsAll hf ds r' _ qs h2 v2 e2
    exact ⟨as ++ bs, .cons a1 a2⟩
theorem fm (I : Inv X pins σ H s) (hp : iB X.K X.mg H ρ G) : ∀ (n : Nat) (d : D) (x : V) (u : Value) (p : PyData), Rep X.K X.mg ρ H d x → RelV x u → kF G n d = some p → ∃ as, Reads s.heap u p as
 | 0, _, _, _, _, _, _, e => nomatch e
 | n + 1, .cj, x, u, p, r, v, e => by unfold Rep at r; subst r; cases v; cases e; exact ⟨_, .none⟩
 | n + 1, .bl b, x, u, p, r, v, e => by unfold Rep at r; subst r; cases v; cases e; exact ⟨_, .bool b⟩
 | n + 1, .int i, x, u, p, r, v, e => by unfold Rep at r; subst r; obtain ⟨t, rfl⟩ := v; cases e; exact ⟨_, .int i t⟩
 | n + 1, .str y, x, u, p, r, v, e => by unfold Rep at r; subst r; obtain ⟨t, rfl⟩ := v; cases e; exact ⟨_, .str y t⟩
 | n + 1, .tup ds, x, u, p, r, v, e => by
  unfold Rep at r
  obtain ⟨a, xs, rfl, sq, rs⟩ := r
  cases v
  obtain ⟨its, vs, ⟨o, e1, e2, k, e3⟩, _⟩ := I.tuple (yJ.t sq)
  unfold kF at e
  cases q : bR (kF G n) ds with
  | none => rw [q] at e; cases e
  | some ps =>
   rw [q] at e; cases e
   obtain ⟨as, ra⟩ := readsAll (fun d x u p => fm I hp n d x u p) ds xs its ps rs vs q
   exact ⟨as, .tuple e1 e2 e3 (by simpa using ra)⟩
 | n + 1, .con ds, x, u, p, r, v, e => by
  unfold Rep at r
  obtain ⟨a, xs, rfl, sq, rs⟩ := r
  cases v
  obtain ⟨its, vs, ⟨o, k, e1, e2, e3, e4⟩, _⟩ := I.list sq.seq
  unfold kF at e
  cases q : bR (kF G n) ds with
  | none => rw [q] at e; cases e
  | some ps =>
   rw [q] at e; cases e
   obtain ⟨as, ra⟩ := readsAll (fun d x u p => fm I hp n d x u p) ds xs its ps rs vs q
   exact ⟨_, .list e1 e2 e4 (by simpa using ra)⟩
 | n + 1, .obj k, x, u, p, r, v, e => by
  unfold Rep at r
  obtain ⟨a, rfl, e0⟩ := r
  cases v
  dsimp only [kF] at e
  cases q : G[k]? with
  | none => rw [q] at e; cases e
  | some o =>
   cases o with
   | dead => first | (rw [q] at ok; exact ok.elim) | (rw [q] at aK; exact aK.elim) | (rw [q] at e; cases e; done) | (rw [g] at ok; exact ok.elim) | (rw [g] at q; cases q; done) | (rw [g] at h; cases h; done) | (rw [g2] at ok; exact ok.elim) | (rw [g1, g2] at ok; exact ok.elim) | (rw [q1] at ok; exact ok.elim) | exact ok.elim
   | dct kv => first | (rw [q] at ok; exact ok.elim) | (rw [q] at aK; exact aK.elim) | (rw [q] at e; cases e; done) | (rw [g] at ok; exact ok.elim) | (rw [g] at q; cases q; done) | (rw [g] at h; cases h; done) | (rw [g2] at ok; exact ok.elim) | (rw [g1, g2] at ok; exact ok.elim) | (rw [q1] at ok; exact ok.elim) | exact ok.elim
   | d8 fz kv => first | (rw [q] at ok; exact ok.elim) | (rw [q] at aK; exact aK.elim) | (rw [q] at e; cases e; done) | (rw [g] at ok; exact ok.elim) | (rw [g] at q; cases q; done) | (rw [g] at h; cases h; done) | (rw [g2] at ok; exact ok.elim) | (rw [g1, g2] at ok; exact ok.elim) | (rw [q1] at ok; exact ok.elim) | exact ok.elim
   | lst ds =>
    rw [q] at e
    obtain ⟨a', xs, e1, e2, rs⟩ := hp.lst q
    rw [e0] at e1; cases e1
    obtain ⟨its, vs, ⟨o, k, e1, e2, e3, e4⟩, _⟩ := I.list (.of e2)
    dsimp only at e
    cases q : bR (kF G n) ds with
    | none => rw [q] at e; cases e
    | some ps =>
     rw [q] at e; cases e
     obtain ⟨as, ra⟩ := readsAll (fun d x u p => fm I hp n d x u p) ds xs its ps rs vs q
     exact ⟨_, .list e1 e2 e4 (by simpa using ra)⟩
 | n + 1, .fn y, x, u, p, r, v, e => nomatch e
 | n + 1, .u6 y _, x, u, p, r, v, e => nomatch e
end
section
variable {X : Cx} {EE : fK} {a b c : Expr} {ma mb mc : DS → M D} {pos : Pos}
noncomputable def rD (X : Cx) (EE : fK) (f : D → D → M D) : R2 := fun x y H Q => ∃ σ τ ρ G d e, Ab X.K X.mg σ H τ ρ G ∧ Rep X.K X.mg ρ H d x ∧ Rep X.K X.mg ρ H e y ∧ lA X.K X.mg EE H σ τ ρ (f d e G) Q
theorem m8 {f : D → D → M D} : HN X EE (rD X EE f) f := fun σ H τ ρ G x y d e Q ab r1 r2 ok => ⟨σ, τ, ρ, G, d, e, ab, r1, r2, ok⟩
theorem M7 {f : D → D → M D} {r : R2} (h : HN X EE r f) {x y : V} {H : Hp} {Q : VK} (q : rD X EE f x y H Q) : r x y H Q := by
 obtain ⟨σ, τ, ρ, G, d, e, ab, r1, r2, ok⟩ := q
 exact h σ H τ ρ G x y d e Q ab r1 r2 ok
noncomputable abbrev deep : Nat := 600
noncomputable def yY (d e : D) (G : DH) : Option Bool := match kF G deep d, kF G deep e with
 | some p, some q => if p.canLay0 && (q.canLay0 && decide (min p.depth q.depth ≤ 580)) then some (PyData.eqv p q) else none
 | _, _ => none
noncomputable def kD (neg : Bool) (d e : D) : M D := fun G => match yY d e G with
 | some b => .ok (.bl (neg ^^ b)) G
 | none => .stuck
theorem kj (hu : X.A.units + 600 < cLine) : ly X (compareOp .Eq) (rD X EE (kD false)) := by
 intro pins s σ0 H x y v u Q I rx ry ⟨σ, τ, ρ, G, d, e, ab, r1, r2, ok⟩
 dsimp only [kD, yY] at ok
 cases e1 : kF G deep d with
 | none => rw [e1] at ok; exact ok.elim
 | some p =>
  cases e2 : kF G deep e with
  | none => rw [e1, e2] at ok; exact ok.elim
  | some q =>
   rw [e1, e2] at ok
   dsimp only at ok
   by_cases hc : (p.canLay0 && (q.canLay0 && decide (min p.depth q.depth ≤ 580))) = true
   ·rw [if_pos hc] at ok
    simp only [Bool.and_eq_true, decide_eq_true_eq] at hc
    obtain ⟨as, ra⟩ := fm I ab.hp deep d x v p r1 rx e1
    obtain ⟨bs, rb⟩ := fm I ab.hp deep e y u q r2 ry e2
    refine SeqAt.compareEq_reads ra rb hc.1 hc.2.1 (by omega) ⟨.bl _, H, I, rfl, ?_⟩
    have := ok (.bl _) H ρ .refl ab (by unfold Rep; rfl)
    simpa using this
   ·rw [if_neg hc] at ok; exact ok.elim
theorem yZ (hu : X.A.units + 600 < cLine) (ha : QE X EE a ma) (hb : QE X EE b mb) : QE X EE (.Compare a [.Eq] [b] pos) (ay (kD false) ma mb) := AQ (kj hu) m8 ha hb (AH _)
inductive M8 where
 | lst (xs : List D) | tup (xs : List D) | str (x : Str)
noncomputable def aD (G : DH) : D → Option M8
 | .tup xs => some (.tup xs)
 | .con xs => some (.lst xs)
 | .obj n => match G[n]? with
  | some (.lst xs) => some (.lst xs)
  | _ => none
 | .str x => some (.str x)
 | _ => none
noncomputable def D9 (d : D) (ds : List D) (G : DH) : Option Bool := match kF G deep d, bR (kF G deep) ds with
 | some p, some qs => if p.canLay0 && (PyData.canLayAll0 qs && decide (min (PyData.depthAll qs) p.depth ≤ 580)) then some (qs.any fun y => PyData.eqv y p) else none
 | _, _ => none
noncomputable def AS (neg : Bool) (d e : D) : M D := fun G => match aD G e with
 | some (.lst ds) => match D9 d ds G with
  | some b => .ok (.bl (neg ^^ b)) G
  | none => .stuck
 | some (.tup ds) => match D9 d ds G with
  | some b => .ok (.bl (neg ^^ b)) G
  | none => .stuck
 | some (.str j) => match d with
  | .str i => .ok (.bl (neg ^^ !(Builtin.Str.occurrences j i 0 j.length 1).isEmpty)) G
  | _ => .stuck
 | none => .stuck
theorem cJ {pins : List (Addr × Obj)} {σ0 : L2.St} {H : Hp} {s : Shared} {ρ : List Addr} {G : DH} {d : D} {ds : List D} {x : V} (h : iB X.K X.mg H ρ G) (r : Rep X.K X.mg ρ H d x) (e : aD G d = some (.lst ds)) :
  ∃ p xs, x = .ref p ∧ mH X.K H p xs ∧ au X.K X.mg ρ H ds xs := by
 cases d with
 | con xs =>
  cases e
  unfold Rep at r
  obtain ⟨a, xs, rfl, sq, rs⟩ := r
  exact ⟨a, xs, rfl, sq.seq, rs⟩
 | obj n =>
  unfold Rep at r
  obtain ⟨a, rfl, e0⟩ := r
  dsimp only [aD] at e
  cases q : G[n]? with
  | none => rw [q] at e; cases e
  | some o =>
   cases o with
   | dead => first | (rw [q] at ok; exact ok.elim) | (rw [q] at aK; exact aK.elim) | (rw [q] at e; cases e; done) | (rw [g] at ok; exact ok.elim) | (rw [g] at q; cases q; done) | (rw [g] at h; cases h; done) | (rw [g2] at ok; exact ok.elim) | (rw [g1, g2] at ok; exact ok.elim) | (rw [q1] at ok; exact ok.elim) | exact ok.elim
   | dct kv => first | (rw [q] at ok; exact ok.elim) | (rw [q] at aK; exact aK.elim) | (rw [q] at e; cases e; done) | (rw [g] at ok; exact ok.elim) | (rw [g] at q; cases q; done) | (rw [g] at h; cases h; done) | (rw [g2] at ok; exact ok.elim) | (rw [g1, g2] at ok; exact ok.elim) | (rw [q1] at ok; exact ok.elim) | exact ok.elim
   | d8 fz kv => first | (rw [q] at ok; exact ok.elim) | (rw [q] at aK; exact aK.elim) | (rw [q] at e; cases e; done) | (rw [g] at ok; exact ok.elim) | (rw [g] at q; cases q; done) | (rw [g] at h; cases h; done) | (rw [g2] at ok; exact ok.elim) | (rw [g1, g2] at ok; exact ok.elim) | (rw [q1] at ok; exact ok.elim) | exact ok.elim
   | lst ys =>
    rw [q] at e; cases e
    obtain ⟨a', xs, e1, e2, rs⟩ := h.lst q
    rw [e0] at e1; cases e1
    exact ⟨a, xs, rfl, .of e2, rs⟩
 | _ => cases e
theorem tR {H : Hp} {ρ : List Addr} {G : DH} {d : D} {ds : List D} {x : V} (r : Rep X.K X.mg ρ H d x) (e : aD G d = some (.tup ds)) :
  ∃ p xs, x = .ref p ∧ yJ H p xs ∧ au X.K X.mg ρ H ds xs := by
 cases d with
 | tup xs =>
  cases e
  unfold Rep at r
  obtain ⟨a, xs, rfl, sq, rs⟩ := r
  exact ⟨a, xs, rfl, sq, rs⟩
 | obj n =>
  dsimp only [aD] at e
  cases q : G[n]? with
  | none => rw [q] at e; cases e
  | some o => cases o <;> (rw [q] at e; cases e)
 | _ => cases e
theorem fL {H : Hp} {ρ : List Addr} {G : DH} {d : D} {ds : List D} {x : V} (r : Rep X.K X.mg ρ H d x) (e : aD G d = some (.tup ds)) :
  ∃ p xs, x = .ref p ∧ n9 X.K H p xs ∧ au X.K X.mg ρ H ds xs := let ⟨p, xs, h1, h2, h3⟩ := tR r e; ⟨p, xs, h1, h2.t, h3⟩
theorem kG {H : Hp} {ρ : List Addr} {G : DH} {d : D} {y : Str} {x : V} (r : Rep X.K X.mg ρ H d x) (e : aD G d = some (.str y)) : d = .str y ∧ x = .str y := by
 cases d with
 | str z => cases e; unfold Rep at r; exact ⟨rfl, r⟩
 | obj n =>
  dsimp only [aD] at e
  cases q : G[n]? with
  | none => rw [q] at e; cases e
  | some o => cases o <;> (rw [q] at e; cases e)
 | _ => cases e
theorem EL {pins : List (Addr × Obj)} {σ0 : L2.St} {H : Hp} {s : Shared} {ρ : List Addr} {G : DH} {p : Addr} {xs : List V} {ds : List D} {qs : List PyData} (I : Inv X pins σ0 H s) (hp : iB X.K X.mg H ρ G) (sq : mH X.K H p xs) (rs : au X.K X.mg ρ H ds xs)
  (e : bR (kF G deep) ds = some qs) : ∃ as, Reads s.heap (.ref p) (.list qs) as := by
 obtain ⟨its, vs, ⟨o, k, e1, e2, e3, e4⟩, _⟩ := I.list sq
 obtain ⟨as, ra⟩ := readsAll (fun d x u p => fm I hp deep d x u p) ds xs its qs rs vs e
 exact ⟨_, .list e1 e2 e4 (by simpa using ra)⟩
theorem EM {pins : List (Addr × Obj)} {σ0 : L2.St} {H : Hp} {s : Shared} {ρ : List Addr} {G : DH} {p : Addr} {xs : List V} {ds : List D} {qs : List PyData} (I : Inv X pins σ0 H s) (hp : iB X.K X.mg H ρ G) (sq : n9 X.K H p xs) (rs : au X.K X.mg ρ H ds xs)
  (e : bR (kF G deep) ds = some qs) : ∃ as, Reads s.heap (.ref p) (.tuple qs) as := by
 obtain ⟨its, vs, ⟨o, e1, e2, k, e3⟩, _⟩ := I.tuple sq
 obtain ⟨as, ra⟩ := readsAll (fun d x u p => fm I hp deep d x u p) ds xs its qs rs vs e
 exact ⟨_, .tuple e1 e2 e3 (by simpa using ra)⟩
theorem p6 {d : D} {ds : List D} {G : DH} {b : Bool} (h : D9 d ds G = some b) : ∃ p qs, kF G deep d = some p ∧ bR (kF G deep) ds = some qs ∧ p.canLay0 = true ∧ PyData.canLayAll0 qs = true ∧ min (PyData.depthAll qs) p.depth ≤ 580 ∧ b = qs.any fun y => PyData.eqv y p := by
 unfold D9 at h
 cases e1 : kF G deep d with
 | none => rw [e1] at h; cases h
 | some p =>
  cases e2 : bR (kF G deep) ds with
  | none => rw [e1, e2] at h; cases h
  | some qs =>
   rw [e1, e2] at h
   dsimp only at h
   by_cases hc : (p.canLay0 && (PyData.canLayAll0 qs && decide (min (PyData.depthAll qs) p.depth ≤ 580))) = true
   ·rw [if_pos hc] at h
    simp only [Bool.and_eq_true, decide_eq_true_eq] at hc
    exact ⟨p, qs, rfl, rfl, hc.1, hc.2.1, hc.2.2, (Option.some.inj h).symm⟩
   ·rw [if_neg hc] at h; cases h
theorem EN (hu : X.A.units + 600 < cLine) : ly X (compareOp .In) (rD X EE (AS false)) := by
 intro pins s σ0 H x y v u Q I rx ry ⟨σ, τ, ρ, G, d, e, ab, r1, r2, ok⟩
 dsimp only [AS] at ok
 cases q : aD G e with
 | none => rw [q] at ok; exact ok.elim
 | some sk =>
  rw [q] at ok
  cases sk with
  | lst ds =>
   dsimp only at ok
   cases qb : D9 d ds G with
   | none => rw [qb] at ok; exact ok.elim
   | some b =>
    rw [qb] at ok
    obtain ⟨p, qs, e1, e2, h1, h2, h3, rfl⟩ := p6 qb
    obtain ⟨l, xs, rfl, sq, rs⟩ := cJ (pins := pins) (σ0 := σ0) (s := s) ab.hp r2 q
    cases ry
    obtain ⟨as, ra⟩ := fm I ab.hp deep d x v p r1 rx e1
    obtain ⟨bs, rb⟩ := EL I ab.hp sq rs e2
    refine SeqAt.in_list_reads rb ra h2 h1 (by omega) ⟨.bl _, H, I, rfl, ?_⟩
    have := ok (.bl _) H ρ .refl ab (by unfold Rep; rfl)
    simpa using this
  | tup ds =>
   dsimp only at ok
   cases qb : D9 d ds G with
   | none => rw [qb] at ok; exact ok.elim
   | some b =>
    rw [qb] at ok
    obtain ⟨p, qs, e1, e2, h1, h2, h3, rfl⟩ := p6 qb
    obtain ⟨l, xs, rfl, sq, rs⟩ := fL r2 q
    cases ry
    obtain ⟨as, ra⟩ := fm I ab.hp deep d x v p r1 rx e1
    obtain ⟨bs, rb⟩ := EM I ab.hp sq rs e2
    refine SeqAt.in_tuple_reads rb ra h2 h1 (by omega) ⟨.bl _, H, I, rfl, ?_⟩
    have := ok (.bl _) H ρ .refl ab (by unfold Rep; rfl)
    simpa using this
  | str j =>
   obtain ⟨rfl, rfl⟩ := kG r2 q
   cases d with
   | str i =>
    unfold Rep at r1; subst r1
    refine C7 pins s σ0 H _ _ v u Q I rx ry ⟨i, j, rfl, rfl, ?_⟩
    have := ok (.bl _) H ρ .refl ab (by unfold Rep; rfl)
    simpa using this
   | _ => exact ok.elim
theorem Dn (hu : X.A.units + 600 < cLine) : ly X (compareOp .NotIn) (rD X EE (AS true)) := by
 intro pins s σ0 H x y v u Q I rx ry ⟨σ, τ, ρ, G, d, e, ab, r1, r2, ok⟩
 dsimp only [AS] at ok
 cases q : aD G e with
 | none => rw [q] at ok; exact ok.elim
 | some sk =>
  rw [q] at ok
  cases sk with
  | lst ds =>
   dsimp only at ok
   cases qb : D9 d ds G with
   | none => rw [qb] at ok; exact ok.elim
   | some b =>
    rw [qb] at ok
    obtain ⟨p, qs, e1, e2, h1, h2, h3, rfl⟩ := p6 qb
    obtain ⟨l, xs, rfl, sq, rs⟩ := cJ (pins := pins) (σ0 := σ0) (s := s) ab.hp r2 q
    cases ry
    obtain ⟨as, ra⟩ := fm I ab.hp deep d x v p r1 rx e1
    obtain ⟨bs, rb⟩ := EL I ab.hp sq rs e2
    refine SeqAt.notIn_list_reads rb ra h2 h1 (by omega) ⟨.bl _, H, I, rfl, ?_⟩
    have := ok (.bl _) H ρ .refl ab (by unfold Rep; rfl)
    simpa using this
  | tup ds =>
   dsimp only at ok
   cases qb : D9 d ds G with
   | none => rw [qb] at ok; exact ok.elim
   | some b =>
    rw [qb] at ok
    obtain ⟨p, qs, e1, e2, h1, h2, h3, rfl⟩ := p6 qb
    obtain ⟨l, xs, rfl, sq, rs⟩ := fL r2 q
    cases ry
    obtain ⟨as, ra⟩ := fm I ab.hp deep d x v p r1 rx e1
    obtain ⟨bs, rb⟩ := EM I ab.hp sq rs e2
    refine SeqAt.notIn_tuple_reads rb ra h2 h1 (by omega) ⟨.bl _, H, I, rfl, ?_⟩
    have := ok (.bl _) H ρ .refl ab (by unfold Rep; rfl)
    simpa using this
  | str j =>
   obtain ⟨rfl, rfl⟩ := kG r2 q
   cases d with
   | str i =>
    unfold Rep at r1; subst r1
    refine w6 pins s σ0 H _ _ v u Q I rx ry ⟨i, j, rfl, rfl, ?_⟩
    have := ok (.bl _) H ρ .refl ab (by unfold Rep; rfl)
    simpa using this
   | _ => exact ok.elim
noncomputable def gn (neg : Bool) : D → D → M D
 | d, .cj => match d with
  | .cj => M.ret (.bl (!neg))
  | _ => M.ret (.bl neg)
 | _, _ => M.stop
theorem xB {K : PySem.W.Frag} {mg : Str → Option Value} {ρ : List Addr} {H : Hp} {d : D} {x : V} (r : Rep K mg ρ H d x) : decide (x = .cj) = (match d with | .cj => true | _ => false) := by
 cases d <;> unfold Rep at r
 case cj => subst r; rfl
 case tup => obtain ⟨a, xs, rfl, _⟩ := r; rfl
 case con => obtain ⟨a, xs, rfl, _⟩ := r; rfl
 case obj => obtain ⟨a, rfl, _⟩ := r; rfl
 case fn => obtain ⟨a, rfl, _⟩ := r; rfl
 case u6 => obtain ⟨a, cv, rfl, _⟩ := r; rfl
 all_goals (subst r; rfl)
theorem HQ (ha : QE X EE a ma) (hb : QE X EE b mb) : QE X EE (.Compare a [.IsNot] [b] pos) (ay (gn true) ma mb) := AQ BY (fun σ H τ ρ G x y d e Q ab r1 r2 ok => by
 cases e with
 | cj =>
  unfold Rep at r2
  refine ⟨r2, ?_⟩
  rw [xB r1]
  cases d <;> exact ok _ H ρ .refl ab (by unfold Rep; rfl)
 | _ => exact ok.elim) ha hb (AH _)
end
end L3
end
section
set_option Elab.async false
set_option linter.all false
set_option maxRecDepth 100000
namespace L3
open PySem PySem.Spec L2
section
variable {X : Cx} {EE : fK} {a b c : Expr} {ma mb mc : DS → M D} {pos : Pos}
noncomputable def bQ (d e : D) : M D := fun G => match e with
 | .int i => match aD G d with
  | some (.lst xs) => match fY xs i with
   | some v => .ok v G
   | none => .stuck
  | some (.tup xs) => match fY xs i with
   | some v => .ok v G
   | none => .stuck
  | some (.str z) => if z.length ≤ sizeLine then (match fY z.cps.toList i with
   | some c => .ok (.str ⟨#[c]⟩) G
   | none => .stuck) else .stuck
  | none => .stuck
 | _ => .stuck
theorem y9 {K : PySem.W.Frag} {mg : Str → Option Value} {ρ : List Addr} {H : Hp} {ds : List D} {vs : List V} {i : Int} {d : D} (r : au K mg ρ H ds vs) (h : fY ds i = some d) : ∃ v, fY vs i = some v ∧ Rep K mg ρ H d v := by
 unfold fY at h ⊢
 rw [← r.length]
 cases e : Hx ds.length i with
 | none => rw [e] at h; cases h
 | some j =>
  rw [e] at h
  obtain ⟨v, e1, e2⟩ := r.get (show ds[j]? = some d from h)
  exact ⟨v, e1, e2⟩
theorem Qc : L1 X (rD X EE bQ) := by
 intro value slice pins s σ0 H x y v u Q I rx ry ⟨σ, τ, ρ, G, d, e, ab, r1, r2, ok⟩ hs
 cases e <;> try exact ok.elim
 rename_i i
 unfold Rep at r2; subst r2
 dsimp only [bQ] at ok
 cases q : aD G d with
 | none => rw [q] at ok; exact ok.elim
 | some sk =>
  rw [q] at ok
  cases sk with
  | lst ds =>
   dsimp only at ok
   cases qa : fY ds i with
   | none => rw [qa] at ok; exact ok.elim
   | some z =>
    rw [qa] at ok
    obtain ⟨l, xs, rfl, sq, rs⟩ := cJ (pins := pins) (σ0 := σ0) (s := s) ab.hp r1 q
    obtain ⟨w, e1, e2⟩ := y9 rs qa
    exact Hz value slice pins s σ0 H _ _ v u Q I rx ry ⟨l, xs, i, w, rfl, rfl, sq, e1, ok w H ρ .refl ab e2⟩ hs
  | tup ds =>
   dsimp only at ok
   cases qa : fY ds i with
   | none => rw [qa] at ok; exact ok.elim
   | some z =>
    rw [qa] at ok
    obtain ⟨l, xs, rfl, sq, rs⟩ := fL r1 q
    obtain ⟨w, e1, e2⟩ := y9 rs qa
    exact Kz value slice pins s σ0 H _ _ v u Q I rx ry ⟨l, xs, i, w, rfl, rfl, sq, e1, ok w H ρ .refl ab e2⟩ hs
  | str z =>
   dsimp only at ok
   obtain ⟨rfl, rfl⟩ := kG r1 q
   by_cases hz : z.length ≤ sizeLine
   ·rw [if_pos hz] at ok
    cases qa : fY z.cps.toList i with
    | none => rw [qa] at ok; exact ok.elim
    | some c =>
     rw [qa] at ok
     exact KA value slice pins s σ0 H _ _ v u Q I rx ry ⟨z, i, c, rfl, rfl, hz, qa, ok _ H ρ .refl ab (by unfold Rep; rfl)⟩ hs
   ·rw [if_neg hz] at ok; exact ok.elim
theorem EO (ha : QE X EE a ma) (hb : QE X EE b mb) (hs : sU b := by intro _ _; rfl) : QE X EE (.Subscript a b pos) (ay bQ ma mb) := M4 Qc m8 ha hb hs
noncomputable def kH : DS → M (Option Int) := fun _ => M.ret none
noncomputable def jD (m : DS → M D) : DS → M (Option Int) := fun τ => (m τ).bind fun d => match d with
 | .int i => M.ret (some i)
 | _ => M.stop
noncomputable def TQ (K : PySem.W.Frag) (mg : Str → Option Value) (EE : fK) (H : Hp) (σ : L2.St) (τ : DS) (ρ : List Addr) : Out (Option Int) → (Option Int → Hp → Prop) → Prop
 | .stuck, _ => False
 | .ok b G', Q => ∀ H' ρ', dh K H H' ρ ρ' → Ab K mg σ H' τ ρ' G' → Q b H'
 | .bY c G', _ => ∀ H' ρ', dh K H H' ρ ρ' → Ab K mg σ H' τ ρ' G' → EE c σ H'
noncomputable def M9 (K : PySem.W.Frag) (mg : Str → Option Value) (EE : fK) (m : DS → M (Option Int)) : TO := fun σ H Q => ∃ τ ρ G, Ab K mg σ H τ ρ G ∧ TQ K mg EE H σ τ ρ (m τ G) Q
noncomputable def QO (X : Cx) (EE : fK) (e : Option Expr) (m : DS → M (Option Int)) : Prop := PO X e (M9 X.K X.mg EE m)
theorem PO.mono {e : Option Expr} {t t' : TO} (h : PO X e t) (i : ∀ σ H Q, t' σ H Q → t σ H Q) : PO X e t' := fun pins s σ H Q I q => h pins s σ H Q I (i _ _ _ q)
theorem iM : QO X EE none kH := PO.mono Hu fun σ H Q ⟨τ, ρ, G, ab, ok⟩ => ok H ρ .refl ab
theorem iN (ha : QE X EE a ma) : QO X EE (some a) (jD ma) := PO.mono (Hv ha) fun σ H Q ⟨τ, ρ, G, ab, ok⟩ => by
 refine ⟨τ, ρ, G, ab, ?_⟩
 dsimp only [jD, M.bind] at ok
 cases e : ma τ G with
 | stuck => rw [e] at ok; exact ok
 | bY c G' => rw [e] at ok; exact ok
 | ok d G' =>
  rw [e] at ok
  intro v H' ρ' f bH r
  cases d <;> try exact ok.elim
  rename_i i
  unfold Rep at r
  exact ⟨i, r, ok H' ρ' f bH⟩
noncomputable def cutD (xs : List D) (lo hi : Option Int) : List D := (xs.drop (HT.gC xs.length 0 lo)).take (HT.gC xs.length xs.length hi - HT.gC xs.length 0 lo)
noncomputable def Az (d : D) (lo hi : Option Int) : M D := fun G => match aD G d with
 | some (.lst xs) => bU (cutD xs lo hi) G
 | some (.tup xs) => if HT.gC xs.length 0 lo = 0 ∧ HT.gC xs.length xs.length hi = xs.length then .stuck else kE (cutD xs lo hi) G
 | some (.str z) => if z.length ≤ sizeLine then .ok (.str (Txt.slice z lo hi)) G else .stuck
 | none => .stuck
noncomputable def B6 (m : DS → M D) (ml mh : DS → M (Option Int)) : DS → M D := fun τ => (m τ).bind fun d => (ml τ).bind fun lo => (mh τ).bind fun hi => Az d lo hi
noncomputable def Qd (X : Cx) (EE : fK) : V → Option Int → Option Int → Hp → VK → Prop := fun x lo hi H Q => ∃ σ τ ρ G d, Ab X.K X.mg σ H τ ρ G ∧ Rep X.K X.mg ρ H d x ∧ lA X.K X.mg EE H σ τ ρ (Az d lo hi G) Q
theorem za {K : PySem.W.Frag} {mg : Str → Option Value} {ρ : List Addr} {H : Hp} {ds : List D} {vs : List V} (r : au K mg ρ H ds vs) (lo hi : Option Int) : au K mg ρ H (cutD ds lo hi) (yS vs lo hi) := by
 unfold cutD yS
 rw [r.length]
 exact (r.drop _).take _
theorem nR (x : Str) (l u : Option (Int × Tok)) (lo hi : Option Int) (hl : l.map (·.1) = lo) (hu : u.map (·.1) = hi) (t : Tok) (s : Shared) (Q : Value → Shared → Prop) (hz : x.length ≤ sizeLine)
  (h : ∀ t' k, Q (.str (Txt.slice x lo hi) t') { s with toks := k }) : (sliceMade x t l u none).post Q s := by
 subst hl hu
 cases l <;> cases u <;> exact post_val_or_str ⟨Nat.le_trans (Txt.slice_le x _ _) hz, fun t' k => h t' k⟩
theorem Qe : OY X (Qd X EE) := by
 intro pins s σ0 H x v vl vu lo hi sl Q I rx hs pl pu ⟨σ, τ, ρ, G, d, ab, r1, ok⟩
 dsimp only [Az] at ok
 cases q : aD G d with
 | none => rw [q] at ok; exact ok.elim
 | some sk =>
  rw [q] at ok
  cases sk with
  | lst ds =>
   obtain ⟨l, xs, rfl, sq, rs⟩ := cJ (pins := pins) (σ0 := σ0) (s := s) ab.hp r1 q
   exact HA pins s σ0 H _ v vl vu lo hi sl Q I rx hs pl pu ⟨l, xs, rfl, sq, (o9 ab (za rs lo hi) ok).2⟩
  | tup ds =>
   obtain ⟨l, xs, rfl, sq, rs⟩ := fL r1 q
   dsimp only at ok
   by_cases hw : HT.gC ds.length 0 lo = 0 ∧ HT.gC ds.length ds.length hi = ds.length
   ·rw [if_pos hw] at ok; exact ok.elim
   ·rw [if_neg hw] at ok
    refine Ky pins s σ0 H _ v vl vu lo hi sl Q I rx hs pl pu ⟨l, xs, rfl, sq, ?_, (xA ab (za rs lo hi) ok).2⟩
    rw [← rs.length]; exact hw
  | str z =>
   obtain ⟨rfl, rfl⟩ := kG r1 q
   dsimp only at ok
   by_cases hz : z.length ≤ sizeLine
   ·rw [if_pos hz] at ok
    obtain ⟨t, rfl⟩ := rx
    refine ⟨"str", _, F.slot_str_getitem.lookup, typeIs_str _ _ _, ?_⟩
    obtain ⟨o, e1, e2, e3⟩ := hs
    have fin : ∀ t' k, EP X pins σ0 Q (.str (Txt.slice z lo hi) t') { s with toks := k } := fun t' k => ⟨.str _, H, I.tok k, ⟨t', rfl⟩, ok _ H ρ .refl ab (by unfold Rep; rfl)⟩
    cases pl with
    | none =>
     cases pu with
     | none => exact wpAny_getItem_str_slice (l := none) (u := none) (st := none) ⟨o, e1, e2, e3⟩ rfl (nR z none none none none rfl rfl t s _ hz fin)
     | int j tj => exact wpAny_getItem_str_slice (l := none) (u := some (j, tj)) (st := none) ⟨o, e1, e2, e3⟩ rfl (nR z none (some (j, tj)) none (some j) rfl rfl t s _ hz fin)
    | int i ti =>
     cases pu with
     | none => exact wpAny_getItem_str_slice (l := some (i, ti)) (u := none) (st := none) ⟨o, e1, e2, e3⟩ rfl (nR z (some (i, ti)) none (some i) none rfl rfl t s _ hz fin)
     | int j tj => exact wpAny_getItem_str_slice (l := some (i, ti)) (u := some (j, tj)) (st := none) ⟨o, e1, e2, e3⟩ rfl (nR z (some (i, ti)) (some (j, tj)) (some i) (some j) rfl rfl t s _ hz fin)
   ·rw [if_neg hz] at ok; exact ok.elim
theorem fZ {lo hi : Option Expr} {ml mh : DS → M (Option Int)} {p2 : Pos} (ha : QE X EE a ma) (hl : QO X EE lo ml) (hh : QO X EE hi mh) : QE X EE (.Subscript a (.Slice lo hi none p2) pos) (B6 ma ml mh) :=
 PE.mono (Es Qe ha hl hh) fun σ H Q ⟨τ, ρ, G, ab, ok⟩ => by
  refine ⟨τ, ρ, G, ab, ?_⟩
  dsimp only [B6, M.bind] at ok
  cases e1 : ma τ G with
  | stuck => rw [e1] at ok; exact ok
  | bY c G' => rw [e1] at ok; exact ok
  | ok d G1 =>
   rw [e1] at ok
   dsimp only at ok
   intro v H1 ρ1 f1 mR r1
   refine ⟨τ, ρ1, G1, mR, ?_⟩
   cases e2 : ml τ G1 with
   | stuck => rw [e2] at ok; exact ok
   | bY c G' => rw [e2] at ok; exact fun H' ρ' f' => ok H' ρ' (f1.trans f')
   | ok l G2 =>
    rw [e2] at ok
    dsimp only at ok
    intro H2 ρ2 f2 dz
    refine ⟨τ, ρ2, G2, dz, ?_⟩
    cases e3 : mh τ G2 with
    | stuck => rw [e3] at ok; exact ok
    | bY c G' => rw [e3] at ok; exact fun H' ρ' f' => ok H' ρ' ((f1.trans f2).trans f')
    | ok u G3 =>
     rw [e3] at ok
     dsimp only at ok
     intro H3 ρ3 f3 AO
     exact ⟨σ, τ, ρ3, G3, d, AO, r1.mono (f2.trans f3), ok.fut ((f1.trans f2).trans f3)⟩
noncomputable def kI (ma mb : DS → M Bool) : DS → M Bool := fun τ => (ma τ).bind fun c => if c then mb τ else M.ret false
noncomputable def AU (ma mb : DS → M Bool) : DS → M Bool := fun τ => (ma τ).bind fun c => if c then M.ret true else mb τ
noncomputable def Na (ma : DS → M Bool) : DS → M Bool := fun τ => (ma τ).bind fun c => M.ret (!c)
variable {ta tb tc : DS → M Bool} {rest : List Expr}
theorem ER {σ : L2.St} {H : Hp} {Q : Bool → Hp → Prop} (h : liftT X.K X.mg EE (kI ta tb) σ H Q) : Mt (liftT X.K X.mg EE ta) (liftT X.K X.mg EE tb) σ H Q := by
 obtain ⟨τ, ρ, G, ab, ok⟩ := EF (k := fun τ c => if c then tb τ else M.ret false) h
 refine ⟨τ, ρ, G, ab, ?_⟩
 cases e : ta τ G with
 | stuck => rw [e] at ok; exact ok
 | bY c G' => rw [e] at ok; exact ok
 | ok k G' =>
  rw [e] at ok
  intro H' ρ' f' bH
  obtain ⟨τ2, ρ2, G2, dz, aK⟩ := ok H' ρ' f' bH
  cases k with
  | true => exact ⟨τ2, ρ2, G2, dz, aK⟩
  | false => exact aK H' ρ2 .refl dz
theorem HR {σ : L2.St} {H : Hp} {Q : Bool → Hp → Prop} (h : liftT X.K X.mg EE (AU ta tb) σ H Q) : RJ (liftT X.K X.mg EE ta) (liftT X.K X.mg EE tb) σ H Q := by
 obtain ⟨τ, ρ, G, ab, ok⟩ := EF (k := fun τ c => if c then M.ret true else tb τ) h
 refine ⟨τ, ρ, G, ab, ?_⟩
 cases e : ta τ G with
 | stuck => rw [e] at ok; exact ok
 | bY c G' => rw [e] at ok; exact ok
 | ok k G' =>
  rw [e] at ok
  intro H' ρ' f' bH
  obtain ⟨τ2, ρ2, G2, dz, aK⟩ := ok H' ρ' f' bH
  cases k with
  | false => exact ⟨τ2, ρ2, G2, dz, aK⟩
  | true => exact aK H' ρ2 .refl dz
theorem PW.mono {e : Expr} {t t' : TT} (h : PW X e t) (i : ∀ σ H Q, t' σ H Q → t σ H Q) : PW X e t' := fun wh pins s σ H Q I q => h wh pins s σ H Q I (i _ _ _ q)
theorem p7 (ha : QT X EE a ta) : QW X EE (.BoolOp .And [a] pos) ta := Hf ha
theorem AV (ha : QT X EE a ta) : QW X EE (.BoolOp .Or [a] pos) ta := J3 ha
theorem tS (ha : QT X EE a ta) (hb : QW X EE (.BoolOp .And (b :: rest) pos) tb) : QW X EE (.BoolOp .And (a :: b :: rest) pos) (kI ta tb) := PW.mono (J4 ha hb) fun _ _ _ h => ER h
theorem ES (ha : QT X EE a ta) (hb : QW X EE (.BoolOp .Or (b :: rest) pos) tb) : QW X EE (.BoolOp .Or (a :: b :: rest) pos) (AU ta tb) := PW.mono (Mu ha hb) fun _ _ _ h => HR h
theorem zb {e : Expr} (h : QW X EE e ta) : QT X EE e ta := h.pt
noncomputable def je (m : DS → M D) : DS → M Bool := fun τ => (m τ).bind fun d => match d with
 | .bl b => M.ret b
 | _ => M.stop
theorem HS {m : DS → M D} {σ : L2.St} {H : Hp} {Q : Bool → Hp → Prop} (h : liftT X.K X.mg EE (je m) σ H Q) : dw X.K X.mg EE m σ H fun x H1 => ∃ c, x = .bl c ∧ Q c H1 := by
 obtain ⟨τ, ρ, G, ab, ok⟩ := ED (k := fun _ d => match d with | .bl b => M.ret b | _ => M.stop) h
 refine ⟨τ, ρ, G, ab, ?_⟩
 cases e : m τ G with
 | stuck => rw [e] at ok; exact ok
 | bY c G' => rw [e] at ok; exact ok
 | ok d G' =>
  rw [e] at ok
  intro v H' ρ' f' bH r'
  obtain ⟨τ2, ρ2, G2, d2, dz, r2, aK⟩ := ok v H' ρ' f' bH r'
  cases d2 <;> try exact aK.elim
  rename_i k
  unfold Rep at r2
  exact ⟨k, r2, aK H' ρ2 .refl dz⟩
theorem KU {op : CmpOp} {f : D → D → M D} (ho : ly X (compareOp op) (rD X EE f)) (ha : QE X EE a ma) (hb : QE X EE b mb) (hm : behindInMarks op b = false) : QT X EE (.Compare a [op] [b] pos) (je (ay f ma mb)) :=
 PT.mono (Hq ho ha hb hm) fun σ H Q h => by
  have h1 := HS h
  exact sV m8 h1
theorem zc {f : D → D → M D} {g : Value → Value → Sem Value} {r : R2} (ho : ly X g r) (hd : HN X EE r f) : ly X g (rD X EE f) := fun pins s σ H x y v u Q I rx ry q => ho pins s σ H x y v u Q I rx ry (M7 hd q)
theorem ET : ly X (compareOp .Lt) (rD X EE O1) := zc MH (m7 fun _ _ _ _ => by unfold Rep; rfl)
theorem tT : ly X (compareOp .Gt) (rD X EE EI) := zc MJ (m7 fun _ _ _ _ => by unfold Rep; rfl)
theorem KW : ly X (compareOp .GtE) (rD X EE L5) := zc Jm (m7 fun _ _ _ _ => by unfold Rep; rfl)
theorem xC : ly X (compareOp .Is) (rD X EE (gn false)) := zc Kr fun σ H τ ρ G x y d e Q ab r1 r2 ok => by
 cases e with
 | cj =>
  unfold Rep at r2
  refine ⟨r2, ?_⟩
  rw [xB r1]
  cases d <;> exact ok _ H ρ .refl ab (by unfold Rep; rfl)
 | _ => exact ok.elim
theorem tU : ly X (compareOp .IsNot) (rD X EE (gn true)) := zc BY fun σ H τ ρ G x y d e Q ab r1 r2 ok => by
 cases e with
 | cj =>
  unfold Rep at r2
  refine ⟨r2, ?_⟩
  rw [xB r1]
  cases d <;> exact ok _ H ρ .refl ab (by unfold Rep; rfl)
 | _ => exact ok.elim
noncomputable def O2 (t : DS → M Bool) (ma mb : DS → M D) : DS → M D := fun τ => (t τ).bind fun c => if c then ma τ else mb τ
theorem Jq {c : Expr} (hc : QT X EE c ta) (ha : QE X EE a ma) (hb : QE X EE b mb) : QE X EE (.IfExp c a b pos) (O2 ta ma mb) := PE.mono (Eg hc ha hb) fun σ H Q h => by
 obtain ⟨τ, ρ, G, ab, ok⟩ := KO (k := fun τ c => if c then ma τ else mb τ) h
 refine ⟨τ, ρ, G, ab, ?_⟩
 cases e : ta τ G with
 | stuck => rw [e] at ok; exact ok
 | bY c G' => rw [e] at ok; exact ok
 | ok k G' =>
  rw [e] at ok
  intro H' ρ' f' bH
  obtain ⟨τ2, ρ2, G2, dz, aK⟩ := ok H' ρ' f' bH
  cases k with
  | true => exact ⟨τ2, ρ2, G2, dz, aK⟩
  | false => exact ⟨τ2, ρ2, G2, dz, aK⟩
noncomputable def AW (ma mb : DS → M D) : DS → M D := fun τ => (ma τ).bind fun d => match d with
 | .bl true => mb τ
 | .bl false => M.ret (.bl false)
 | _ => M.stop
noncomputable def Qf (ma mb : DS → M D) : DS → M D := fun τ => (ma τ).bind fun d => match d with
 | .bl false => mb τ
 | .bl true => M.ret (.bl true)
 | _ => M.stop
theorem xD {op} (h : QE X EE a ma) : QE X EE (.BoolOp op [a] pos) ma := J5 h
theorem AX (ha : QE X EE a ma) (hb : QE X EE (.BoolOp .And (b :: rest) pos) mb) : QE X EE (.BoolOp .And (a :: b :: rest) pos) (AW ma mb) := PE.mono (J6 ha hb) fun σ H Q h => by
 obtain ⟨τ, ρ, G, ab, ok⟩ := m6 (k := fun τ d => match d with | .bl true => mb τ | .bl false => M.ret (.bl false) | _ => M.stop) h
 refine ⟨τ, ρ, G, ab, ?_⟩
 cases e : ma τ G with
 | stuck => rw [e] at ok; exact ok
 | bY c G' => rw [e] at ok; exact ok
 | ok k G' =>
  rw [e] at ok
  intro v H' ρ' f' bH r'
  obtain ⟨τ2, ρ2, G2, d2, dz, r2, aK⟩ := ok v H' ρ' f' bH r'
  cases d2 <;> try exact aK.elim
  rename_i k
  unfold Rep at r2
  refine ⟨k, r2, ?_⟩
  cases k with
  | true => exact ⟨τ2, ρ2, G2, dz, aK⟩
  | false => exact aK _ H' ρ2 .refl dz (by unfold Rep; rfl)
theorem Nb (ha : QE X EE a ma) (hb : QE X EE (.BoolOp .Or (b :: rest) pos) mb) : QE X EE (.BoolOp .Or (a :: b :: rest) pos) (Qf ma mb) := PE.mono (Mw ha hb) fun σ H Q h => by
 obtain ⟨τ, ρ, G, ab, ok⟩ := m6 (k := fun τ d => match d with | .bl false => mb τ | .bl true => M.ret (.bl true) | _ => M.stop) h
 refine ⟨τ, ρ, G, ab, ?_⟩
 cases e : ma τ G with
 | stuck => rw [e] at ok; exact ok
 | bY c G' => rw [e] at ok; exact ok
 | ok k G' =>
  rw [e] at ok
  intro v H' ρ' f' bH r'
  obtain ⟨τ2, ρ2, G2, d2, dz, r2, aK⟩ := ok v H' ρ' f' bH r'
  cases d2 <;> try exact aK.elim
  rename_i k
  unfold Rep at r2
  refine ⟨k, r2, ?_⟩
  cases k with
  | false => exact ⟨τ2, ρ2, G2, dz, aK⟩
  | true => exact aK _ H' ρ2 .refl dz (by unfold Rep; rfl)
noncomputable def EU (ma : DS → M D) : DS → M D := fun τ => (ma τ).bind fun d => match d with
 | .int i => M.ret (.int (-i))
 | _ => M.stop
theorem EV (ha : QE X EE a ma) : QE X EE (.UnaryOp .USub a pos) (EU ma) := PE.mono (MF Kq ha) fun σ H Q h => by
 obtain ⟨τ, ρ, G, ab, ok⟩ := m6 (k := fun τ d => match d with | .int i => M.ret (.int (-i)) | _ => M.stop) h
 refine ⟨τ, ρ, G, ab, ?_⟩
 cases e : ma τ G with
 | stuck => rw [e] at ok; exact ok
 | bY c G' => rw [e] at ok; exact ok
 | ok k G' =>
  rw [e] at ok
  intro v H' ρ' f' bH r'
  obtain ⟨τ2, ρ2, G2, d2, dz, r2, aK⟩ := ok v H' ρ' f' bH r'
  cases d2 <;> try exact aK.elim
  rename_i k
  unfold Rep at r2
  exact ⟨k, r2, aK _ H' ρ2 .refl dz (by unfold Rep; rfl)⟩
end
end L3
end
section
set_option Elab.async false
set_option linter.all false
set_option maxRecDepth 100000
namespace L3
open PySem PySem.Spec L2
section
variable {X : Cx} {EE : fK} {a b c : Expr} {ma mb mc : DS → M D} {pos : Pos} {ta tb tc : DS → M Bool} {ms mt : MS}
noncomputable def gW : MS := fun τ G => .nx τ G
noncomputable def bA (m k : MS) : MS := fun τ G => match m τ G with
 | .nx τ' G' => k τ' G'
 | r => r
theorem fc : Dk X EE [] gW := AD.mono Hg fun D σ H ⟨τ, ρ, G, ab, ok⟩ => ok σ H ρ .refl ab
theorem EW {Dd : Ends} {σ : L2.St} {H : Hp} (h : jT X.K X.mg EE (bA ms mt) Dd σ H) : My (jT X.K X.mg EE ms) (jT X.K X.mg EE mt) Dd σ H := by
 obtain ⟨τ, ρ, G, ab, ok⟩ := h
 refine ⟨τ, ρ, G, ab, ?_⟩
 dsimp only [bA] at ok
 cases e : ms τ G with
 | nx τ' G' => rw [e] at ok; exact fun σ' H' ρ' f bH => ⟨τ', ρ', G', bH, ok.fut f⟩
 | stuck => rw [e] at ok; exact ok
 | rt d G => rw [e] at ok; exact ok
 | bk τ G => rw [e] at ok; exact ok
 | ct τ G => rw [e] at ok; exact ok
 | xn c τ G => rw [e] at ok; exact ok
theorem ak {st : Stmt} {rest : List Stmt} (h1 : QS X EE st ms) (h2 : Dk X EE rest mt) : Dk X EE (st :: rest) (bA ms mt) := AD.mono (Eh h1 h2) fun _ _ _ h => EW h
theorem aC {st : Stmt} (h1 : QS X EE st ms) : Dk X EE [st] ms := Hh h1
noncomputable def mK (m : DS → M D) : MS := fun τ => bZ (m τ) (fun _ G => .nx τ G) fun c G => .xn c τ G
noncomputable def gb (m : DS → M D) : MS := fun τ => bZ (m τ) (fun d G => .rt d G) fun c G => .xn c τ G
noncomputable def Nc : MS := fun _ G => .rt .cj G
noncomputable def bE (i : Nat) (m : DS → M D) : MS := fun τ => bZ (m τ) (fun d G => .nx (τ.set i (some d)) G) fun c G => .xn c τ G
noncomputable def ve (t : DS → M Bool) (ma mb : MS) : MS := fun τ => bZ (t τ) (fun c G => if c then ma τ G else mb τ G) fun c G => .xn c τ G
theorem HU (he : QE X EE a ma) (hs : swapsWith a none pos.line X.env = pure false := by rfl) : QS X EE (.Expr a pos) (mK ma) := PS.mono (Hj he hs) fun D σ H h => by
 obtain ⟨τ, ρ, G, ab, ok⟩ := xx (k := fun τ d G => .nx τ G) h
 refine ⟨τ, ρ, G, ab, ?_⟩
 cases e : ma τ G with
 | stuck => rw [e] at ok; exact ok
 | bY c G' => rw [e] at ok; exact ok
 | ok d G' =>
  rw [e] at ok
  intro v H' ρ' f' bH r'
  obtain ⟨τ2, ρ2, G2, d2, dz, r2, aK⟩ := ok v H' ρ' f' bH r'
  exact aK σ H' ρ2 .refl dz
theorem cN (he : QE X EE a ma) : QS X EE (.Return (some a) pos) (gb ma) := PS.mono (J7 he) fun D σ H h => by
 obtain ⟨τ, ρ, G, ab, ok⟩ := xx (k := fun τ d G => .rt d G) h
 refine ⟨τ, ρ, G, ab, ?_⟩
 cases e : ma τ G with
 | stuck => rw [e] at ok; exact ok
 | bY c G' => rw [e] at ok; exact ok
 | ok d G' =>
  rw [e] at ok
  intro v H' ρ' f' bH r'
  obtain ⟨τ2, ρ2, G2, d2, dz, r2, aK⟩ := ok v H' ρ' f' bH r'
  exact aK v H' ρ2 .refl dz.hp r2
theorem Ab.set {K : PySem.W.Frag} {mg : Str → Option Value} {σ : L2.St} {H : Hp} {τ : DS} {ρ : List Addr} {G : DH} {i : Nat} {d : D} {v : V} (ab : Ab K mg σ H τ ρ G) (r : Rep K mg ρ H d v) : Ab K mg (σ.set i (some v)) H (τ.set i (some d)) ρ G := ⟨ab.st.set r, ab.hp⟩
theorem KY {i : Nat} {x : Str} {pos' : Pos} (hN : X.N.Nodup) (he : QE X EE a ma) (hi : X.N[i]? = some x := by rfl) (hx : Loc X.env.scope x := by first | exact Or.inl rfl | exact Or.inr rfl)
  (hs : swapsWith a (some (.Name x pos')) pos.line X.env = pure false := by rfl) (hf : X.fn x = true ∨ X.env.scope.names.lookup x = some .local := by first | exact .inl rfl | exact .inr rfl | assumption) :
  QS X EE (.Assign [.Name x pos'] a pos) (bE i ma) := PS.mono (Ka hN hi hx he hs hf) fun D σ H h => by
 obtain ⟨τ, ρ, G, ab, ok⟩ := xx (k := fun τ d G => .nx (τ.set i (some d)) G) h
 refine ⟨τ, ρ, G, ab, ?_⟩
 cases e : ma τ G with
 | stuck => rw [e] at ok; exact ok
 | bY c G' => rw [e] at ok; exact ok
 | ok d G' =>
  rw [e] at ok
  intro v H' ρ' f' bH r'
  obtain ⟨τ2, ρ2, G2, d2, dz, r2, aK⟩ := ok v H' ρ' f' bH r'
  exact aK _ H' ρ2 .refl (dz.set r2)
theorem jE {body els : List Stmt} (hc : QT X EE c tc) (ha : Dk X EE body ms) (hb : Dk X EE els mt) : QS X EE (.If c body els pos) (ve tc ms mt) := PS.mono (MA hc ha hb) fun D σ H h => by
 obtain ⟨τ, ρ, G, ab, ok⟩ := EG (k := fun τ c G => if c then ms τ G else mt τ G) h
 refine ⟨τ, ρ, G, ab, ?_⟩
 cases e : tc τ G with
 | stuck => rw [e] at ok; exact ok
 | bY c G' => rw [e] at ok; exact ok
 | ok k G' =>
  rw [e] at ok
  intro H' ρ' f' bH
  obtain ⟨τ2, ρ2, G2, dz, aK⟩ := ok H' ρ' f' bH
  cases k with
  | true => exact ⟨τ2, ρ2, G2, dz, aK⟩
  | false => exact ⟨τ2, ρ2, G2, dz, aK⟩
noncomputable abbrev pS := D → DS → Option DS
noncomputable def zd (K : PySem.W.Frag) (mg : Str → Option Value) (g : pS) : TG := fun v σ H Q => ∃ τ ρ G d τ', Ab K mg σ H τ ρ G ∧ Rep K mg ρ H d v ∧ g d τ = some τ' ∧ ∀ σ', Ab K mg σ' H τ' ρ G → Q σ' H
noncomputable def QG (X : Cx) (e : Expr) (g : pS) : Prop := PG X e (zd X.K X.mg g)
noncomputable def gN (i : Nat) : pS := fun d τ => some (τ.set i (some d))
theorem HV {i : Nat} {x : Str} (hN : X.N.Nodup) (hi : X.N[i]? = some x := by rfl) (hx : Loc X.env.scope x := by first | exact Or.inl rfl | exact Or.inr rfl) (hf : X.fn x = true ∨ X.env.scope.names.lookup x = some .local := by first | exact .inl rfl | exact .inr rfl | assumption) :
  QG X (.Name x pos) (gN i) := fun pins s σ H v u Q I r ⟨τ, ρ, G, d, τ', ab, rd, e, q⟩ => nO hN hi hx hf pins s σ H v u Q I r (by
 cases e
 exact q _ (ab.set rd))
noncomputable def bO (g : pS) (body : MS) : List D → MS
 | [], τ, G => .nx τ G
 | d :: r, τ, G => match g d τ with
  | none => .stuck
  | some τ1 => match body τ1 G with
   | .nx τ' G' => bO g body r τ' G'
   | .ct τ' G' => bO g body r τ' G'
   | .bk τ' G' => .nx τ' G'
   | x => x
noncomputable def rj (g : pS) (body : MS) (n : Nat) : Nat → Nat → MS
 | 0, _, _, _ => .stuck
 | f + 1, k, τ, G => match G[n]? with
  | some (.lst xs) => match xs[k]? with
   | none => .nx τ G
   | some d => match g d τ with
    | none => .stuck
    | some τ1 => match body τ1 G with
     | .nx τ' G' => rj g body n f (k + 1) τ' G'
     | .ct τ' G' => rj g body n f (k + 1) τ' G'
     | .bk τ' G' => .nx τ' G'
     | x => x
  | _ => .stuck
end
end L3
end
section
set_option Elab.async false
set_option linter.all false
set_option maxRecDepth 100000
namespace L3
open PySem PySem.Spec L2
noncomputable def HW (z : Str) : It := ⟨fun i _ => i < z.cps.size, fun i H x H' => H' = H ∧ ∃ c, z.cps[i]? = some c ∧ x = .str ⟨#[c]⟩, fun i _ => z.cps.size ≤ i⟩
theorem EX {P : Program} {w : World} {K : PySem.W.Frag} {tg : Expr} (z : Str) (t : Tok) (it : Addr) : Turn P w K tg (HW z) [it] it (fun i h => h.IsStrIter it (strIterType z) z t i) where
 mem := by simp
 obj := fun i h st b hb => by
  have e : b = it := by simpa using hb
  subst e
  obtain ⟨o, e, c, d⟩ := st
  exact ⟨o, e, fun v z => by rw [d] at z; cases z⟩
 keep := fun i h h' st k => by
  obtain ⟨o, e, r⟩ := st
  exact ⟨o, k it (by simp) o e, r⟩
 item := by
  intro X hP hw hK hc i pins s σ H E I hf st hg
  subst hP hw hK
  obtain ⟨f0, f1, f2, f3, f4, f5⟩ := hf it (by simp)
  have hx : z.cps[i]? = some z.cps[i] := Array.getElem?_eq_getElem hg
  have fin : ∀ h', h'.IsStrIter it (strIterType z) z t (i + 1) → Heap.SameBut it s.heap h' → ∃ u, some (Value.str ⟨#[z.cps[i]]⟩ s.toks) = some u ∧
   wpAny (model X.prog X.w) X.A (letOwnedTupleGo tg (.ref it) u) (fun _ s2 => ∃ x H', Inv X pins σ H' s2 ∧ RelV x u ∧ (HW z).wZ i H x H' ∧ s2.heap.IsStrIter it (strIterType z) z t (i + 1) ∧ ∀ b ∈ [it], H' b = none) E { s with heap := h', toks := s.toks + 1 } := fun h' st' sb => by
   have I1 : Inv X pins σ H { s with heap := h', toks := s.toks + 1 } := I.turned (t' := s.toks + 1) (fun b o hb e => (sb.2 b hb).trans e) f0 f1 f3 f4 f5
   obtain ⟨o, e, c, d⟩ := id st'
   refine ⟨_, rfl, vX (s := { s with heap := h', toks := s.toks + 1 }) e c d ?_ ⟨.str ⟨#[z.cps[i]]⟩, H, I1, ⟨_, rfl⟩, ⟨rfl, _, hx, rfl⟩, st', fun b hb => (hf b hb).1⟩⟩
   unfold strIterType
   split <;> decide
  cases ha : z.cps.all (· < 128) with
  | true =>
   have e : strIterType z = "str_ascii_iterator" := by unfold strIterType; rw [ha]; rfl
   rw [e] at st fin
   exact wpAny_pyNext_ascii_item st hx fun h' st' sb => by rw [e]; exact fin h' st' sb
  | false =>
   have e : strIterType z = "str_iterator" := by unfold strIterType; rw [ha]; rfl
   rw [e] at st fin
   exact wpAny_pyNext_wide_item st hx fun h' st' sb => by rw [e]; exact fin h' st' sb
 done := by
  intro X hP hw hK hc i pins s σ H E I hf st hg
  subst hP hw hK
  obtain ⟨f0, f1, f2, f3, f4, f5⟩ := hf it (by simp)
  have hx : z.cps[i]? = none := Array.getElem?_eq_none hg
  have fin : ∀ h', Heap.ExtBut it s.heap h' → (none : Option Value) = none ∧ Inv X pins σ H { s with heap := h' } := fun h' eb => ⟨rfl, I.turned (t' := s.toks) (fun b o hb e => eb b o hb e) f0 f1 f3 f4 f5⟩
  cases ha : z.cps.all (· < 128) with
  | true =>
   have e : strIterType z = "str_ascii_iterator" := by unfold strIterType; rw [ha]; rfl
   rw [e] at st
   exact wpAny_pyNext_ascii_end (I.ok.hd hc) st hx fin
  | false =>
   have e : strIterType z = "str_iterator" := by unfold strIterType; rw [ha]; rfl
   rw [e] at st
   exact wpAny_pyNext_wide_end (I.ok.hd hc) st hx fin
 self := fun A i s Q E st h => by
  cases ha : z.cps.all (· < 128) with
  | true =>
   have e : strIterType z = "str_ascii_iterator" := by unfold strIterType; rw [ha]; rfl
   rw [e] at st
   exact wpAny_pyIter_striter_ascii st h
  | false =>
   have e : strIterType z = "str_iterator" := by unfold strIterType; rw [ha]; rfl
   rw [e] at st
   exact wpAny_pyIter_striter_wide st h
section
variable {X : Cx} {EE : fK} {a b c tg : Expr} {ma mb mc : DS → M D} {pos : Pos} {ms mt : MS}
noncomputable def lD (g : pS) (m : DS → M D) (body : MS) : MS := fun τ => bZ (m τ) (fun d G => match d with
 | .obj n => match G[n]? with
  | some (.lst xs) => rj g body n (xs.length + 1) 0 τ G
  | _ => .stuck
 | .tup xs => bO g body xs τ G
 | .con xs => bO g body xs τ G
 | .str z => bO g body (z.cps.toList.map fun c => .str ⟨#[c]⟩) τ G
 | _ => .stuck) fun c G => .xn c τ G
theorem nS {g : pS} {body : MS} {Dd : Ends} {J : It} {H0 : Hp} {σ0 : L2.St} {ρ0 : List Addr} {G0 : DH} {τ0 : DS} (ds : List D)
  (go : ∀ i H ρ, i < ds.length → dh X.K H0 H ρ0 ρ → J.go i H) (stop : ∀ i H ρ, ds.length ≤ i → dh X.K H0 H ρ0 ρ → J.stop i H)
  (wZ : ∀ i d H ρ x H', ds[i]? = some d → dh X.K H0 H ρ0 ρ → J.wZ i H x H' → H' = H ∧ Rep X.K X.mg ρ H d x)
  (ab : Ab X.K X.mg σ0 H0 τ0 ρ0 G0) (ok : u9 X.K X.mg EE H0 ρ0 Dd (bO g body ds τ0 G0)) :
  ∃ W : Nat → Nat → L2.St → Hp → Prop, (∃ m, W 0 m σ0 H0) ∧ ∀ i m σ H, W i m σ H →
   (J.stop i H ∧ Dd.nx σ H) ∨ (J.go i H ∧ ∃ N : L2.St → Hp → Prop, (∀ σ' H', N σ' H' → ∃ m', m' < m ∧ W (i + 1) m' σ' H') ∧ ∀ x H', J.wZ i H x H' → zd X.K X.mg g x σ H' fun σ2 H2 => jT X.K X.mg EE body { Dd with nx := N, ct := N, bk := Dd.nx } σ2 H2) := by
 refine ⟨fun i m σ H => i ≤ ds.length ∧ m = ds.length - i ∧ ∃ τ ρ G, Ab X.K X.mg σ H τ ρ G ∧ dh X.K H0 H ρ0 ρ ∧ u9 X.K X.mg EE H ρ Dd (bO g body (ds.drop i) τ G), ⟨ds.length, Nat.zero_le _, rfl, τ0, ρ0, G0, ab, .refl, by simpa using ok⟩, ?_⟩
 rintro i m σ H ⟨hi, rfl, τ, ρ, G, ab, f, ok⟩
 by_cases hlt : i < ds.length
 ·refine .inr ⟨go i H ρ hlt f, fun σ' H' => ∃ τ' ρ' G', Ab X.K X.mg σ' H' τ' ρ' G' ∧ dh X.K H0 H' ρ0 ρ' ∧ u9 X.K X.mg EE H' ρ' Dd (bO g body (ds.drop (i + 1)) τ' G'), fun σ' H' n => ⟨ds.length - (i + 1), by omega, hlt, rfl, n⟩, fun x H' y => ?_⟩
  obtain ⟨rfl, rx⟩ := wZ i ds[i] H ρ x H' (List.getElem?_eq_getElem hlt) f y
  rw [List.drop_eq_getElem_cons hlt] at ok
  unfold bO at ok
  cases e : g ds[i] τ with
  | none => rw [e] at ok; exact ok.elim
  | some τ1 =>
   rw [e] at ok
   dsimp only at ok
   refine ⟨τ, ρ, G, ds[i], τ1, ab, rx, e, fun σ' bH => ⟨τ1, ρ, G, bH, ?_⟩⟩
   cases eb : body τ1 G with
   | stuck => rw [eb] at ok; exact ok
   | nx τ2 G2 => rw [eb] at ok; exact fun σ2 H2 ρ2 f2 dz => ⟨τ2, ρ2, G2, dz, f.trans f2, ok.fut f2⟩
   | ct τ2 G2 => rw [eb] at ok; exact fun σ2 H2 ρ2 f2 dz => ⟨τ2, ρ2, G2, dz, f.trans f2, ok.fut f2⟩
   | bk τ2 G2 => rw [eb] at ok; exact ok
   | rt d G2 => rw [eb] at ok; exact ok
   | xn c τ2 G2 => rw [eb] at ok; exact ok
 ·have e : i = ds.length := by omega
  subst e
  refine .inl ⟨stop _ H ρ (Nat.le_refl _) f, ?_⟩
  rw [List.drop_eq_nil_of_le (Nat.le_refl _)] at ok
  exact ok σ H ρ .refl ab
theorem HX {g : pS} {body : MS} {Dd : Ends} {H0 : Hp} {σ0 : L2.St} {ρ0 : List Addr} {G0 : DH} {τ0 : DS} {n : Nat} {p : Addr} {fuel : Nat} (hn : ρ0[n]? = some p)
  (ab : Ab X.K X.mg σ0 H0 τ0 ρ0 G0) (ok : u9 X.K X.mg EE H0 ρ0 Dd (rj g body n fuel 0 τ0 G0)) :
  ∃ W : Nat → Nat → L2.St → Hp → Prop, (∃ m, W 0 m σ0 H0) ∧ ∀ i m σ H, W i m σ H →
   ((GZ X.K p).stop i H ∧ Dd.nx σ H) ∨ ((GZ X.K p).go i H ∧ ∃ N : L2.St → Hp → Prop, (∀ σ' H', N σ' H' → ∃ m', m' < m ∧ W (i + 1) m' σ' H') ∧ ∀ x H', (GZ X.K p).wZ i H x H' → zd X.K X.mg g x σ H' fun σ2 H2 => jT X.K X.mg EE body { Dd with nx := N, ct := N, bk := Dd.nx } σ2 H2) := by
 refine ⟨fun i m σ H => ∃ τ ρ G, Ab X.K X.mg σ H τ ρ G ∧ dh X.K H0 H ρ0 ρ ∧ u9 X.K X.mg EE H ρ Dd (rj g body n m i τ G), ⟨fuel, τ0, ρ0, G0, ab, .refl, ok⟩, ?_⟩
 rintro i m σ H ⟨τ, ρ, G, ab, f, ok⟩
 cases m with
 | zero => exact ok.elim
 | succ m =>
  unfold rj at ok
  cases q : G[n]? with
  | none => rw [q] at ok; exact ok.elim
  | some o =>
   cases o with
   | dead => first | (rw [q] at ok; exact ok.elim) | (rw [q] at aK; exact aK.elim) | (rw [q] at e; cases e; done) | (rw [g] at ok; exact ok.elim) | (rw [g] at q; cases q; done) | (rw [g] at h; cases h; done) | (rw [g2] at ok; exact ok.elim) | (rw [g1, g2] at ok; exact ok.elim) | (rw [q1] at ok; exact ok.elim) | exact ok.elim
   | dct kv => first | (rw [q] at ok; exact ok.elim) | (rw [q] at aK; exact aK.elim) | (rw [q] at e; cases e; done) | (rw [g] at ok; exact ok.elim) | (rw [g] at q; cases q; done) | (rw [g] at h; cases h; done) | (rw [g2] at ok; exact ok.elim) | (rw [g1, g2] at ok; exact ok.elim) | (rw [q1] at ok; exact ok.elim) | exact ok.elim
   | d8 fz kv => first | (rw [q] at ok; exact ok.elim) | (rw [q] at aK; exact aK.elim) | (rw [q] at e; cases e; done) | (rw [g] at ok; exact ok.elim) | (rw [g] at q; cases q; done) | (rw [g] at h; cases h; done) | (rw [g2] at ok; exact ok.elim) | (rw [g1, g2] at ok; exact ok.elim) | (rw [q1] at ok; exact ok.elim) | exact ok.elim
   | lst ds =>
    rw [q] at ok
    dsimp only at ok
    obtain ⟨p', xs, e1, e2, rs⟩ := ab.hp.lst q
    rw [f.get hn] at e1; cases e1
    cases qd : ds[i]? with
    | none =>
     rw [qd] at ok
     have hl : xs.length ≤ i := by rw [← rs.length]; exact List.getElem?_eq_none_iff.mp qd
     exact .inl ⟨⟨xs, .of e2, hl⟩, ok σ H ρ .refl ab⟩
    | some d =>
     rw [qd] at ok
     dsimp only at ok
     obtain ⟨x0, ex, rx⟩ := rs.get qd
     refine .inr ⟨⟨xs, x0, .of e2, ex⟩, fun σ' H' => ∃ τ' ρ' G', Ab X.K X.mg σ' H' τ' ρ' G' ∧ dh X.K H0 H' ρ0 ρ' ∧ u9 X.K X.mg EE H' ρ' Dd (rj g body n m (i + 1) τ' G'), fun σ' H' z => ⟨m, Nat.lt_succ_self _, z⟩, fun x H' y => ?_⟩
     obtain ⟨rfl, y⟩ := y
     have e3 := y xs (.of e2)
     rw [ex] at e3; cases e3
     cases e : g d τ with
     | none => rw [e] at ok; exact ok.elim
     | some τ1 =>
      rw [e] at ok
      dsimp only at ok
      refine ⟨τ, ρ, G, d, τ1, ab, rx, e, fun σ' bH => ⟨τ1, ρ, G, bH, ?_⟩⟩
      cases eb : body τ1 G with
      | stuck => rw [eb] at ok; exact ok
      | nx τ2 G2 => rw [eb] at ok; exact fun σ2 H2 ρ2 f2 dz => ⟨τ2, ρ2, G2, dz, f.trans f2, ok.fut f2⟩
      | ct τ2 G2 => rw [eb] at ok; exact fun σ2 H2 ρ2 f2 dz => ⟨τ2, ρ2, G2, dz, f.trans f2, ok.fut f2⟩
      | bk τ2 G2 => rw [eb] at ok; exact ok
      | rt d G2 => rw [eb] at ok; exact ok
      | xn c τ2 G2 => rw [eb] at ok; exact ok
theorem PI.any {l : Expr} {tl : TE} (hl : PE X l tl) : PI X tg l (fun σ H R => tl σ H fun x H1 => (∃ p, x = .ref p ∧ (∃ xs, mH X.K H1 p xs) ∧ R (GZ X.K p) H1) ∨ (∃ p, x = .ref p ∧ (∃ xs, n9 X.K H1 p xs) ∧ R (OV X.K p) H1) ∨ ∃ z, x = .str z ∧ R (HW z) H1) := by
 intro pins s σ H R I h
 refine fT (hl pins s σ H _ I h) fun u s1 ⟨x, H1, I1, r1, q⟩ => ?_
 rcases q with ⟨p, rfl, ⟨xs, sq⟩, q⟩ | ⟨p, rfl, ⟨xs, sq⟩, q⟩ | ⟨z, rfl, q⟩
 ·cases r1
  obtain ⟨its, rv, pl, hz⟩ := I1.list sq
  refine wpAny_pyIter_list pl.isList ?_
  have I2 : Inv X pins σ H1 { s1 with heap := s1.heap.push { cls := .type "list_iterator", data := .fields #[.ref p, .int 0 0] } } := I1.kept (t' := s1.toks) fun b o e => Heap.get?_push_of_some _ e
  refine ⟨s1.heap.objs.size, [s1.heap.objs.size], _, GZ X.K p, H1, rfl, I2, C4 p _, ⟨_, Heap.get?_push_size _ rfl, rfl, rfl⟩, fun b hb => ?_, q⟩
  have e : b = s1.heap.objs.size := by simpa using hb
  subst e
  exact I1.tH (Nat.le_refl _) (I1.hok.fresh (Nat.le_refl _))
 ·cases r1
  obtain ⟨its, rv, pl, hz⟩ := I1.tuple sq
  refine wpAny_pyIter_tuple pl ?_
  have I2 : Inv X pins σ H1 { s1 with heap := s1.heap.push { cls := .type "tuple_iterator", data := .fields #[.ref p, .int 0 0] } } := I1.kept (t' := s1.toks) fun b o e => Heap.get?_push_of_some _ e
  refine ⟨s1.heap.objs.size, [s1.heap.objs.size], _, OV X.K p, H1, rfl, I2, AE p _, ⟨_, Heap.get?_push_size _ rfl, rfl, rfl⟩, fun b hb => ?_, q⟩
  have e : b = s1.heap.objs.size := by simpa using hb
  subst e
  exact I1.tH (Nat.le_refl _) (I1.hok.fresh (Nat.le_refl _))
 ·obtain ⟨t, rfl⟩ := r1
  refine wpAny_pyIter_strU ?_
  have I2 : Inv X pins σ H1 { s1 with heap := s1.heap.push { cls := .type (strIterType z), data := .fields #[.str z t, .int 0 0] } } := I1.kept (t' := s1.toks) fun b o e => Heap.get?_push_of_some _ e
  refine ⟨s1.heap.objs.size, [s1.heap.objs.size], _, HW z, H1, rfl, I2, EX z t _, ⟨_, Heap.get?_push_size _ rfl, rfl, rfl⟩, fun b hb => ?_, q⟩
  have e : b = s1.heap.objs.size := by simpa using hb
  subst e
  exact I1.tH (Nat.le_refl _) (I1.hok.fresh (Nat.le_refl _))
theorem KZ {g : pS} {body : List Stmt} (hp : PassesOwn (model X.prog X.w) X.A X.env X.xe) (hc : X.calm = true) (ha : QE X EE a ma) (hg : QG X tg g) (hb : Dk X EE body ms) (hs : ∀ x, foldedSetIterable a X.env x = pure x := by intro _; rfl) :
  QS X EE (.For tg a body [] pos) (lD g ma ms) := PS.mono (AG hp hc (PI.any ha) hg hb hs) fun Dd σ H h => by
 obtain ⟨τ, ρ, G, ab, ok⟩ := xx (k := fun τ d G => match d with
  | .obj n => match G[n]? with
   | some (.lst xs) => rj g ms n (xs.length + 1) 0 τ G
   | _ => .stuck
  | .tup xs => bO g ms xs τ G
  | .con xs => bO g ms xs τ G
  | .str z => bO g ms (z.cps.toList.map fun c => .str ⟨#[c]⟩) τ G
  | _ => .stuck) h
 refine ⟨τ, ρ, G, ab, ?_⟩
 cases e : ma τ G with
 | stuck => rw [e] at ok; exact ok
 | bY c G' => rw [e] at ok; exact ok
 | ok d G' =>
  rw [e] at ok
  intro v H1 ρ1 f1 mR r1
  obtain ⟨τ2, ρ2, G2, d2, dz, r2, aK⟩ := ok v H1 ρ1 f1 mR r1
  cases d2 <;> try exact aK.elim
  case obj n =>
   dsimp only at aK
   unfold Rep at r2
   obtain ⟨p, rfl, e1⟩ := r2
   cases q : G2[n]? with
   | none => rw [q] at aK; exact aK.elim
   | some o =>
    cases o with
    | dead => first | (rw [q] at ok; exact ok.elim) | (rw [q] at aK; exact aK.elim) | (rw [q] at e; cases e; done) | (rw [g] at ok; exact ok.elim) | (rw [g] at q; cases q; done) | (rw [g] at h; cases h; done) | (rw [g2] at ok; exact ok.elim) | (rw [g1, g2] at ok; exact ok.elim) | (rw [q1] at ok; exact ok.elim) | exact ok.elim
    | dct kv => first | (rw [q] at ok; exact ok.elim) | (rw [q] at aK; exact aK.elim) | (rw [q] at e; cases e; done) | (rw [g] at ok; exact ok.elim) | (rw [g] at q; cases q; done) | (rw [g] at h; cases h; done) | (rw [g2] at ok; exact ok.elim) | (rw [g1, g2] at ok; exact ok.elim) | (rw [q1] at ok; exact ok.elim) | exact ok.elim
    | d8 fz kv => first | (rw [q] at ok; exact ok.elim) | (rw [q] at aK; exact aK.elim) | (rw [q] at e; cases e; done) | (rw [g] at ok; exact ok.elim) | (rw [g] at q; cases q; done) | (rw [g] at h; cases h; done) | (rw [g2] at ok; exact ok.elim) | (rw [g1, g2] at ok; exact ok.elim) | (rw [q1] at ok; exact ok.elim) | exact ok.elim
    | lst xs =>
     rw [q] at aK
     obtain ⟨p', vs, e2, h2, rs⟩ := dz.hp.lst q
     rw [e1] at e2; cases e2
     exact .inl ⟨p, rfl, ⟨vs, .of h2⟩, HX e1 dz aK⟩
  case tup xs =>
   unfold Rep at r2
   obtain ⟨p, vs, rfl, sq, rs⟩ := r2
   refine .inr (.inl ⟨p, rfl, ⟨vs, sq⟩, nS xs (fun i H' ρ' hi f => ?_) (fun i H' ρ' hi f => ?_) (fun i d' H' ρ' x Nd hd f y => ?_) dz aK⟩)
   ·rw [rs.length] at hi
    exact ⟨vs, vs[i], f.tup _ _ sq, List.getElem?_eq_getElem hi⟩
   ·exact ⟨vs, f.tup _ _ sq, by rw [← rs.length]; exact hi⟩
   ·obtain ⟨rfl, y⟩ := y
    obtain ⟨w', ew, rw'⟩ := rs.get hd
    have := y vs (f.tup _ _ sq)
    rw [ew] at this; cases this
    exact ⟨rfl, rw'.mono f⟩
  case con xs =>
   unfold Rep at r2
   obtain ⟨p, vs, rfl, sq, rs⟩ := r2
   refine .inl ⟨p, rfl, ⟨vs, sq.seq⟩, nS xs (fun i H' ρ' hi f => ?_) (fun i H' ρ' hi f => ?_) (fun i d' H' ρ' x Nd hd f y => ?_) dz aK⟩
   ·rw [rs.length] at hi
    exact ⟨vs, vs[i], (f.con _ _ sq).seq, List.getElem?_eq_getElem hi⟩
   ·exact ⟨vs, (f.con _ _ sq).seq, by rw [← rs.length]; exact hi⟩
   ·obtain ⟨rfl, y⟩ := y
    obtain ⟨w', ew, rw'⟩ := rs.get hd
    have := y vs (f.con _ _ sq).seq
    rw [ew] at this; cases this
    exact ⟨rfl, rw'.mono f⟩
  case str z =>
   unfold Rep at r2; subst r2
   refine .inr (.inr ⟨z, rfl, nS (z.cps.toList.map fun c => .str ⟨#[c]⟩) (fun i H' ρ' hi f => ?_) (fun i H' ρ' hi f => ?_) (fun i d' H' ρ' x Nd hd f y => ?_) dz aK⟩)
   ·simpa [HW] using hi
   ·simpa [HW] using hi
   ·obtain ⟨rfl, c, hc, rfl⟩ := y
    rw [List.getElem?_map] at hd
    have : z.cps.toList[i]? = some c := by simpa using hc
    rw [this] at hd
    cases hd
    exact ⟨rfl, by unfold Rep; rfl⟩
noncomputable def xE : List D → Option (List D)
 | [.int j] => if -(2 ^ 62) ≤ j ∧ j < 2 ^ 62 then some ((List.range j.toNat).map fun (k : Nat) => .int (0 + (k : Int))) else none
 | _ => none
noncomputable def lE (CW : List D → Option (List D)) (g : pS) (m : DS → M (List D)) (body : MS) : MS := fun τ => bZ (m τ) (fun ds G => match CW ds with
 | some xs => bO g body xs τ G
 | none => .stuck) fun c G => .xn c τ G
theorem K1 {K : PySem.W.Frag} {mg : Str → Option Value} {σ : L2.St} {H : Hp} {m : DS → M (List D)} {k : DS → List D → DH → Res} {Dd : Ends} (h : jT K mg EE (fun τ => bZ (m τ) (k τ) fun c G => .xn c τ G) Dd σ H) :
  p5 K mg EE m σ H fun x H1 => ∃ τ ρ G d, Ab K mg σ H1 τ ρ G ∧ au K mg ρ H1 d x ∧ u9 K mg EE H1 ρ Dd (k τ d G) := by
 obtain ⟨τ, ρ, G, ab, ok⟩ := h
 refine ⟨τ, ρ, G, ab, ?_⟩
 dsimp only [bZ] at ok
 cases e : m τ G with
 | stuck => rw [e] at ok; exact ok
 | bY c G' => rw [e] at ok; exact fun H' ρ' f bH => ok σ H' ρ' f bH
 | ok d G' => rw [e] at ok; exact fun v H' ρ' f bH r => ⟨τ, ρ', G', d, bH, r, ok.fut f⟩
theorem Dp {g : pS} {body : MS} {Dd : Ends} {H0 : Hp} {σ0 : L2.St} {ρ0 : List Addr} {G0 : DH} {τ0 : DS} (lo : Int) (n : Nat) (ab : Ab X.K X.mg σ0 H0 τ0 ρ0 G0) (ok : u9 X.K X.mg EE H0 ρ0 Dd (bO g body ((List.range n).map fun (k : Nat) => .int (lo + (k : Int))) τ0 G0)) :
  ∃ W : Nat → Nat → L2.St → Hp → Prop, (∃ m, W 0 m σ0 H0) ∧ ∀ i m σ H, W i m σ H →
   ((C3 lo n).stop i H ∧ Dd.nx σ H) ∨ ((C3 lo n).go i H ∧ ∃ N : L2.St → Hp → Prop, (∀ σ' H', N σ' H' → ∃ m', m' < m ∧ W (i + 1) m' σ' H') ∧ ∀ x H', (C3 lo n).wZ i H x H' → zd X.K X.mg g x σ H' fun σ2 H2 => jT X.K X.mg EE body { Dd with nx := N, ct := N, bk := Dd.nx } σ2 H2) :=
 nS (J := C3 lo n) _ (fun i H ρ hi f => by simpa [C3] using hi) (fun i H ρ hi f => by simpa [C3] using hi) (fun i d H ρ x H' hd f y => by
  obtain ⟨rfl, rfl⟩ := y
  rw [List.getElem?_map] at hd
  cases q : (List.range n)[i]? with
  | none => rw [q] at hd; cases hd
  | some k =>
   rw [q] at hd
   obtain ⟨hk, e⟩ := List.getElem?_eq_some_iff.mp q
   rw [List.getElem_range] at e
   subst e
   cases hd
   exact ⟨rfl, by unfold Rep; rfl⟩) ab ok
theorem EY {g : pS} {m : DS → M (List D)} {body : List Stmt} {p pc : Pos} (hp : PassesOwn (model X.prog X.w) X.A X.env X.xe) (hc : X.calm = true) (hm : X.mg "range" = none) (ha : QA X EE [a] m) (hg : QG X tg g) (hb : Dk X EE body ms)
  (ze : Gl X "range" := by rfl) (hst : starEach [a] X.env = [(false, eval a X.env)] := by rfl) (hs : ∀ x, foldedSetIterable (.Call (.Name "range" p) [a] [] pc) X.env x = pure x := by intro _; rfl) :
  QS X EE (.For tg (.Call (.Name "range" p) [a] [] pc) body [] pos) (lE xE g m ms) := PS.mono (AG hp hc (C5 ze hm ha hst) hg hb hs) fun Dd σ H h => by
 obtain ⟨τ, ρ, G, ab, ok⟩ := K1 (k := fun τ ds G => match xE ds with | some xs => bO g ms xs τ G | none => .stuck) h
 refine ⟨τ, ρ, G, ab, ?_⟩
 cases e : m τ G with
 | stuck => rw [e] at ok; exact ok
 | bY c G' => rw [e] at ok; exact ok
 | ok ds G' =>
  rw [e] at ok
  intro vs H1 ρ1 f1 mR r1
  obtain ⟨τ2, ρ2, G2, d2, dz, r2, aK⟩ := ok vs H1 ρ1 f1 mR r1
  cases q : xE d2 with
  | none => rw [q] at aK; exact aK.elim
  | some xs =>
   rw [q] at aK
   unfold xE at q
   split at q
   ·rename_i j
    split at q
    ·rename_i hj
     cases q
     unfold au at r2
     obtain ⟨v, r, rfl, h1, h2⟩ := r2
     unfold au at h2; subst h2
     unfold Rep at h1; subst h1
     exact ⟨j, rfl, hj.1, hj.2, Dp 0 j.toNat dz aK⟩
    ·cases q
   ·cases q
end
end L3
end
section
set_option Elab.async false
set_option linter.all false
set_option maxRecDepth 100000
namespace L3
open PySem PySem.Spec L2
noncomputable def TR (K : PySem.W.Frag) (mg : Str → Option Value) (H : Hp) (ρ : List Addr) : Out D → VK → XK → Prop
 | .stuck, _, _ => False
 | .ok d G', Q, _ => ∀ v H' ρ', dh K H H' ρ ρ' → iB K mg H' ρ' G' → Rep K mg ρ' H' d v → Q v H'
 | .bY c G', _, E => ∀ cls H' ρ', (match c with | .mk n _ => mg n = some cls) → dh K H H' ρ ρ' → iB K mg H' ρ' G' → E cls none H'
noncomputable def b7 (K : PySem.W.Frag) (mg : Str → Option Value) (n : Nat) (m : List D → M D) : Sp := fun vs H Q E => ∃ ds ρ G, ds.length = n ∧ iB K mg H ρ G ∧ au K mg ρ H ds vs ∧ TR K mg H ρ (m ds G) Q E
theorem b7.len {K : PySem.W.Frag} {mg : Str → Option Value} {n : Nat} {m : List D → M D} {vs : List V} {H : Hp} {Q : VK} {E : XK} (h : b7 K mg n m vs H Q E) : vs.length = n := by
 obtain ⟨ds, ρ, G, e, _, r, _⟩ := h
 rw [← r.length, e]
noncomputable def Qg (mg : Str → Option Value) (EE : fK) (σ : L2.St) : XK := fun cls _ H' => ∃ c, (match c with | .mk n _ => mg n = some cls) ∧ EE c σ H'
noncomputable def O3 (CX : BZ) (X : Cx) (EE : fK) : Prop := ∀ (pins : List (Addr × Obj)) (σ : L2.St) (H : Hp) (s : Shared) (e : Value) (s' : Shared), Inv X pins σ H s → CX X.stack H s (Qg X.mg EE σ) e s' → X.xe e s'
section
variable {X : Cx} {CX : BZ} {EE : fK} {k n : Nat} {f : Addr} {fd : FuncData} {ps : List Str} {mf : List D → M D} {x : Str} {p pos : Pos} {e : Expr} {es : List Expr} {m : DS → M (List D)}
theorem iB.ab {K : PySem.W.Frag} {mg : Str → Option Value} {σ : L2.St} {H H' : Hp} {τ : DS} {ρ ρ' : List Addr} {G G' : DH} (ab : Ab K mg σ H τ ρ G) (f : dh K H H' ρ ρ') (h : iB K mg H' ρ' G') : Ab K mg σ H' τ ρ' G' := ⟨ab.st.mono f, h⟩
theorem HY {pins : List (Addr × Obj)} {σ : L2.St} {H : Hp} {s : Shared} {Q : VK} {us : List Value} {vs : List V} {τ : DS} {ρ : List Addr} {G : DH} {ds : List D} (F : ck X.prog X.w X.K X.mg X.base CX k f fd ps (b7 X.K X.mg n mf)) (hr : jS k X.A) (hb : Binds X.K fd ps [])
  (hx : O3 CX X EE) (I : Inv X pins σ H s) (r : Vals vs us) (ab : Ab X.K X.mg σ H τ ρ G) (rs : au X.K X.mg ρ H ds vs) (hn : ds.length = n) (ok : lA X.K X.mg EE H σ τ ρ (mf ds G) Q) : wpAny (model X.prog X.w) X.A (call (.ref f) us) (EP X pins σ Q) X.xe s := by
 have h : b7 X.K X.mg n mf vs H Q (Qg X.mg EE σ) := by
  refine ⟨ds, ρ, G, hn, ab.hp, rs, ?_⟩
  cases q : mf ds G with
  | stuck => rw [q] at ok; exact ok
  | ok d G' => rw [q] at ok; exact fun v H' ρ' f hp r => ok v H' ρ' f (iB.ab ab f hp) r
  | bY c G' => rw [q] at ok; exact fun cls H' ρ' hc f hp => ⟨c, hc, ok H' ρ' f (iB.ab ab f hp)⟩
 have hl : (us ++ []).length = ps.length := by rw [List.append_nil, ← r.length]; exact F.len _ _ _ _ h
 have OZ := hb s us I.CZ hl
 rw [List.append_nil] at OZ
 refine wpAny_call (codeAny_mono (F.run X.A X.stack s H ⟨us, []⟩ us vs Q (Qg X.mg EE σ) hr I.jd OZ r h) fun r s' hq => ?_)
 cases r with
 | error e => exact hx pins σ H s e s' I hq
 | ok fl =>
  cases fl with
  | ret u => exact I.after hq
  | next => exact False.elim hq
  | brk => exact False.elim hq
  | cont => exact False.elim hq
noncomputable def cW (n : Nat) (mf : List D → M D) (m : DS → M (List D)) : DS → M D := az (fun ds => if ds.length = n then mf ds else M.stop) m
theorem HZ (F : ck X.prog X.w X.K X.mg X.base CX k f fd ps (b7 X.K X.mg n mf)) (hr : jS k X.A) (hm : X.mg x = some (.ref f)) (hk : PySem.W.keepIn X.K (.ref f) = true) (hb : Binds X.K fd ps []) (hx : O3 CX X EE)
  (ha : QA X EE (e :: es) m) (hg : Gl X x := by rfl) (hdb : (x == ("__debug__" : Str)) = false := by decide) (he : starEach (e :: es) X.env = (false, eval e X.env) :: starEach es X.env := by rfl) (hpl : (backTo pos (starEach es X.env)).any (·.1) = false := by rfl) :
  QE X EE (.Call (.Name x p) (e :: es) [] pos) (cW n mf m) := by
 intro pins s σ H Q I h
 obtain ⟨τ, ρ, G, ab, ok⟩ := AN (k := fun _ ds => if ds.length = n then mf ds else M.stop) h
 refine wpAny_Call_Name_kw (G8 I hg hm ?_ hdb)
 refine PySem.W.callWith_K (h₀ := X.base) I.ok.mod.Pp hk (fT (ha pos pins s σ H _ I ⟨τ, ρ, G, ab, ok⟩) fun us s1 ⟨vs, H1, I1, r, q⟩ => ⟨I1.CZ, ?_⟩) he hpl
 obtain ⟨τ1, ρ1, G1, ds, mR, rs, L6⟩ := q
 by_cases hn : ds.length = n
 ·rw [if_pos hn] at L6
  exact HY F hr hb hx I1 r mR rs hn L6
 ·rw [if_neg hn] at L6
  exact L6.elim
end
noncomputable def fq (N : Nat) (ms : MS) (ds : List D) : M D := fun G => match ms (ds.map some ++ List.replicate (N - ds.length) none) G with
 | .stuck => .stuck
 | .nx _ G' => .ok .cj G'
 | .rt d G' => .ok d G'
 | .bk _ _ => .stuck
 | .ct _ _ => .stuck
 | .xn c _ G' => .bY c G'
theorem AY {K : PySem.W.Frag} {mg : Str → Option Value} {H : Hp} {ρ : List Addr} {ds : List D} {vs : List V} {N : List Str} (r : au K mg ρ H ds vs) : u7 K mg H ρ (L2.start N vs) (ds.map some ++ List.replicate (N.length - ds.length) none) := by
 have hl := r.length
 refine ⟨by unfold L2.start; simp [hl], fun i d e => ?_⟩
 have hi : i < ds.length := by
  by_cases hi : i < ds.length
  ·exact hi
  ·rw [List.getElem?_append_right (by simpa using hi), List.getElem?_replicate] at e
   split at e <;> cases e
 rw [List.getElem?_append_left (by simpa using hi), List.getElem?_map] at e
 cases q : ds[i]? with
 | none => rw [q] at e; cases e
 | some d' =>
  rw [q] at e; cases e
  obtain ⟨v, e1, r1⟩ := r.get q
  refine ⟨v, ?_, r1⟩
  unfold L2.start
  rw [List.getElem?_append_left (by simp; omega), List.getElem?_map, e1]
  rfl
section
variable {P : Program} {w : World} {K : PySem.W.Frag} {mg : Str → Option Value} {base : Heap} {f : Addr} {fd : FuncData}
end
end L3
end
section
set_option Elab.async false
set_option linter.all false
set_option maxRecDepth 100000
namespace L3
open PySem PySem.Spec L2
section
variable {X : Cx} {EE : fK} {a b c : Expr} {ma mb mc : DS → M D} {pos : Pos}
noncomputable def G4 (X : Cx) (EE : fK) (f : List D → M D) : List V → Hp → VK → Prop := fun xs H Q => ∃ σ τ ρ G ds, Ab X.K X.mg σ H τ ρ G ∧ au X.K X.mg ρ H ds xs ∧ lA X.K X.mg EE H σ τ ρ (f ds G) Q
theorem tV {f : List D → M D} : CallD X EE (G4 X EE f) f := fun σ H τ ρ G xs ds Q ab r ok => ⟨σ, τ, ρ, G, ds, ab, r, ok⟩
theorem jU {K : PySem.W.Frag} {mg : Str → Option Value} {ρ : List Addr} {H : Hp} {d : D} {xs : List V} (r : au K mg ρ H [d] xs) : ∃ x, xs = [x] ∧ Rep K mg ρ H d x := by
 unfold au at r
 obtain ⟨v, r', rfl, h1, h2⟩ := r
 unfold au at h2; subst h2
 exact ⟨v, rfl, h1⟩
theorem B7 {K : PySem.W.Frag} {mg : Str → Option Value} {ρ : List Addr} {H : Hp} {d e : D} {xs : List V} (r : au K mg ρ H [d, e] xs) : ∃ x y, xs = [x, y] ∧ Rep K mg ρ H d x ∧ Rep K mg ρ H e y := by
 unfold au at r
 obtain ⟨v, r', rfl, h1, h2⟩ := r
 obtain ⟨y, rfl, h3⟩ := jU h2
 exact ⟨v, y, rfl, h1, h3⟩
noncomputable def kJ : List D → M D
 | [d] => fun G => match aD G d with
  | some (.lst xs) => .ok (.int xs.length) G
  | some (.tup xs) => .ok (.int xs.length) G
  | some (.str z) => if z.length ≤ sizeLine then .ok (.int z.length) G else .stuck
  | none => .stuck
 | _ => M.stop
theorem Dq : gU X (.builtin "len") (G4 X EE kJ) := by
 intro pins s σ0 H xs us Q I r ⟨σ, τ, ρ, G, ds, ab, rs, ok⟩
 match ds, ok with
 | [], ok => exact ok.elim
 | _ :: _ :: _, ok => exact ok.elim
 | [d], ok =>
  obtain ⟨x, rfl, rx⟩ := jU rs
  dsimp only [kJ] at ok
  cases q : aD G d with
  | none => rw [q] at ok; exact ok.elim
  | some sk =>
   rw [q] at ok
   cases sk with
   | lst zs =>
    obtain ⟨p, vs, rfl, sq, rv⟩ := cJ (pins := pins) (σ0 := σ0) (s := s) ab.hp rx q
    exact pX pins s σ0 H _ us Q I r ⟨p, vs, rfl, .inl sq, ok _ H ρ .refl ab (by unfold Rep; rw [rv.length])⟩
   | tup zs =>
    obtain ⟨p, vs, rfl, sq, rv⟩ := fL rx q
    exact pX pins s σ0 H _ us Q I r ⟨p, vs, rfl, .inr sq, ok _ H ρ .refl ab (by unfold Rep; rw [rv.length])⟩
   | str z =>
    obtain ⟨rfl, rfl⟩ := kG rx q
    dsimp only at ok
    by_cases hz : z.length ≤ sizeLine
    ·rw [if_pos hz] at ok
     exact xm pins s σ0 H _ us Q I r ⟨z, rfl, hz, ok _ H ρ .refl ab (by unfold Rep; rfl)⟩
    ·rw [if_neg hz] at ok; exact ok.elim
inductive Ty where
 | cj | bl | int | str | tup | lst | dct
 deriving DecidableEq
noncomputable def Ty.nm : Ty → String
 | .cj => "NoneType" | .bl => "bool" | .int => "int" | .str => "str" | .tup => "tuple" | .lst => "list" | .dct => "dict"
noncomputable def O4 (G : DH) : D → Option Ty
 | .cj => some .cj
 | .bl _ => some .bl
 | .int _ => some .int
 | .str _ => some .str
 | .tup _ => some .tup
 | .con _ => some .lst
 | .obj n => match G[n]? with
  | some (.lst _) => some .lst
  | _ => none
 | .fn _ => none
 | .u6 _ _ => none
noncomputable def Ty.is (t c : Ty) : Bool := decide (t = c) || (decide (t = .bl) && decide (c = .int))
theorem pe (K : PySem.W.Frag) : ∀ (t c : Ty), c ≠ .cj → PySem.W.kitOne K (.type t.nm) (.type c.nm) = some (t.is c) := by
 intro t c h
 cases t <;> cases c <;> first | exact absurd rfl h | rfl | (with_unfolding_all rfl) | decide +kernel
noncomputable def zf (c : Ty) (d : D) : M D := fun G => match O4 G d with
 | some t => .ok (.bl (t.is c)) G
 | none => .stuck
noncomputable def EZ (c : Ty) (m : DS → M D) : DS → M D := fun τ => (m τ).bind (zf c)
theorem H8 {c : Ty} (hc : c ≠ .cj) {pins : List (Addr × Obj)} {s : Shared} {σ0 σ : L2.St} {H : Hp} {τ : DS} {ρ : List Addr} {G : DH} {d : D} {x : V} {u : Value} {Q : VK} (I : Inv X pins σ0 H s) (ab : Ab X.K X.mg σ H τ ρ G) (rx : Rep X.K X.mg ρ H d x) (ru : RelV x u)
  (ok : lA X.K X.mg EE H σ τ ρ (zf c d G) Q) : wpAny (model X.prog X.w) X.A (call (.builtin "isinstance") [u, .type c.nm]) (EP X pins σ0 Q) X.xe s := by
 dsimp only [zf] at ok
 have fin : ∀ {b : Bool}, Q (.bl b) H → ∀ tk, EP X pins σ0 Q (.bool b) { s with toks := tk } := fun q tk => ⟨.bl _, H, I.tok tk, rfl, q⟩
 cases d with
 | cj =>
  have q := ok (.bl _) H ρ .refl ab (by unfold Rep; rfl)
  unfold Rep at rx; subst rx; cases ru
  exact PySem.W.kia_one PySem.W.kitx_none I.CZ True.intro (pe X.K .cj c hc) (fun z => nomatch z) (fin q)
 | bl y =>
  have q := ok (.bl _) H ρ .refl ab (by unfold Rep; rfl)
  unfold Rep at rx; subst rx; cases ru
  exact PySem.W.kia_one PySem.W.kitx_bool I.CZ True.intro (pe X.K .bl c hc) (fun z => nomatch z) (fin q)
 | int y =>
  have q := ok (.bl _) H ρ .refl ab (by unfold Rep; rfl)
  unfold Rep at rx; subst rx; obtain ⟨t, rfl⟩ := ru
  exact PySem.W.kia_one PySem.W.kitx_int I.CZ True.intro (pe X.K .int c hc) (fun z => nomatch z) (fin q)
 | str y =>
  have q := ok (.bl _) H ρ .refl ab (by unfold Rep; rfl)
  unfold Rep at rx; subst rx; obtain ⟨t, rfl⟩ := ru
  exact PySem.W.kia_one PySem.W.kitx_str I.CZ True.intro (pe X.K .str c hc) (fun z => nomatch z) (fin q)
 | tup ys =>
  have q := ok (.bl _) H ρ .refl ab (by unfold Rep; rfl)
  unfold Rep at rx
  obtain ⟨p, vs, rfl, sq, _⟩ := rx
  cases ru
  obtain ⟨its, _, ⟨o, h1, h2, _⟩, _⟩ := I.tuple (yJ.t sq)
  exact PySem.W.kia_one PySem.W.kitx_tuple I.CZ ⟨o, h1, h2⟩ (pe X.K .tup c hc) (fun z => nomatch z) (fin q)
 | con ys =>
  have q := ok (.bl _) H ρ .refl ab (by unfold Rep; rfl)
  unfold Rep at rx
  obtain ⟨p, vs, rfl, sq, _⟩ := rx
  cases ru
  obtain ⟨its, _, ⟨o, k, h1, h2, _⟩, _⟩ := I.list sq.seq
  exact PySem.W.kia_one PySem.W.kitx_list I.CZ ⟨o, h1, h2⟩ (pe X.K .lst c hc) (fun z => nomatch z) (fin q)
 | obj n =>
  unfold Rep at rx
  obtain ⟨p, rfl, e1⟩ := rx
  cases ru
  dsimp only [O4] at ok
  cases g : G[n]? with
  | none => rw [g] at ok; exact ok.elim
  | some o =>
   cases o with
   | dead => first | (rw [q] at ok; exact ok.elim) | (rw [q] at aK; exact aK.elim) | (rw [q] at e; cases e; done) | (rw [g] at ok; exact ok.elim) | (rw [g] at q; cases q; done) | (rw [g] at h; cases h; done) | (rw [g2] at ok; exact ok.elim) | (rw [g1, g2] at ok; exact ok.elim) | (rw [q1] at ok; exact ok.elim) | exact ok.elim
   | dct kv => first | (rw [q] at ok; exact ok.elim) | (rw [q] at aK; exact aK.elim) | (rw [q] at e; cases e; done) | (rw [g] at ok; exact ok.elim) | (rw [g] at q; cases q; done) | (rw [g] at h; cases h; done) | (rw [g2] at ok; exact ok.elim) | (rw [g1, g2] at ok; exact ok.elim) | (rw [q1] at ok; exact ok.elim) | exact ok.elim
   | d8 fz kv => first | (rw [q] at ok; exact ok.elim) | (rw [q] at aK; exact aK.elim) | (rw [q] at e; cases e; done) | (rw [g] at ok; exact ok.elim) | (rw [g] at q; cases q; done) | (rw [g] at h; cases h; done) | (rw [g2] at ok; exact ok.elim) | (rw [g1, g2] at ok; exact ok.elim) | (rw [q1] at ok; exact ok.elim) | exact ok.elim
   | lst ys =>
    rw [g] at ok
    have q := ok (.bl _) H ρ .refl ab (by unfold Rep; rfl)
    obtain ⟨p', vs, e2, hp, _⟩ := ab.hp.lst g
    rw [e1] at e2; cases e2
    obtain ⟨its, _, ⟨o, k, h1, h2, _⟩, _⟩ := I.list (.of hp)
    exact PySem.W.kia_one PySem.W.kitx_list I.CZ ⟨o, h1, h2⟩ (pe X.K .lst c hc) (fun z => nomatch z) (fin q)
 | u6 _ _ => exact ok.elim
 | fn x => exact ok.elim
theorem K2 (c : Ty) {p pt : Pos} {x : Str} (hc : c ≠ .cj) (hm : X.mg "isinstance" = none) (hmt : X.mg x = none) (ha : QE X EE a ma) (hb : bootBuiltins x = some (.type c.nm))
  (hg : Gl X "isinstance" := by rfl) (hgt : Gl X x := by rfl) (hnt : x ≠ "__name__" := by decide) (hdt : (x == ("__debug__" : Str)) = false := by decide)
  (he : starEach [a, .Name x pt] X.env = (false, eval a X.env) :: starEach [.Name x pt] X.env := by rfl) (TU : starEach [.Name x pt] X.env = (false, eval (.Name x pt) X.env) :: starEach [] X.env := by rfl) (hpl : (backTo pos (starEach [.Name x pt] X.env)).any (·.1) = false := by rfl)
  (hbi : bootBuiltins "isinstance" = some (.builtin "isinstance") := by first | exact PyProof.Rows.boot_isinstance | decide +kernel) :
  QE X EE (.Call (.Name "isinstance" p) [a, .Name x pt] [] pos) (EZ c ma) := by
 have hT : PE X (.Name x pt) (tC (.ty c.nm)) := G9 hgt hmt hb rfl hnt hdt
 have hA : PA X [a, .Name x pt] (En (dw X.K X.mg EE ma) (En (tC (.ty c.nm)) ML)) := w9 ha (w9 hT Eo TU) he
 intro pins s σ H Q I h
 obtain ⟨τ, ρ, G, ab, ok⟩ := m6 (k := fun _ d => zf c d) h
 refine wpAny_Call_Name_kw (jC I hg hm hbi ?_ (by decide) (by decide))
 refine PyProof.Rows.callWith_builtin1 (fT (hA pos pins s σ H (fun vs H1 => ∃ x, vs = [x, .ty c.nm] ∧ ∃ τ ρ G d, Ab X.K X.mg σ H1 τ ρ G ∧ Rep X.K X.mg ρ H1 d x ∧ lA X.K X.mg EE H1 σ τ ρ (zf c d G) Q) I ⟨τ, ρ, G, ab, ?_⟩) fun us s1 ⟨vs, H1, I1, r1, q1⟩ => ?_) he hpl
 ·cases e : ma τ G with
  | stuck => rw [e] at ok; exact ok
  | bY c G' => rw [e] at ok; exact ok
  | ok d G' => rw [e] at ok; exact fun v H' ρ' f' bH r' => ⟨v, rfl, ok v H' ρ' f' bH r'⟩
 ·obtain ⟨y, rfl, τ2, ρ2, G2, d, dz, rd, aK⟩ := q1
  cases r1 with
  | cons ry rr =>
   cases rr with
   | cons rt rr =>
    cases rr
    cases rt
    exact H8 hc I1 dz rd ry aK
end
end L3
end
section
set_option Elab.async false
set_option linter.all false
set_option maxRecDepth 100000
namespace L3
open PySem PySem.Spec L2
section
variable {X : Cx} {EE : fK} {a b c : Expr} {ma mb mc : DS → M D} {pos : Pos}
noncomputable def rS : List D → Option (List Bool)
 | [] => some []
 | .bl b :: r => (rS r).map (b :: ·)
 | _ :: _ => none
noncomputable def E0 (any : Bool) : List D → M D
 | [d] => fun G => match aD G d with
  | some (.lst xs) => match rS xs with
   | some bs => .ok (.bl (if any then bs.any id else bs.all id)) G
   | none => .stuck
  | _ => .stuck
 | _ => M.stop
theorem wg {K : PySem.W.Frag} {mg : Str → Option Value} {ρ : List Addr} {H : Hp} : ∀ {ds : List D} {vs : List V} {us : List Value} {bs : List Bool}, au K mg ρ H ds vs → Vals vs us → rS ds = some bs → us = bs.map Value.bool
 | [], vs, us, bs, r, v, e => by unfold au at r; subst r; cases v; cases e; rfl
 | d :: ds, vs, us, bs, r, v, e => by
  unfold au at r
  obtain ⟨x, r', rfl, h1, h2⟩ := r
  cases v with
  | cons v1 v2 =>
   cases d <;> try (cases e; done)
   rename_i b
   dsimp only [rS] at e
   cases q : rS ds with
   | none => rw [q] at e; cases e
   | some bs' =>
    rw [q] at e; cases e
    unfold Rep at h1; subst h1; cases v1
    rw [wg h2 v2 q]; rfl
theorem pq {s : Shared} {h' : Heap} {o : Obj} (hk : ∀ b x, b ∉ [s.heap.objs.size] → (s.heap.push o).get? b = some x → h'.get? b = some x) : ∀ b x, s.heap.get? b = some x → h'.get? b = some x :=
 fun b x e => hk b x (fun hm => by rw [List.mem_singleton.mp hm] at e; exact Nat.lt_irrefl _ (Heap.lt_size e)) (Heap.get?_push_of_some _ e)
theorem AZ (bs : List Bool) : ((List.range bs.length).all fun i => (bs[i]?).getD true) = bs.all id := by
 rw [Bool.eq_iff_iff, List.all_eq_true, List.all_eq_true]
 constructor
 ·intro h b hb
  obtain ⟨i, hi, rfl⟩ := List.getElem_of_mem hb
  have := h i (List.mem_range.mpr hi)
  simpa [List.getElem?_eq_getElem hi] using this
 ·intro h i hi
  have hi' := List.mem_range.mp hi
  simp only [List.getElem?_eq_getElem hi', Option.getD_some]
  exact h _ (List.getElem_mem hi')
theorem Dr (hc : X.calm = true) : gU X (.builtin "all") (G4 X EE (E0 false)) := by
 intro pins s σ0 H xs us Q I r ⟨σ, τ, ρ, G, ds, ab, rs, ok⟩
 match ds, ok with
 | [], ok => exact ok.elim
 | _ :: _ :: _, ok => exact ok.elim
 | [d], ok =>
  obtain ⟨x, rfl, rx⟩ := jU rs
  obtain ⟨u, rfl, ru⟩ := vals1 r
  dsimp only [E0] at ok
  cases q : aD G d with
  | none => rw [q] at ok; exact ok.elim
  | some sk =>
   rw [q] at ok
   cases sk with
   | tup zs => exact ok.elim
   | str z => exact ok.elim
   | lst zs =>
    dsimp only at ok
    cases qb : rS zs with
    | none => rw [qb] at ok; exact ok.elim
    | some bs =>
     rw [qb] at ok
     obtain ⟨p, vs, rfl, sq, rv⟩ := cJ (pins := pins) (σ0 := σ0) (s := s) ab.hp rx q
     cases ru
     obtain ⟨its, vv, pl, hz⟩ := I.list sq
     have e := wg rv vv qb
     subst e
     have hl := pl.isList
     have hlt : p < s.heap.objs.size := by obtain ⟨_, e, _⟩ := hl; exact Heap.lt_size e
     refine call_all_walk (wpAny_pyIter_list hl ?_)
     refine ⟨s.heap.objs.size, [s.heap.objs.size, p], [s.heap.objs.size], (bs.map Value.bool).toArray.size, _, _, fun i => (bs[i]?).getD true, rfl, Walks.list (A := X.A.in1) (I.ok.hd hc) _ p (Nat.ne_of_lt hlt) _,
      ⟨⟨_, Heap.get?_push_size _ rfl, rfl, rfl⟩, hl.push _⟩, fun i v s' Q' E' hP hQ => ?_, fun h' tk hk => ?_⟩
     ·have Nf : (bs.map Value.bool)[i]? = some v := by simpa using hP
      rw [List.getElem?_map] at Nf
      cases qi : bs[i]? with
      | none => rw [qi] at Nf; cases Nf
      | some k =>
       rw [qi] at Nf; cases Nf
       simp only [qi, Option.getD_some] at hQ
       exact wpAny_truthy_bool hQ
     ·rw [show (bs.map Value.bool).toArray.size = bs.length by simp, AZ]
      exact ⟨.bl _, H, I.kept (t' := tk) (pq hk), rfl, ok _ H ρ .refl ab (by unfold Rep; rfl)⟩
noncomputable def gX (g : Int → Int → Int) : List D → M D
 | [.int i, .int j] => M.ret (.int (g i j))
 | _ => M.stop
theorem zg {g : Int → Int → Int} {ds : List D} {G : DH} {σ : L2.St} {H : Hp} {τ : DS} {ρ : List Addr} {Q : VK} (ok : lA X.K X.mg EE H σ τ ρ (gX g ds G) Q) : ∃ i j, ds = [.int i, .int j] ∧ lA X.K X.mg EE H σ τ ρ (.ok (.int (g i j)) G) Q := by
 unfold gX at ok
 split at ok
 ·exact ⟨_, _, rfl, ok⟩
 ·exact ok.elim
theorem Dt (hc : X.calm = true) : gU X (.builtin "max") (G4 X EE (gX fun i j => if j > i then j else i)) := by
 intro pins s σ0 H xs us Q I r ⟨σ, τ, ρ, G, ds, ab, rs, ok⟩
 obtain ⟨i, j, rfl, ok⟩ := zg ok
 obtain ⟨x, y, rfl, r1, r2⟩ := B7 rs
 unfold Rep at r1 r2; subst r1 r2
 exact C8 hc pins s σ0 H _ us Q I r ⟨i, j, rfl, ok _ H ρ .refl ab (by unfold Rep; rfl)⟩
theorem Du (hc : X.calm = true) : gU X (.builtin "min") (G4 X EE (gX fun i j => if j < i then j else i)) := by
 intro pins s σ0 H xs us Q I r ⟨σ, τ, ρ, G, ds, ab, rs, ok⟩
 obtain ⟨i, j, rfl, ok⟩ := zg ok
 obtain ⟨x, y, rfl, r1, r2⟩ := B7 rs
 unfold Rep at r1 r2; subst r1 r2
 exact C9 hc pins s σ0 H _ us Q I r ⟨i, j, rfl, ok _ H ρ .refl ab (by unfold Rep; rfl)⟩
noncomputable def O5 (X : Cx) (EE : fK) (f : D → List D → M D) : V → List V → Hp → VK → Prop := fun x xs H Q => ∃ σ τ ρ G d ds, Ab X.K X.mg σ H τ ρ G ∧ Rep X.K X.mg ρ H d x ∧ au X.K X.mg ρ H ds xs ∧ lA X.K X.mg EE H σ τ ρ (f d ds G) Q
noncomputable def m9 (T : String) (G : DH) : D → Bool
 | .str _ => T == "str"
 | .int _ => T == "int"
 | .con _ => T == "list"
 | .obj n => match G[n]? with
  | some (.lst _) => T == "list"
  | _ => false
 | _ => false
theorem Dv {T : String} {σ : L2.St} {H : Hp} {τ : DS} {ρ : List Addr} {G : DH} {d : D} {x : V} (ab : Ab X.K X.mg σ H τ ρ G) (r : Rep X.K X.mg ρ H d x) (h : m9 T G d = true) : P6 X.K T x H := by
 cases d with
 | str z => unfold Rep at r; subst r; exact eq_of_beq h
 | int z => unfold Rep at r; subst r; exact eq_of_beq h
 | con zs =>
  unfold Rep at r
  obtain ⟨p, vs, rfl, sq, _⟩ := r
  exact .inl ⟨eq_of_beq h, vs, sq.seq⟩
 | obj n =>
  unfold Rep at r
  obtain ⟨p, rfl, e1⟩ := r
  dsimp only [m9] at h
  cases g : G[n]? with
  | none => rw [g] at h; cases h
  | some o =>
   cases o with
   | dead => first | (rw [q] at ok; exact ok.elim) | (rw [q] at aK; exact aK.elim) | (rw [q] at e; cases e; done) | (rw [g] at ok; exact ok.elim) | (rw [g] at q; cases q; done) | (rw [g] at h; cases h; done) | (rw [g2] at ok; exact ok.elim) | (rw [g1, g2] at ok; exact ok.elim) | (rw [q1] at ok; exact ok.elim) | exact ok.elim
   | dct kv => first | (rw [q] at ok; exact ok.elim) | (rw [q] at aK; exact aK.elim) | (rw [q] at e; cases e; done) | (rw [g] at ok; exact ok.elim) | (rw [g] at q; cases q; done) | (rw [g] at h; cases h; done) | (rw [g2] at ok; exact ok.elim) | (rw [g1, g2] at ok; exact ok.elim) | (rw [q1] at ok; exact ok.elim) | exact ok.elim
   | d8 fz kv => first | (rw [q] at ok; exact ok.elim) | (rw [q] at aK; exact aK.elim) | (rw [q] at e; cases e; done) | (rw [g] at ok; exact ok.elim) | (rw [g] at q; cases q; done) | (rw [g] at h; cases h; done) | (rw [g2] at ok; exact ok.elim) | (rw [g1, g2] at ok; exact ok.elim) | (rw [q1] at ok; exact ok.elim) | exact ok.elim
   | lst ys =>
    rw [g] at h
    obtain ⟨p', vs, e2, hp, _⟩ := ab.hp.lst g
    rw [e1] at e2; cases e2
    exact .inl ⟨eq_of_beq h, vs, .of hp⟩
 | _ => cases h
noncomputable def gp (T : String) (f : D → List D → M D) (mo : DS → M D) (m : DS → M (List D)) : DS → M D := fun τ => (mo τ).bind fun d G => if m9 T G d then (m τ).bind (fun ds => f d ds) G else .stuck
theorem E2 {o e : Expr} {es : List Expr} {name : Str} {apos cpos : Pos} {T id : String} {f : D → List D → M D} {mo : DS → M D} {m : DS → M (List D)} (pa : PlainAttrs T) (slot : Slot T name id) (hty : typeOf (.builtin id) = pure (.type "method_descriptor")) (hm : MR X id (O5 X EE f)) (ho : QE X EE o mo) (ha : QA X EE (e :: es) m)
  (hbase : attributeBase o name X.env (eval o X.env) = eval o X.env := by rfl)
  (hfew : ((backTo cpos (starEach (e :: es) X.env)).all (fun x => !x.1) && (backToKw cpos (keywordEach [] X.env)).all (fun x => x.1.isSome)
   && decide ((e :: es).length + ([] : List Keyword).length + (if ([] : List Keyword).isEmpty then 0 else 1) < 30)) = true := by rfl)
  (hline : (apos.endLine == cpos.line) = true := by rfl) (hs : starEach (e :: es) X.env = (false, eval e X.env) :: starEach es X.env := by rfl) (hplain : (backTo cpos (starEach es X.env)).any (·.1) = false := by rfl) :
  QE X EE (.Call (.Attribute o name apos) (e :: es) [] cpos) (gp T f mo m) := PE.mono (MU pa slot hty hm ho ha hbase hfew hline hs hplain) fun σ H Q h => by
 obtain ⟨τ, ρ, G, ab, ok⟩ := m6 (k := fun τ d G => if m9 T G d then (m τ).bind (fun ds => f d ds) G else .stuck) h
 refine ⟨τ, ρ, G, ab, ?_⟩
 cases e : mo τ G with
 | stuck => rw [e] at ok; exact ok
 | bY c G' => rw [e] at ok; exact ok
 | ok d G' =>
  rw [e] at ok
  intro v H' ρ' f' bH r'
  obtain ⟨τ2, ρ2, G2, d2, dz, r2, aK⟩ := ok v H' ρ' f' bH r'
  by_cases hk : m9 T G2 d2 = true
  ·rw [if_pos hk] at aK
   refine ⟨Dv dz r2 hk, τ2, ρ2, G2, dz, ?_⟩
   dsimp only [M.bind] at aK
   cases e2 : m τ2 G2 with
   | stuck => rw [e2] at aK; exact aK
   | bY c G' => rw [e2] at aK; exact aK
   | ok ds G3 =>
    rw [e2] at aK
    exact fun vs H3 ρ3 f3 AO r3 => ⟨σ, τ2, ρ3, G3, d2, ds, AO, r2.mono f3, r3, aK.fut f3⟩
  ·rw [if_neg hk] at aK; exact aK.elim
noncomputable def iO : D → List D → M D
 | .obj n, [v] => fun G => match G[n]? with
  | some (.lst xs) => if xs.length < sizeLine then .ok .cj (G.set n (.lst (xs ++ [v]))) else .stuck
  | _ => .stuck
 | _, _ => M.stop
theorem A0 {σ : L2.St} {H : Hp} {τ : DS} {ρ : List Addr} {G : DH} {n : Nat} {xs ys : List D} {d : D} {w : V} {p : Addr} {vs ws : List V} {Q : VK} (ab : Ab X.K X.mg σ H τ ρ G) (hn : ρ[n]? = some p) (hp : H p = some (.lst vs)) (r : au X.K X.mg ρ H ys ws)
  (rd : ∀ H', dh X.K H H' ρ ρ → Rep X.K X.mg ρ H' d w) (ok : lA X.K X.mg EE H σ τ ρ (.ok d (G.set n (.lst ys))) Q) : Q w (upd H p (.lst ws)) := by
 have f : dh X.K H (upd H p (.lst ws)) ρ ρ := xu hp ρ
 exact ok w _ ρ f (ab.fut f (ab.hp.put (ds := ys) hn hp r)) (rd _ f)
theorem A1 : MR X "list.append" (O5 X EE iO) := by
 intro pins s σ0 H x xs v us Q I rx Ng ⟨σ, τ, ρ, G, d, ds, ab, rd, Ea, ok⟩
 cases d <;> try exact ok.elim
 rename_i n
 match ds, ok with
 | [], ok => exact ok.elim
 | _ :: _ :: _, ok => exact ok.elim
 | [y], ok =>
  obtain ⟨yv, rfl, ry⟩ := jU Ea
  unfold Rep at rd
  obtain ⟨p, rfl, e1⟩ := rd
  dsimp only [iO] at ok
  cases g : G[n]? with
  | none => rw [g] at ok; exact ok.elim
  | some o =>
   cases o with
   | dead => first | (rw [q] at ok; exact ok.elim) | (rw [q] at aK; exact aK.elim) | (rw [q] at e; cases e; done) | (rw [g] at ok; exact ok.elim) | (rw [g] at q; cases q; done) | (rw [g] at h; cases h; done) | (rw [g2] at ok; exact ok.elim) | (rw [g1, g2] at ok; exact ok.elim) | (rw [q1] at ok; exact ok.elim) | exact ok.elim
   | dct kv => first | (rw [q] at ok; exact ok.elim) | (rw [q] at aK; exact aK.elim) | (rw [q] at e; cases e; done) | (rw [g] at ok; exact ok.elim) | (rw [g] at q; cases q; done) | (rw [g] at h; cases h; done) | (rw [g2] at ok; exact ok.elim) | (rw [g1, g2] at ok; exact ok.elim) | (rw [q1] at ok; exact ok.elim) | exact ok.elim
   | d8 fz kv => first | (rw [q] at ok; exact ok.elim) | (rw [q] at aK; exact aK.elim) | (rw [q] at e; cases e; done) | (rw [g] at ok; exact ok.elim) | (rw [g] at q; cases q; done) | (rw [g] at h; cases h; done) | (rw [g2] at ok; exact ok.elim) | (rw [g1, g2] at ok; exact ok.elim) | (rw [q1] at ok; exact ok.elim) | exact ok.elim
   | lst zs =>
    rw [g] at ok
    dsimp only at ok
    obtain ⟨p', vs, e2, hp, rs⟩ := ab.hp.lst g
    rw [e1] at e2; cases e2
    by_cases hz : zs.length < sizeLine
    ·rw [if_pos hz] at ok
     exact v9 pins s σ0 H _ _ v us Q I rx Ng ⟨p, vs, yv, rfl, rfl, hp, by rw [← rs.length]; exact hz, A0 (xs := zs) ab e1 hp (rs.append (.cons ry .nil)) (fun _ _ => by unfold Rep; rfl) ok⟩
    ·rw [if_neg hz] at ok; exact ok.elim
theorem Dw {o e : Expr} {apos cpos : Pos} {mo : DS → M D} {m : DS → M (List D)} (ho : QE X EE o mo) (ha : QA X EE [e] m)
  (hbase : attributeBase o "append" X.env (eval o X.env) = eval o X.env := by rfl)
  (hfew : ((backTo cpos (starEach [e] X.env)).all (fun x => !x.1) && (backToKw cpos (keywordEach [] X.env)).all (fun x => x.1.isSome)
   && decide ([e].length + ([] : List Keyword).length + (if ([] : List Keyword).isEmpty then 0 else 1) < 30)) = true := by rfl)
  (hline : (apos.endLine == cpos.line) = true := by rfl) (hs : starEach [e] X.env = (false, eval e X.env) :: starEach [] X.env := by rfl) (hplain : (backTo cpos (starEach [] X.env)).any (·.1) = false := by rfl) :
  QE X EE (.Call (.Attribute o "append" apos) [e] [] cpos) (gp "list" iO mo m) := E2 PySem.F.plainAttrs_list PySem.F.slot_list_append PySem.F.type_list_append A1 ho ha hbase hfew hline hs hplain
noncomputable def Nh : D → List D → M D
 | .obj n, [] => fun G => match G[n]? with
  | some (.lst xs) => match xs[xs.length - 1]? with
   | some y => .ok y (G.set n (.lst xs.dropLast))
   | none => .stuck
  | _ => .stuck
 | _, _ => M.stop
theorem au.dropLast {K : PySem.W.Frag} {mg : Str → Option Value} {ρ : List Addr} {H : Hp} {ds : List D} {vs : List V} (r : au K mg ρ H ds vs) : au K mg ρ H ds.dropLast vs.dropLast := by
 rw [List.dropLast_eq_take, List.dropLast_eq_take, ← r.length]
 exact r.take _
end
end L3
end
section
set_option Elab.async false
set_option linter.all false
set_option maxRecDepth 100000
namespace L3
open PySem PySem.Spec L2
structure Dy (B : Heap) (l : List Env) (e : Addr) (cls : Value) (h : Heap) : Prop where
 stay : B.StaysIn h
 new : B.get? e = none
 V2 : h.FunFrames B l
 tr : (∃ oe vs a0, h.get? e = some oe ∧ oe.cls = cls ∧ oe.data = .fields vs ∧ vs[0]? = some a0 ∧ vs[1]? = some .none) ∨ ∃ a0 fl, h.TracedAtW B e cls a0 fl
section
variable {M : Model} {A : Around} {E : Value → Shared → Prop} {s : Shared} {B : Heap} {env : Env} {outer l : List Env} {L e : Addr} {cls : Value} {Q : Unit → Shared → Prop}
theorem A2 {env' : Env} (h : env'.frame = env.frame) (v : Value) : noteFrame v env' = noteFrame v env := by
 unfold noteFrame frameOf
 rw [h]
theorem B8 (hfr : A.frames = some (env :: outer)) (hf : env.frame = some L) (f : Dy B (env :: outer) e cls s.heap)
  (hQ : ∀ h' a0, Heap.HeldW B (env :: outer) e cls a0 L h' → s.heap.UpToSlots h' → Q () { s with heap := h' }) : wpAny M A (noteFrame (.ref e) env) Q E s := by
 obtain ⟨st, nw, fr, tr⟩ := f
 rcases tr with ⟨oe, vs, a0, he, hc, hd, h0, h1⟩ | ⟨a0, fl, oe, vs, T, oT, ts, he, hcls, hd, h1, Ni, Nj, hT, Eb, h3⟩
 ·subst hc
  unfold noteFrame
  simp only [hf]
  refine wpAny_bind (wpAny_field he hd h1 ?_)
  rw [if_neg (by decide)]
  refine wpAny_entryW hfr fr hf he st nw hd (Array.getElem?_eq_some_iff.mp h1).1 h0 fun h' hN => ?_
  exact hQ h' a0 ⟨hN.1, nw, hN.2.1, hN.2.2.1⟩ hN.2.2.2
 ·by_cases hq : (fl == rawInt L) = true
  ·unfold noteFrame
   simp only [hf]
   refine wpAny_bind (wpAny_field he hd h1 ?_)
   rw [if_pos (show (Value.ref T != Value.none) = true by simp)]
   refine wpAny_bind (wpAny_field hT Eb h3 ?_)
   rw [if_pos hq]
   refine wpAny_pure ?_
   have := hQ s.heap a0 ⟨st, nw, fr, oe, vs, T, oT, ts, he, hcls, hd, h1, Ni, Nj, hT, Eb, by rw [h3, beq_iff_eq.mp hq]⟩ (.refl _)
   exact this
  ·obtain ⟨rfl, h0⟩ := hcls
   unfold noteFrame
   simp only [hf]
   refine wpAny_bind (wpAny_field he hd h1 ?_)
   rw [if_pos (show (Value.ref T != Value.none) = true by simp)]
   refine wpAny_bind (wpAny_field hT Eb h3 ?_)
   rw [if_neg hq]
   refine wpAny_bind (wpAny_setField hT Eb (Array.getElem?_eq_some_iff.mp h3).1 ?_)
   have yK : ∀ b, b ≠ T → (s.heap.update T (Obj.mapFields (·.setIfInBounds 3 Value.none))).get? b = s.heap.get? b := fun b hb => Heap.get?_update_other _ _ (Ne.symm hb)
   have Nk : ∀ b o, s.heap.get? b = some o → (∀ vs, o.data ≠ .fields vs) → b ≠ T := fun b o hb hnf z => by
    rw [z, hT] at hb; cases hb; exact hnf ts Eb
   refine wpAny_entryW hfr (fr.of_keeps fun b o hb hnf => ⟨o, (yK b (Nk b o hb hnf)).trans hb, rfl⟩) hf ((yK e (Ne.symm Nj)).trans he)
    (fun b o Qh => (yK b fun z => by rw [z, Ni] at Qh; cases Qh).trans (st b o Qh)) nw hd (Array.getElem?_eq_some_iff.mp h1).1 h0 fun h' hN => ?_
   exact hQ h' a0 ⟨hN.1, nw, hN.2.1, hN.2.2.1⟩ fun b o hb hnf => hN.2.2.2 b o ((yK b (Nk b o hb hnf)).trans hb) hnf
theorem E3 (hfr : A.frames = some (env :: outer)) (hf : env.frame = some L) (f : Dy B (env :: outer) e cls s.heap)
  (hQ : ∀ h' a0, Heap.FlyingW B outer e cls a0 h' → s.heap.UpToSlots h' → Q () { s with heap := h' }) : wpAny M A (leaving env (.ref e)) Q E s := by
 unfold leaving
 refine wpAny_bind (B8 hfr hf f fun h1 a0 hH u1 => ?_)
 refine wpAny_landsW hH fun h2 hF u2 => ?_
 obtain ⟨k1, k2, ⟨_, _, k3⟩, k4⟩ := hF
 exact hQ h2 a0 ⟨k1, k2, k3, k4⟩ (u1.trans u2)
theorem Dy.Dz {a0 : Value} {h : Heap} (f : Heap.FlyingW B l e cls a0 h) : Dy B l e cls h := ⟨f.1, f.2.1, f.2.2.1, .inr ⟨a0, .none, f.2.2.2⟩⟩
end
structure RS (X : Cx) (B : Heap) : Prop where
 keep : ∀ b o, X.s₀.heap.get? b = some o → X.H₀ b = none → b ∉ frs X.stack → b ∉ X.ex → B.get? b = some o
 there : ∀ b o, X.s₀.heap.get? b = some o → b ∉ frs X.stack → b ∉ X.ex → ∃ o', B.get? b = some o'
 pins : ∀ p ∈ X.pn, B.get? p.1 = some p.2
noncomputable def Nl (X : Cx) (H : Hp) (e : Addr) (cls : Value) (s : Shared) : Prop := ∃ B, Dy B X.stack e cls s.heap ∧ mW X.prog X.w H B ∧ RS X B
noncomputable def E4 (mg : Str → Option Value) (c : XD) (cls : Value) : Prop := match c with | .mk n _ => mg n = some cls
noncomputable def mS (X : Cx) (EE : fK) : Prop := ∀ (pins : List (Addr × Obj)) (σ : L2.St) (H : Hp) (s : Shared) (e : Addr) (cls : Value) (c : XD), Inv X pins σ H s → Nl X H e cls s → E4 X.mg c cls → EE c σ H → X.xe (.ref e) s
section
variable {X : Cx} {pins : List (Addr × Obj)} {σ : L2.St} {H : Hp} {s : Shared} {h' : Heap}
theorem IsCell.slots {h h' : Heap} {c : Addr} {v : Option Value} (u : h.UpToSlots h') (hc : h.IsCell c v) : h'.IsCell c v := by
 obtain ⟨o, e, d⟩ := hc
 obtain ⟨sl, e'⟩ := u c o e fun vs q => by rw [d] at q; cases q
 exact ⟨_, e', d⟩
theorem Inv.Nm {B : Heap} {t : Nat} (I : Inv X pins σ H s) (C : RS X B) (hok : mW X.prog X.w H B) (st : B.StaysIn h') (u : s.heap.UpToSlots h') : Inv X [] σ H { s with heap := h', toks := t } := by
 have Ed : ∀ b o, X.s₀.heap.get? b = some o → b ≠ X.env.locals := fun b o e => Nat.ne_of_lt (Nat.lt_of_lt_of_le (Heap.lt_size e) I.ok.above)
 have Np : ∀ b o, X.s₀.heap.get? b = some o → b ∉ X.fs → b ∉ frs X.stack := fun b o e hb z => by
  rcases List.mem_cons.mp (I.oY b z) with z | z
  ·exact Ed b o e z
  ·exact hb z
 have slots : ∀ b o, X.s₀.heap.get? b = some o → X.H₀ b = none → b ∈ X.fs → b ∉ X.ex → ∃ sl, h'.get? b = some { o with slots := sl } := fun b o e n hb hx => by
  obtain ⟨sl, e1⟩ := I.base.slot b o e n hb hx
  obtain ⟨_, o', eo, hd⟩ := I.ok.tG.mem hb
  rw [e] at eo; cases eo
  obtain ⟨Mq, e2⟩ := u b _ e1 hd
  exact ⟨Mq, e2⟩
 refine ⟨I.ok, I.os, I.bare, ⟨fun b o e n hb hx => st _ _ (C.keep b o e n (Np b o e hb) hx), slots, I.base.free, fun b o e hx => ?_, I.base.tups, I.base.oX, I.base.pT⟩, ?_, fun x c e => ?_, I.free, I.oF, fun p hp => ?_, hok.kept st, I.len⟩
 ·by_cases hb : b ∈ X.fs
  ·obtain ⟨sl, e1⟩ := slots b o e (I.ok.LY b hb) hb hx
   exact ⟨_, e1⟩
  ·obtain ⟨o', e1⟩ := C.there b o e (Np b o e hb) hx
   exact ⟨o', st _ _ e1⟩
 ·obtain ⟨m, hn, hl⟩ := I.loc
  refine ⟨m, u.ns hn, fun i x v e1 e2 e3 => ?_⟩
  obtain ⟨w, r, l⟩ := hl i x v e1 e2 e3
  refine ⟨w, r, ?_⟩
  rcases l with l | ⟨k, c, e, z⟩
  ·exact .inl l
  ·exact .inr ⟨k, c, e, IsCell.slots u z⟩
 ·obtain ⟨v, z⟩ := I.cell x c e
  exact ⟨v, IsCell.slots u z⟩
 ·have AA : p ∈ X.pn := by simpa using hp
  obtain ⟨e, n, ne, nf, d⟩ := I.pin p (List.mem_append_left _ AA)
  exact ⟨st _ _ (C.pins p AA), n, ne, nf, d⟩
end
structure Nq (P : Program) (w : World) (outer : List Env) (H : Hp) (s : Shared) (H' : Hp) (B : Heap) (s' : Shared) : Prop where
 os : s'.os = s.os
 bare : PyProof.Rows.AllBare s'.gens
 keep : ∀ b o, s.heap.get? b = some o → H b = none → b ∉ frs outer → B.get? b = some o
 there : ∀ b o, s.heap.get? b = some o → b ∉ frs outer → ∃ o', B.get? b = some o'
 slot : ∀ b o, s.heap.get? b = some o → H b = none → b ∈ frs outer → ∃ sl, s'.heap.get? b = some { o with slots := sl }
 free : ∀ b o, s.heap.get? b = some o → H b = none → H' b = none
 tups : ∀ b xs, H b = some (.tup xs) → H' b = some (.tup xs)
 oX : ∀ b o u, H b = some (.jc o u) → H' b = some (.jc o u)
 pT : ∀ b ps, H b = some (.BV ps) → ∃ more, H' b = some (.BV (ps ++ more))
 hok : mW P w H' B
noncomputable def fV (P : Program) (w : World) : BZ := fun outer H s E ev s' => ∃ e cls a0 B H', ev = .ref e ∧ Heap.FlyingW B outer e cls a0 s'.heap ∧ Nq P w outer H s H' B s' ∧ E cls none H'
theorem ng {X : Cx} {EE : fK} (h : mS X EE) : O3 (fV X.prog X.w) X EE := by
 intro pins σ H s ev s' I hq
 obtain ⟨e, cls, a0, B, H', rfl, fl, F, c, hc, ee⟩ := hq
 have un : Un (frs X.stack) [] H H' s.heap s'.heap := ⟨fun b o e n hb _ => fl.1 _ _ (F.keep b o e n hb), fun b o e n hb _ => F.slot b o e n hb, fun b o e n _ => F.free b o e n, fun b o e _ => by
  by_cases hb : b ∈ frs X.stack
  ·obtain ⟨sl, q⟩ := F.slot b o e (I.sS b hb) hb
   exact ⟨_, q⟩
  ·obtain ⟨o', q⟩ := F.there b o e hb
   exact ⟨o', fl.1 _ _ q⟩, F.tups, F.oX, F.pT⟩
 have I' : Inv X pins σ H' s' := I.Ef F.os un (F.hok.kept fl.1) F.bare fun b z => absurd z (by simp)
 refine h pins σ H' s' e cls c I' ⟨B, .Dz fl, F.hok, fun b o eb n hb hx => ?_, fun b o eb hb hx => ?_, fun p hp => ?_⟩ hc ee
 ·have Qi : b ∉ X.fs := fun z => hb (by
   rcases I.ok.stk with q | ⟨q, _⟩
   ·rw [q]; exact z
   ·rw [q]; unfold frs; rw [List.filterMap_cons]; split
    ·exact z
    ·exact List.mem_cons_of_mem _ z)
  exact F.keep b o (I.base.keep b o eb n Qi hx) (I.base.free b o eb n hx) hb
 ·obtain ⟨o', q⟩ := I.base.there b o eb hx
  exact F.there b o' q hb
 ·obtain ⟨q, n, ne, nf, d⟩ := I.pin p (List.mem_append_left _ hp)
  exact F.keep p.1 p.2 q n fun z => by
   rcases List.mem_cons.mp (I.oY _ z) with z | z
   ·exact ne z
   ·exact nf z
end L3
end
section
set_option Elab.async false
set_option linter.all false
set_option maxRecDepth 100000
namespace L3
open PySem PySem.Spec L2
section
variable {P : Program} {w : World} {K : PySem.W.Frag} {mg : Str → Option Value} {base : Heap} {f : Addr} {fd : FuncData}
theorem A3 {x qual : Str} {st : Stmt} {N ps : List Str} {k n nn : Nat} {ms : MS} {m : List D → M D} (F : xo K x qual st f fd) (S : di N ps (aa st)) (hps : ps.length = n) (hN : N.length = nn) (hm : ∀ ds, m ds = fq nn ms ds)
  (hbody : ∀ (X : Cx) (EE : fK) (cdv : Value) (A : Around) (outer : List Env) (s : Shared) (H : Hp) (E : XK), X = kg (fV P w) P w K mg base N qual (aa st) f cdv A outer s H E → jS k (A.deeper (PyProof.Rows.envOfC qual (aa st) s.heap.objs.size f cdv)) →
   mS X EE → PassesOwn (model P w) X.A X.env X.xe → Dk X EE (aO st) ms) :
  ck P w K mg base (fV P w) (k + 1) f fd ps (b7 K mg n m) := by
 subst hps hN
 have e : m = fun ds => fq N.length ms ds := funext hm
 subst e
 obtain ⟨oc, od, kV, doc, pm, an, cdv, ct, osl, rfl, lk, hcd⟩ := F.ex
 refine MN lk hcd S (fun vs H Q E h => h.len) fun A outer s H vs Q E hr h => ?_
 obtain ⟨ds, ρ, G, hn, hp, rs, ok⟩ := h
 refine ⟨_, hbody _ (fun c σ H' => ∀ cls, E4 mg c cls → E cls none H') cdv A outer s H E rfl hr ?_ PassesOwn.leaving, ds.map some ++ List.replicate (N.length - ds.length) none, ρ, G, ⟨AY rs, hp⟩, ?_⟩
 ·intro pins σ H' s' e cls c I fx hc ee
  obtain ⟨B, fb, hok, Ia⟩ := fx
  refine E3 (L := s.heap.objs.size) I.ok.frames rfl fb fun h' a0 fl u => ?_
  have I' : Inv _ [] σ H' { s' with heap := h' } := Inv.Nm (t := s'.toks) I Ia hok fl.1 u
  have Ed : ∀ b o, s.heap.get? b = some o → b ∉ frs outer → b ∉ frs (PyProof.Rows.envOfC qual (aa st) s.heap.objs.size f cdv :: outer) := fun b o e hb z => by
   rcases List.mem_cons.mp (I.oY b z) with z | z
   ·exact absurd (Heap.lt_size e) (by rw [show b = s.heap.objs.size from z]; exact Nat.lt_irrefl _)
   ·exact hb z
  refine ⟨e, cls, a0, B, H', rfl, fl, ⟨I'.os, I'.bare, fun b o eb nb hb => Ia.keep b o eb nb (Ed b o eb hb) (by intro z; exact absurd (show b ∈ ([] : List Addr) from z) (by simp)), fun b o eb hb => Ia.there b o eb (Ed b o eb hb) (by intro z; exact absurd (show b ∈ ([] : List Addr) from z) (by simp)),
   fun b o eb nb hb => I'.base.slot b o eb nb hb (by intro z; exact absurd (show b ∈ ([] : List Addr) from z) (by simp)), fun b o eb nb => I'.base.free b o eb nb (by intro z; exact absurd (show b ∈ ([] : List Addr) from z) (by simp)), I'.base.tups, I'.base.oX, I'.base.pT, hok⟩, ee cls hc⟩
 ·dsimp only [fq] at ok
  cases q : ms (ds.map some ++ List.replicate (N.length - ds.length) none) G with
  | stuck => rw [q] at ok; exact ok
  | nx τ G' => rw [q] at ok; exact fun σ' H' ρ' f ab => ok .cj H' ρ' f ab.hp (by unfold Rep; rfl)
  | rt d G' => rw [q] at ok; exact fun v H' ρ' f hp r => ok v H' ρ' f hp r
  | bk τ G' => rw [q] at ok; exact ok.elim
  | ct τ G' => rw [q] at ok; exact ok.elim
  | xn c τ G' => rw [q] at ok; exact fun σ' H' ρ' f ab cls hc => ok cls H' ρ' hc f ab.hp
end
theorem E5 {P : Program} {w : World} {H : Hp} {h B : Heap} (x : mW P w H h) (k : ∀ b o, H b ≠ none → h.get? b = some o → B.get? b = some o) : mW P w H B := fun a o e =>
 (x a o e).stay (fun b u hb q => k b u (by
  rcases hb with z | z
  ·rw [z, e]; simp
  ·rw [z]; simp) q) (fun _ q => q) fun _ _ q => q
section
variable {X : Cx} {EE : fK} {pins : List (Addr × Obj)} {σ : L2.St} {H : Hp} {s : Shared}
noncomputable def E6 (x : Str) (m : DS → M (List D)) : MS := fun τ => bZ (m τ) (fun ds G => if ds.length ≤ sizeLine then .xn (.mk x ds) τ G else .stuck) fun c G => .xn c τ G
end
end L3
end
section
set_option Elab.async false
set_option linter.all false
set_option maxRecDepth 100000
namespace L3
open PySem PySem.Spec L2
noncomputable abbrev Cx.to (X : Cx) (E : Value → Shared → Prop) (pn : List (Addr × Obj)) : Cx := { X with xe := E, pn := pn }
section
variable {X : Cx} {EE : fK} {pins : List (Addr × Obj)} {σ : L2.St} {H : Hp} {s : Shared} {E : Value → Shared → Prop}
end
end L3
end
section
set_option Elab.async false
set_option linter.all false
set_option maxRecDepth 100000
namespace L3
open PySem PySem.Spec L2
noncomputable def iC (env : Env) : List (Str × NameKind) → List (Str × Addr) → List (Str × Addr)
 | [], acc => acc
 | (n, k) :: r, acc => iC env r (if k == .free then (match env.cells.lookup n with | some c => (n, c) :: acc | none => acc) else acc)
theorem oH {scope : Scope} {env : Env} (h : ∀ x ∈ scope.names, x.2 = .free → ∃ c, env.cells.lookup x.1 = some c) : closureFor scope env = pure (iC env scope.names []) := by
 unfold closureFor
 have key : ∀ (names : List (Str × NameKind)) (acc : List (Str × Addr)), (∀ x ∈ names, x.2 = .free → ∃ c, env.cells.lookup x.1 = some c) →
   (forIn names acc fun x r => match x with | (name, kind) => if (kind == NameKind.free) = true then do let y ← cellOf env name; pure (ForInStep.yield ((name, y) :: r)) else pure (ForInStep.yield r)) = (pure (iC env names acc) : Sem (List (Str × Addr))) := by
  intro names
  induction names with
  | nil => intro acc _; rfl
  | cons x r ih =>
   intro acc hx
   obtain ⟨n, k⟩ := x
   rw [List.forIn_cons]
   by_cases hk : (k == NameKind.free) = true
   ·obtain ⟨c, hc⟩ := hx (n, k) List.mem_cons_self (eq_of_beq hk)
    have e : cellOf env n = pure c := by unfold cellOf; rw [hc]
    simp only [if_pos hk, e, pure_bind]
    rw [ih _ fun y hy => hx y (List.mem_cons_of_mem _ hy)]
    show _ = pure (iC env r (if (k == NameKind.free) = true then (match env.cells.lookup n with | some c => (n, c) :: acc | none => acc) else acc))
    rw [if_pos hk, hc]
   ·simp only [if_neg hk, pure_bind]
    rw [ih _ fun y hy => hx y (List.mem_cons_of_mem _ hy)]
    show _ = pure (iC env r (if (k == NameKind.free) = true then (match env.cells.lookup n with | some c => (n, c) :: acc | none => acc) else acc))
    rw [if_neg hk]
 have k2 := key scope.names [] h
 first
  | (rw [k2]; rfl)
  | (simp only [k2, pure_bind])
  | exact k2
theorem tW {env : Env} : ∀ (names : List (Str × NameKind)) (acc : List (Str × Addr)), (∀ y c, acc.lookup y = some c → env.cells.lookup y = some c) → ∀ y c, (iC env names acc).lookup y = some c → env.cells.lookup y = some c
 | [], acc, h, y, c, e => h y c e
 | (n, k) :: r, acc, h, y, c, e => by
  refine tW r _ (fun z d ez => ?_) y c e
  by_cases hk : (k == NameKind.free) = true
  ·rw [if_pos hk] at ez
   cases q : env.cells.lookup n with
   | none => rw [q] at ez; exact h z d ez
   | some c' =>
    rw [q] at ez
    dsimp only at ez
    rw [List.lookup_cons] at ez
    cases hz : z == n with
    | true => rw [hz] at ez; cases ez; rw [eq_of_beq hz]; exact q
    | false => rw [hz] at ez; exact h z d ez
  ·rw [if_neg hk] at ez
   exact h z d ez
theorem tX {env : Env} : ∀ (names : List (Str × NameKind)) (acc : List (Str × Addr)) (y : Str), ((∃ c, acc.lookup y = some c) ∨ ((y, NameKind.free) ∈ names ∧ ∃ c, env.cells.lookup y = some c)) → ∃ c, (iC env names acc).lookup y = some c
 | [], acc, y, h => by
  rcases h with h | ⟨h, _⟩
  ·exact h
  ·cases h
 | (n, k) :: r, acc, y, h => by
  refine tX r _ y ?_
  rcases h with ⟨c, h⟩ | ⟨h, c, hc⟩
  ·left
   by_cases hk : (k == NameKind.free) = true
   ·rw [if_pos hk]
    cases q : env.cells.lookup n with
    | none => exact ⟨c, h⟩
    | some c' =>
     dsimp only
     rw [List.lookup_cons]
     cases hz : y == n with
     | true => exact ⟨c', rfl⟩
     | false => exact ⟨c, h⟩
   ·rw [if_neg hk]; exact ⟨c, h⟩
  ·rcases List.mem_cons.mp h with e | h
   ·cases e
    left
    rw [if_pos (by rfl), hc]
    dsimp only
    exact ⟨c, by rw [List.lookup_cons, beq_self_eq_true]⟩
   ·exact .inr ⟨h, c, hc⟩
end L3
end
section
set_option Elab.async false
set_option linter.all false
set_option maxRecDepth 100000
namespace L3
open PySem PySem.Spec L2 PyProof.Rows
noncomputable def mask {α : Type} : List Bool → List (Option α) → List (Option α)
 | _, [] => []
 | [], _ :: r => none :: mask [] r
 | k :: ks, o :: r => (if k then o else none) :: mask ks r
theorem jV {α : Type} : ∀ (ks : List Bool) (l : List (Option α)), (mask ks l).length = l.length
 | _, [] => by unfold mask; rfl
 | [], _ :: r => by unfold mask; simp [jV [] r]
 | k :: ks, o :: r => by unfold mask; simp [jV ks r]
theorem nh {α : Type} {v : α} : ∀ {ks : List Bool} {l : List (Option α)} {i : Nat}, (mask ks l)[i]? = some (some v) → ks[i]? = some true ∧ l[i]? = some (some v)
 | ks, [], i, h => by unfold mask at h; simp at h
 | [], o :: r, 0, h => by unfold mask at h; simp at h
 | [], o :: r, i + 1, h => by
  unfold mask at h
  have := (nh (ks := []) (l := r) (i := i) (by simpa using h)).1
  simp at this
 | k :: ks, o :: r, 0, h => by
  unfold mask at h
  cases k with
  | true => simpa using h
  | false => simp at h
 | k :: ks, o :: r, i + 1, h => by
  unfold mask at h
  have := nh (ks := ks) (l := r) (i := i) (by simpa using h)
  simpa using this
theorem B9 {α : Type} {v : α} : ∀ {ks : List Bool} {l : List (Option α)} {i : Nat}, ks[i]? = some true → l[i]? = some (some v) → (mask ks l)[i]? = some (some v)
 | ks, [], i, _, h => by simp at h
 | [], o :: r, i, h, _ => by simp at h
 | k :: ks, o :: r, 0, h, e => by unfold mask; simp at h e; simp [h, e]
 | k :: ks, o :: r, i + 1, h, e => by
  unfold mask
  have := B9 (ks := ks) (l := r) (i := i) (by simpa using h) (by simpa using e)
  simpa using this
noncomputable def xF (env : Env) (n : Str) (k : NameKind) : NameKind := if (k == .free && env.scope.kind == .function && env.kindOf n == some .cell) then .cell else k
theorem gY {env : Env} {y : Str} : ∀ (names : List (Str × NameKind)), (names.map fun (n, k) => if (k == NameKind.free && env.scope.kind == .function && env.kindOf n == some .cell) then (n, NameKind.cell) else (n, k)).lookup y = (names.lookup y).map (xF env y)
 | [] => rfl
 | (n, k) :: r => by
  have ih := gY (env := env) (y := y) r
  rw [List.map_cons, List.lookup_cons]
  by_cases hc : (k == NameKind.free && env.scope.kind == .function && env.kindOf n == some .cell) = true
  ·rw [if_pos hc, List.lookup_cons]
   cases hy : y == n with
   | true =>
    have e : y = n := eq_of_beq hy
    subst e
    simp [xF, hc]
   | false => exact ih
  ·rw [if_neg hc, List.lookup_cons]
   cases hy : y == n with
   | true =>
    have e : y = n := eq_of_beq hy
    subst e
    simp [xF, hc]
   | false => exact ih
structure bV (O6 : Scope) (N : List Str) (scope : Scope) (xs : List Str) (ks : List Bool) : Prop where
 nd : xs.Nodup
 kind : scope.kind = .function
 E7 : ∀ y ∈ scope.names, y.2 ≠ .cell
 names : ∀ y ∈ scope.names, y.2 = .local → scope.names.lookup y.1 = some .local
 loc : ∀ x ∈ xs, scope.names.lookup x = some .local
 free : ∀ y ∈ scope.names, y.2 = .free → O6.names.lookup y.1 = some .cell ∨ O6.names.lookup y.1 = some .free
 Qj : ((ks.zip N).all fun p => !p.1 || decide (scope.names.lookup p.2 = some .free)) = true
theorem bV.cap {O6 : Scope} {N : List Str} {scope : Scope} {xs : List Str} {ks : List Bool} (S : bV O6 N scope xs ks) : ∀ i < ks.length, ks[i]? = some true → ∀ y ∈ N[i]?, scope.names.lookup y = some .free := fun i _ hk y hy => by
 have h := List.all_eq_true.mp S.Qj (true, y) (List.mem_of_getElem? (i := i) (by rw [List.getElem?_zip_eq_some]; exact ⟨hk, hy⟩))
 simpa using h
noncomputable def rT (X : Cx) (scope : Scope) (cl : List (Str × Addr)) (xs : List Str) (C : Addr) (pins : List (Addr × Obj)) (s : Shared) (H : Hp) (fp : List Addr) (E : Value → Shared → Prop) : Cx where
 prog := X.prog
 w := X.w
 K := X.K
 mg := X.mg
 base := X.base
 A := X.A
 N := xs ++ X.N
 s₀ := s
 H₀ := H
 env := compEnvC scope cl C X.env
 outer := X.stack
 stack := X.stack
 ex := fp
 fn := fun _ => false
 calm := X.calm
 pn := X.pn ++ pins
 xe := E
section
variable {X : Cx} {scope : Scope} {xs : List Str} {x : Str} {ks : List Bool} {pins : List (Addr × Obj)} {σ : L2.St} {H : Hp} {s s4 : Shared} {fp : List Addr} {E : Value → Shared → Prop} {h1 : Heap}
theorem mem_lookup {α β : Type} [BEq α] [LawfulBEq α] : ∀ {l : List (α × β)} {a : α} {b : β}, l.lookup a = some b → (a, b) ∈ l
 | [], _, _, h => by simp at h
 | (a', b') :: r, a, b, h => by
  rw [List.lookup_cons] at h
  cases hz : a == a' with
  | true => rw [hz] at h; cases h; rw [eq_of_beq hz]; exact List.mem_cons_self
  | false => rw [hz] at h; exact List.mem_cons_of_mem _ (mem_lookup h)
theorem E8 (S : bV X.env.scope X.N scope xs ks) {cl : List (Str × Addr)} {C : Addr} {y : Str} (h : (compEnvC scope cl C X.env).kindOf y = some .cell ∨ (compEnvC scope cl C X.env).kindOf y = some .free) : scope.names.lookup y = some .free := by
 have h' : (scope.names.lookup y).map (xF X.env y) = some .cell ∨ (scope.names.lookup y).map (xF X.env y) = some .free := by
  rw [← gY]; exact h
 cases q : scope.names.lookup y with
 | none => rw [q] at h'; rcases h' with h' | h' <;> cases h'
 | some k =>
  rw [q] at h'
  cases k with
  | free => rfl
  | cell => exact absurd rfl (S.E7 _ (mem_lookup q))
  | _ => rcases h' with h' | h' <;> simp [xF] at h'
theorem rm (S : bV X.env.scope X.N scope xs ks) {cl : List (Str × Addr)} {C : Addr} {y : Str} (h : scope.names.lookup y = some .free) : (compEnvC scope cl C X.env).kindOf y = some .cell ∨ (compEnvC scope cl C X.env).kindOf y = some .free := by
 have e : (compEnvC scope cl C X.env).kindOf y = (scope.names.lookup y).map (xF X.env y) := gY scope.names
 rw [e, h]
 unfold xF
 dsimp only [Option.map]
 split
 ·exact .inl rfl
 ·exact .inr rfl
theorem tY (S : bV X.env.scope X.N scope xs ks) (hx : x ∈ xs) {cl : List (Str × Addr)} {C : Addr} : (compEnvC scope cl C X.env).kindOf x = some .local := by
 have e : (compEnvC scope cl C X.env).kindOf x = (scope.names.lookup x).map (xF X.env x) := gY scope.names
 rw [e, S.loc x hx]
 rfl
theorem A4 (S : bV X.env.scope X.N scope xs ks) (I : Inv X pins σ H s) (hf : ∀ b ∈ fp, oZ X pins H b ∧ b < s.heap.objs.size) (hn : h1.Ns s.heap.objs.size fun _ => none) (hk : ∀ b o, s.heap.get? b = some o → h1.get? b = some o) (t : Nat) :
  Inv (rT X scope (iC X.env scope.names []) xs s.heap.objs.size pins s H fp E) [] (List.replicate xs.length none ++ mask ks σ) H { s with heap := h1, toks := t } := by
 have cs : ∀ y c, (iC X.env scope.names []).lookup y = some c → X.env.cells.lookup y = some c := tW scope.names [] fun y c e => by simp at e
 have lt : ∀ b o, s.heap.get? b = some o → b ≠ s.heap.objs.size := fun b o e => Nat.ne_of_lt (Heap.lt_size e)
 have K3 : ∀ y c, X.env.cells.lookup y = some c → ∃ v, s.heap.IsCell c v := fun y c e => I.cell y c e
 have Jr : ∀ b, b ≠ X.env.locals → b ∉ X.fs → b ∉ frs X.stack := fun b h1 h2 h3 => (List.mem_cons.mp (I.oY b h3)).elim h1 h2
 refine ⟨⟨I.ok.mod, ?_, I.ok.glob, I.ok.blt, Nat.le_refl _, fun y z c e1 e2 => I.ok.inj y z c (cs y c e1) (cs z c e2), fun y hy => ?_, fun y c h _ => absurd (show false = true from h) Bool.false_ne_true, I.ok.hd, I.ok.frames, .inl rfl, fun b hb => ⟨Nat.ne_of_lt (hf b hb).2, fun y c e => (hf b hb).1.2.2.2.2.1 y c (cs y c e)⟩, I.bs,
   Nat.le_trans I.ok.JW I.sz, fun b o e hb => ?_, fun b hb => Jr b (hf b hb).1.2.1 (hf b hb).1.2.2.1, I.stack, I.sS⟩, rfl, I.bare, Un.kept hk, ⟨_, hn, fun i y v e1 e2 e3 => ?_⟩, fun y c e => ?_, I.hok.fresh (Nat.le_refl _), fun y c e => I.oF y c (cs y c e), fun p hp => ?_, I.hok.kept hk, ?_⟩
 ·show (relabel scope X.env).kind = .function
  exact S.kind
 ·have hfree := E8 S hy
  have hm := mem_lookup hfree
  refine tX scope.names [] y (.inr ⟨hm, ?_⟩)
  exact I.ok.has y (S.free _ hm rfl)
 ·rcases (hf b hb).1.2.2.2.1 with z | z
  ·exact I.ok.JX b o e z
  ·exact absurd (Nat.lt_of_lt_of_le (Heap.lt_size (I.ok.bs b o e).1) z) (Nat.lt_irrefl _)
 ·by_cases hlt : i < xs.length
  ·rw [List.getElem?_append_left (by simpa using hlt), List.getElem?_replicate] at e2
   rw [if_pos hlt] at e2; cases e2
  ·obtain ⟨j, rfl⟩ : ∃ j, i = xs.length + j := ⟨i - xs.length, by omega⟩
   have D8 : (mask ks σ)[j]? = some (some v) := by
    rw [List.getElem?_append_right (by simp)] at e2
    simpa using e2
   obtain ⟨hks, eσ⟩ := nh D8
   have xw : X.N[j]? = some y := by
    have : (xs ++ X.N)[xs.length + j]? = some y := e1
    rw [List.getElem?_append_right (by omega)] at this
    simpa using this
   have hfree : scope.names.lookup y = some .free := S.cap j (List.getElem?_eq_some_iff.mp hks).1 hks y (by rw [xw]; rfl)
   obtain ⟨m, hm, hl⟩ := I.loc
   have hkind := S.free _ (mem_lookup hfree) rfl
   obtain ⟨u, r, l⟩ := hl j y v xw eσ (hkind.elim (fun z => .inr (.inl z)) fun z => .inr (.inr z))
   refine ⟨u, r, .inr ⟨rm S hfree, ?_⟩⟩
   rcases l with ⟨k, _⟩ | ⟨k, c, ec, hc⟩
   ·have k' : X.env.scope.names.lookup y = some .local := k
    rcases hkind with z | z <;> (rw [k'] at z; cases z)
   ·obtain ⟨c', RT⟩ := tX (env := X.env) scope.names [] y (.inr ⟨mem_lookup hfree, c, ec⟩)
    have := cs y c' RT
    rw [ec] at this; cases this
    exact ⟨c, RT, hc.keeps hk⟩
 ·obtain ⟨v, hc⟩ := K3 y c (cs y c e)
  exact ⟨v, hc.keeps hk⟩
 ·have AA : p ∈ X.pn ++ pins := by
   have : p ∈ (X.pn ++ pins) ++ [] := hp
   simpa using this
  obtain ⟨e, n, ne, nf, d⟩ := I.pin p AA
  exact ⟨hk _ _ e, n, lt _ _ e, Jr _ ne nf, d⟩
 ·show (List.replicate xs.length none ++ mask ks σ).length = (xs ++ X.N).length
  simp [jV, I.len]
theorem pA {Xc : Cx} {cl : List (Str × Addr)} {C : Addr} {σ0 : L2.St} {own : List (Option V)} {n : Nat} {v : V} {u : Value} {A' : Around} {Q : Unit → Shared → Prop} {E' : Value → Shared → Prop} {M' : Model} {px : Pos} {s0 : Shared} {H0 H1 : Hp} {s1 : Shared} {jk : List (Addr × Obj)}
  (S : bV X.env.scope X.N scope xs ks) (e : Xc = rT X scope cl xs C pins s0 H0 fp E) (L7 : own.length = xs.length) (hx : xs[n]? = some x) (I : Inv Xc jk (own ++ mask ks σ0) H1 s1) (r : RelV v u) (h : ∀ s', Inv Xc jk (own.set n (some v) ++ mask ks σ0) H1 s' → Q () s') :
  wpAny M' A' (assign (.Name x px) Xc.env u) Q E' s1 := by
 subst e
 obtain ⟨m, hn, hl⟩ := id I.loc
 have RU := tY (cl := cl) (C := C) S (List.mem_of_getElem? hx)
 refine wpAny_assign_Name (wpAny_storeName_local RU hn (fun h' hn' hs => ?_) (by rw [show (rT X scope cl xs C pins s0 H0 fp E).env.scope.kind = .function from S.kind]; rfl))
 refine h _ ?_
 have Ed : ∀ b o, s0.heap.get? b = some o → b ≠ C := fun b o e => Nat.ne_of_lt (Nat.lt_of_lt_of_le (Heap.lt_size e) I.ok.above)
 obtain ⟨oL, _, _, RI, _⟩ := id hn
 have hfree : H1 C = none := I.free
 refine ⟨I.ok, I.os, I.bare, ⟨fun b o e n hb hx => ?_, fun b o e n hb hx => ?_, I.base.free, fun b o e hx => ?_, I.base.tups, I.base.oX, I.base.pT⟩, ⟨_, hn', fun j y v' e1 e2 e3 => ?_⟩, fun y c e => ?_, I.free, I.oF, fun p hp => ?_, fun b ob e => ?_, by simpa using I.len⟩
 ·exact (hs.2 b (Ed b o e)).trans (I.base.keep b o e n hb hx)
 ·obtain ⟨sl, e1⟩ := I.base.slot b o e n hb hx
  exact ⟨sl, (hs.2 b (Ed b o e)).trans e1⟩
 ·obtain ⟨o', e1⟩ := I.base.there b o e hx
  exact ⟨o', (hs.2 b (Ed b o e)).trans e1⟩
 ·have hnl : n < xs.length := (List.getElem?_eq_some_iff.mp hx).1
  by_cases hlt : j < xs.length
  ·have ey : xs[j]? = some y := by
    have : (xs ++ X.N)[j]? = some y := e1
    rwa [List.getElem?_append_left hlt] at this
   rw [List.getElem?_append_left (by simp; omega)] at e2
   by_cases hj : n = j
   ·subst hj
    rw [hx] at ey; cases ey
    rw [List.getElem?_set, if_pos rfl, if_pos (by omega)] at e2
    cases e2
    exact ⟨u, r, .inl ⟨RU, by simp⟩⟩
   ·rw [List.getElem?_set_ne hj] at e2
    have hne : y ≠ x := by
     rintro rfl
     obtain ⟨h1, xw⟩ := List.getElem?_eq_some_iff.mp hx
     obtain ⟨h2, D8⟩ := List.getElem?_eq_some_iff.mp ey
     exact hj ((List.getElem_inj S.nd).mp (xw.trans D8.symm))
    obtain ⟨u', r', q⟩ := hl j y v' e1 (by rw [List.getElem?_append_left (by omega)]; exact e2) e3
    refine ⟨u', r', ?_⟩
    rcases q with ⟨k, e⟩ | ⟨k, c, e, z⟩
    ·exact .inl ⟨k, by simpa [hne] using e⟩
    ·exact .inr ⟨k, c, e, z.sameBut hs (I.GY y c e)⟩
  ·obtain ⟨j, rfl⟩ : ∃ k, j = xs.length + k := ⟨j - xs.length, by omega⟩
   have D8 : (mask ks σ0)[j]? = some (some v') := by
    rw [List.getElem?_append_right (by simp; omega)] at e2
    simpa [L7] using e2
   obtain ⟨u', r', q⟩ := hl (xs.length + j) y v' e1 (by rw [List.getElem?_append_right (by omega)]; simpa [L7] using D8) e3
   refine ⟨u', r', ?_⟩
   rcases q with ⟨k, e⟩ | ⟨k, c, e, z⟩
   ·obtain ⟨hks, _⟩ := nh D8
    have xw : X.N[j]? = some y := by
     have : (xs ++ X.N)[xs.length + j]? = some y := e1
     rw [List.getElem?_append_right (by omega)] at this
     simpa using this
    have hfr : scope.names.lookup y = some .free := S.cap j (List.getElem?_eq_some_iff.mp hks).1 hks y (by rw [xw]; rfl)
    rcases rm (cl := cl) (C := C) S hfr with z | z
    ·have k' : (compEnvC scope cl C X.env).kindOf y = some .local := k
     rw [k'] at z; cases z
    ·have k' : (compEnvC scope cl C X.env).kindOf y = some .local := k
     rw [k'] at z; cases z
   ·exact .inr ⟨k, c, e, z.sameBut hs (I.GY y c e)⟩
 ·obtain ⟨w', z⟩ := I.cell y c e
  exact ⟨w', z.sameBut hs (I.GY y c e)⟩
 ·obtain ⟨e, n, ne, nf, d⟩ := I.pin p hp
  exact ⟨(hs.2 p.1 ne).trans e, n, ne, nf, d⟩
 ·refine (I.hok b ob e).stay (fun c w' hc q => (hs.2 c ?_).trans q) (fun _ q => q) fun _ _ q => q
  intro ec
  rcases hc with hc | hc
  ·have : H1 C = some ob := by rw [← (show c = C from ec), hc]; exact e
   rw [hfree] at this; cases this
  ·have : H1 C = some (.own b) := by rw [← (show c = C from ec)]; exact hc
   rw [hfree] at this; cases this
noncomputable def zh : V → Hp → List V → Prop := fun x _ vs => vs = [x]
noncomputable def Ib (K : PySem.W.Frag) (n : Nat) : V → Hp → List V → Prop := fun x H vs => ∃ a, x = .ref a ∧ n9 K H a vs ∧ vs.length = n
noncomputable def Own (X : Cx) (scope : Scope) (xs : List Str) (ks : List Bool) (tg : Expr) (ow : V → Hp → List V → Prop) : Prop :=
 ∀ (cl : List (Str × Addr)) (C : Addr) (pins : List (Addr × Obj)) (s0 : Shared) (H0 : Hp) (fp : List Addr) (E : Value → Shared → Prop) (Xc : Cx) (σ0 : L2.St) (own : List (Option V)) (x : V) (vs : List V) (u : Value) (H1 : Hp) (s1 : Shared) (jk : List (Addr × Obj)) (E' : Value → Shared → Prop) (Q : Unit → Shared → Prop),
  Xc = rT X scope cl xs C pins s0 H0 fp E → own.length = xs.length → Inv Xc jk (own ++ mask ks σ0) H1 s1 → RelV x u → ow x H1 vs →
  (vs.length = xs.length → ∀ s', Inv Xc jk (vs.map some ++ mask ks σ0) H1 s' → Q () s') → wpAny (model X.prog X.w) X.A (assign tg Xc.env u) Q E' s1
theorem kK {px : Pos} (S : bV X.env.scope X.N scope [x] ks) : Own X scope [x] ks (.Name x px) zh := by
 intro cl C pins s0 H0 fp E Xc σ0 own v vs u H1 s1 jk E' Q e ho I r hv h
 cases hv
 match own, ho with
 | [a], _ => exact pA (own := [a]) (n := 0) S e rfl rfl I r fun s' I' => h rfl s' I'
theorem zj {x y : Str} {px py pt : Pos} {k : Nat} (hc : X.calm = true) (S : bV X.env.scope X.N scope [x, y] ks) : Own X scope [x, y] ks (.Tuple [.Name x px, .Name y py] k pt) (Ib X.K 2) := by
 intro cl C pins s0 H0 fp E Xc σ0 own v vs u H1 s1 jk E' Q e ho I r hv h
 obtain ⟨a, rfl, sq, hl⟩ := hv
 cases r
 match own, ho, vs, hl with
 | [a1, a2], _, [v1, v2], _ =>
  have TV : n9 Xc.K H1 a [v1, v2] := by rw [e]; exact sq
  obtain ⟨its, rv, ht, hz⟩ := I.tuple TV
  cases rv with
  | cons r1 rv =>
  cases rv with
  | cons r2 rv =>
  cases rv
  have hd : X.A.handled = none := by
   have := I.ok.hd (by rw [e]; exact hc)
   rw [e] at this; exact this
  refine assign_Tuple_tuple hd ht rfl rfl fun h' hx => ?_
  have I1 : Inv Xc jk ([a1, a2] ++ mask ks σ0) H1 { s1 with heap := h' } := I.kept (t' := s1.toks) fun b o e => hx b o (Nat.ne_of_lt (Heap.lt_size e)) e
  refine assignInOrder_cons (pA (own := [a1, a2]) (n := 0) S e rfl rfl I1 r1 fun s2 I2 => ?_)
  refine assignInOrder_cons (pA (own := [some v1, a2]) (n := 1) S e rfl rfl I2 r2 fun s3 I3 => ?_)
  exact assignInOrder_nil (h rfl _ I3)
end
end L3
end
section
set_option Elab.async false
set_option linter.all false
set_option maxRecDepth 100000
namespace L3
open PySem PySem.Spec L2
theorem xG {prog : Program} {w : World} {A : Around} {R : Result → Shared → Prop} {s : Shared} {elt target iter : Expr} {ifs : List Expr} {scope : Scope} {pos : Pos} {it acc : Value} {env : Env} (I : Nat → Shared → Prop)
  (turn : ∀ (n : Nat) (s : Shared), I n s → wpAny (model prog w) A (pyNext it) (fun r s₁ => match r with
   | none => R (.ok .next) s₁
   | some v => wpAny (model prog w) A (letOwnedTupleGo target it v) (fun _ s₁' => wpAny (model prog w) A (assign target env v) (fun _ s₂ => wpAny (model prog w) A (forIn ifs true fun c r => if r = true then do let ok ← isTrue c env (eval c env); pure (ForInStep.yield ok) else pure (ForInStep.yield r)) (fun ok s₃ => if ok = true then wpAny (model prog w) A (eval elt env) (fun x s₄ => wpAny (model prog w) A (call (.builtin "list.append") [acc, x]) (fun _ s₅ => ∃ m, m < n ∧ I m s₅) (notedBy (model prog w) A env fun e s' => R (.error e) s') s₄) (notedBy (model prog w) A env fun e s' => R (.error e) s') s₃ else ∃ m, m < n ∧ I m s₃) (notedBy (model prog w) A env fun e s' => R (.error e) s') s₂) (notedBy (model prog w) A env fun e s' => R (.error e) s') s₁') (notedBy (model prog w) A env fun e s' => R (.error e) s') s₁) (notedBy (model prog w) A env fun e s' => R (.error e) s') s) (n : Nat) (h : I n s) :
  codeAny (model prog w) A (.compLoop (.ListComp elt [⟨target, iter, ifs, 0⟩] scope pos) 0 it acc env) R s := by
 refine codeAny_loop rfl I (fun n s hI => ?_) n h
 refine wpAny_noted ?_
 rw [compTurn_list]
 refine wpAny_bind (wpAny_standAt (wpAny_bind (wpAny_mono (turn n s hI) (fun r s₁ h₁ => ?_) fun _ _ z => z)))
 cases r with
 | none => exact wpAny_pure h₁
 | some v =>
  refine wpAny_bind (wpAny_mono h₁ (fun _ s₂ h₂ => wpAny_bind (wpAny_mono h₂ (fun _ s₃ h₃ => wpAny_bind (wpAny_mono h₃ (fun ok s₄ h₄ => ?_) fun _ _ z => z)) fun _ _ z => z)) fun _ _ z => z)
  cases ok with
  | false => exact wpAny_pure ⟨rfl, h₄⟩
  | true => exact wpAny_bind (wpAny_bind (wpAny_mono h₄ (fun x s₅ h₅ => wpAny_bind (wpAny_mono h₅ (fun _ s₆ h₆ => wpAny_pure (wpAny_pure ⟨rfl, h₆⟩)) fun _ _ z => z)) fun _ _ z => z))
noncomputable def CT (X : Cx) (ifs : List Expr) (tt : TT) : Prop := ∀ (pins : List (Addr × Obj)) (s : Shared) (σ : L2.St) (H : Hp) (Q : Bool → Hp → Prop), Inv X pins σ H s → tt σ H Q →
 wpAny (model X.prog X.w) X.A (forIn ifs true fun c r => if r = true then do let ok ← isTrue c X.env (eval c X.env); pure (ForInStep.yield ok) else pure (ForInStep.yield r)) (TP X pins σ Q) X.xe s
theorem K4 {X : Cx} : CT X [] (fun _ H Q => Q true H) := fun _ _ _ H _ I h => wpAny_tests_nil ⟨H, I, h⟩
theorem K5 {X : Cx} {c : Expr} {t : TT} (h : PT X c t) : CT X [c] t := fun pins s σ H Q I q => wpAny_tests_one (h pins s σ H Q I q)
noncomputable def Ca (wi : TI) (ks : List Bool) (ow : V → Hp → List V → Prop) (tt : TT) (te : TE) : TE := fun σ H Q => wi σ H fun J H1 => ∀ D, H1 D = none → ∃ W : Nat → Nat → Hp → Prop, (∃ m, W 0 m (upd H1 D (.lst []))) ∧ ∀ i m H, W i m H →
  (J.stop i H ∧ Q (.ref D) H) ∨ (J.go i H ∧ ∀ x H', J.wZ i H x H' → ∃ vs, ow x H' vs ∧ tt (vs.map some ++ mask ks σ) H' fun b H2 => if b = true then te (vs.map some ++ mask ks σ) H2 fun v H3 => ∃ ys, H3 D = some (.lst ys) ∧ ys.length < sizeLine ∧ ∃ m', m' < m ∧ W (i + 1) m' (upd H3 D (.lst (ys ++ [v]))) else ∃ m', m' < m ∧ W (i + 1) m' H2)
section
variable {X : Cx} {scope : Scope} {xs : List Str} {tg : Expr} {ow : V → Hp → List V → Prop} {ks : List Bool} {pins : List (Addr × Obj)} {σ : L2.St} {H : Hp} {s s4 : Shared} {fp : List Addr} {E : Value → Shared → Prop} {h1 : Heap} {elt iter : Expr} {ifs : List Expr} {px pos : Pos} {tt : TT} {te : TE} {wi : TI}
theorem rV {h h' B B' : Heap} : ∀ {l : List Env}, h.FunFrames B l → (∀ b ∈ frs l, ∀ o, h.get? b = some o → (∀ vs, o.data ≠ .fields vs) → ∃ o', h'.get? b = some o' ∧ o'.data = o.data) → (∀ b ∈ frs l, B'.get? b = none) → h'.FunFrames B' l
 | [], _, _, _ => trivial
 | env :: r, ⟨hk, ⟨L, o, hf, _, ho, hd⟩, hr⟩, hm, hB => by
  have sub : ∀ b, b = L ∨ b ∈ frs r → b ∈ frs (env :: r) := fun b hb => by
   unfold frs; rw [List.filterMap_cons, hf]
   rcases hb with z | z
   ·rw [z]; exact List.mem_cons_self
   ·exact List.mem_cons_of_mem _ z
  obtain ⟨o', e1, e2⟩ := hm L (sub L (.inl rfl)) o ho hd
  exact ⟨hk, ⟨L, o', hf, hB L (sub L (.inl rfl)), e1, by rw [e2]; exact hd⟩, rV hr (fun b hb => hm b (sub b (.inr hb))) fun b hb => hB b (sub b (.inr hb))⟩
theorem A5 {EE : fK} {D C e : Addr} {cls : Value} {c : XD} {jk : List (Addr × Obj)} {σ' : L2.St} {H' HD : Hp} {s3 s' : Shared} {cl : List (Str × Addr)} {RE : Value → Shared → Prop} (K6 : mS X EE) (hst : ∃ jd jf L, X.stack = jd :: jf ∧ X.env.frame = jd.frame ∧ jd.frame = some L)
  (I3 : Inv X pins σ HD s3) (hC : C = s3.heap.objs.size) (f3 : ∀ b ∈ fp, oZ X pins HD b ∧ b < s3.heap.objs.size)
  (Qk : ∀ s'' : Shared, (∃ m, s''.heap.Ns C m ∧ ∀ h', Heap.SameBut C s''.heap h' → ∀ cenv : Env, cenv.locals = C → wpAny (model X.prog X.w) X.A (passOn "comprehension.variables-let-go" (.ref e) cenv : Sem Value) (fun _ _ => False) X.xe { s'' with heap := h' }) → RE (.ref e) s'')
  (I' : Inv (rT X scope cl xs C pins s3 HD fp E) jk σ' H' s') (fx : Nl (rT X scope cl xs C pins s3 HD fp E) H' e cls s') (hc : E4 X.mg c cls) (ee : EE c σ H') :
  notedBy (model X.prog X.w) X.A (compEnvC scope cl C X.env) RE (.ref e) s' := by
 obtain ⟨B, fb, hok, Ia⟩ := fx
 obtain ⟨jd, jf, L, h1, h2, h3⟩ := hst
 show wpAny _ X.A (noteFrame (.ref e) (compEnvC scope cl C X.env)) _ _ s'
 rw [A2 (show (compEnvC scope cl C X.env).frame = jd.frame from h2)]
 have hfr : X.A.frames = some (jd :: jf) := by rw [← h1]; exact I3.ok.frames
 have TX : Dy B (jd :: jf) e cls s'.heap := by rw [← h1]; exact fb
 refine B8 hfr h3 TX fun h5 a0 hH u5 => ?_
 obtain ⟨k1, k2, k3, oe, vs, T, oT, ts, he, hcls, hd, hv1, Ni, Nj, hT, Eb, TY⟩ := hH
 have RV : h5.FunFrames B X.stack := by rw [h1]; exact k3
 obtain ⟨m, hm, _⟩ := id I'.loc
 have RW : h5.Ns C m := u5.ns hm
 refine Qk _ ⟨m, RW, fun h6 sb cenv _ => ?_⟩
 obtain ⟨oC, V3, V4, TZ, T3, _⟩ := id RW
 have Jk : ∀ {b : Addr} {o : Obj} {ws : Array Value}, h5.get? b = some o → o.data = .fields ws → b ≠ C := fun {b o ws} q d z => by
  rw [z, TZ] at q; cases q; rw [T3] at d; cases d
 have Ql := (sb.2 e (Jk he hd)).trans he
 have RX := (sb.2 T (Jk hT Eb)).trans hT
 have RY : 3 < ts.size := (Array.getElem?_eq_some_iff.mp TY).1
 unfold passOn setFlight
 refine wpAny_bind (wpAny_field Ql hd hv1 ?_)
 rw [if_neg (show ¬ ((Value.ref T == Value.none) = true) by simp)]
 have fin : X.xe (.ref e) { s' with heap := h6.update T (Obj.mapFields (·.setIfInBounds 3 (cenv.frame.elim .none fun f => rawInt f))) } := by
  have Nr : ∀ b, b ≠ T → (h6.update T (Obj.mapFields (·.setIfInBounds 3 (cenv.frame.elim .none fun f => rawInt f)))).get? b = h6.get? b := fun b hb => Heap.get?_update_other _ _ (Ne.symm hb)
  have yK : ∀ b, b ≠ T → b ≠ C → (h6.update T (Obj.mapFields (·.setIfInBounds 3 (cenv.frame.elim .none fun f => rawInt f)))).get? b = h5.get? b := fun b hb hb2 => (Nr b hb).trans (sb.2 b hb2)
  generalize T4 : h6.update T (Obj.mapFields (·.setIfInBounds 3 (cenv.frame.elim .none fun f => rawInt f))) = h7 at Nr yK
  have T5 : h7.get? T = some (Obj.mapFields (·.setIfInBounds 3 (cenv.frame.elim .none fun f => rawInt f)) oT) := by rw [← T4]; exact Heap.get?_update_self _ RX (Obj.isFreed_of_fields (Obj.data_mapFields Eb _))
  have T6 : ∀ b o, B.get? b = some o → b ≠ T := fun b o q z => by rw [z, Ni] at q; cases q
  have O7 : ∀ b o, (B.hide C).get? b = some o → h7.get? b = some o := fun b o q => by
   have q' := Heap.of_hide q
   have nC : b ≠ C := fun z => by rw [z, Heap.hide_self] at q; cases q
   rw [yK b (T6 b o q') nC]
   exact k1 b o q'
  have hide : ∀ b o, b ≠ C → B.get? b = some o → (B.hide C).get? b = some o := fun b o z q => (Heap.hide_ne B z).trans q
  have K7 : ∀ b o, s3.heap.get? b = some o → b ≠ C := fun b o q => by rw [hC]; exact Nat.ne_of_lt (Heap.lt_size q)
  have Nt : mW X.prog X.w H' (B.hide C) := E5 hok fun b o n q => hide b o (fun z => n (by rw [z]; exact I'.free)) q
  have Qi : ∀ b, b ∉ frs X.stack → b ∉ X.fs := fun b hb z => hb (by
   rcases I3.ok.stk with q | ⟨q, _⟩
   ·rw [q]; exact z
   ·rw [q]; unfold frs; rw [List.filterMap_cons]; split
    ·exact z
    ·exact List.mem_cons_of_mem _ z)
  have slot : ∀ b o, s3.heap.get? b = some o → b ∈ frs X.stack → ∃ sl, h7.get? b = some { o with slots := sl } := fun b o q hb => by
   obtain ⟨_, o', q', hnf⟩ := I3.stack.mem hb
   rw [q] at q'; cases q'
   obtain ⟨sl, e1⟩ := I'.base.slot b o q (I3.sS b hb) hb fun z => (I'.ok.JY b z) hb
   obtain ⟨Mq, e2⟩ := u5 b _ e1 hnf
   refine ⟨Mq, ?_⟩
   rw [yK b (fun z => by rw [z, hT] at e2; cases e2; exact hnf _ Eb) (K7 b o q)]
   exact e2
  have un : Un (frs X.stack) fp HD H' s3.heap h7 := ⟨fun b o q n hb hx => O7 b o (hide b o (K7 b o q) (Ia.keep b o q n hb hx)), fun b o q n hb hx => slot b o q hb, fun b o q n hx => I'.base.free b o q n hx, fun b o q hx => by
   by_cases hb : b ∈ frs X.stack
   ·obtain ⟨sl, z⟩ := slot b o q hb
    exact ⟨_, z⟩
   ·obtain ⟨o', z⟩ := Ia.there b o q hb hx
    exact ⟨o', O7 b o' (hide b o' (K7 b o q) z)⟩, I'.base.tups, I'.base.oX, I'.base.pT⟩
  have I7 : Inv X pins σ H' { s' with heap := h7 } := I3.Ef (ch := fp) I'.os un (Nt.kept O7) I'.bare fun b hb => by
   obtain ⟨g0, g1, g2, g3, g4, g5⟩ := (f3 b hb).1
   exact ⟨g3, g1, g4, g5⟩
  have RZ : ∀ b o, X.s₀.heap.get? b = some o → b ∉ X.ex → b ∉ fp := fun b o q hx hb => by
   obtain ⟨g0, g1, g2, g3, g4, g5⟩ := (f3 b hb).1
   rcases g3 with z | z
   ·exact hx z
   ·exact absurd (Nat.lt_of_lt_of_le (Heap.lt_size q) z) (Nat.lt_irrefl _)
  refine K6 pins σ H' _ e cls c I7 ⟨B.hide C, ⟨O7, ?_, ?_, .inr ⟨a0, _, oe, vs, T, _, _, ?_, hcls, hd, hv1, ?_, Nj, T5, Obj.data_mapFields Eb _, by simp [RY]; rfl⟩⟩, Nt, ⟨fun b o q n hb hx => ?_, fun b o q hb hx => ?_, fun p hp => ?_⟩⟩ hc ee
  ·cases q : (B.hide C).get? e with
   | none => rfl
   | some o => have := Heap.of_hide q; rw [k2] at this; cases this
  ·refine rV RV (fun b hb o q hnf => ?_) fun b hb => ?_
   ·refine ⟨o, ?_, rfl⟩
    show h7.get? b = some o
    rw [yK b (fun z => by rw [z, hT] at q; cases q; exact hnf _ Eb) ?_]
    ·exact q
    ·obtain ⟨_, o', q', _⟩ := I3.stack.mem hb
     exact K7 b o' q'
   ·cases q : (B.hide C).get? b with
    | none => rfl
    | some o => have := Heap.of_hide q; rw [(RV.mem hb).1] at this; cases this
  ·exact (yK e (Ne.symm Nj) (Jk he hd)).trans he
  ·cases q : (B.hide C).get? T with
   | none => rfl
   | some o => have := Heap.of_hide q; rw [Ni] at this; cases this
  ·have q3 := I3.base.keep b o q n (Qi b hb) hx
   exact hide b o (K7 b o q3) (Ia.keep b o q3 (I3.base.free b o q n hx) hb (RZ b o q hx))
  ·obtain ⟨o', q3⟩ := I3.base.there b o q hx
   obtain ⟨R0, z⟩ := Ia.there b o' q3 hb (RZ b o q hx)
   exact ⟨R0, hide b R0 (K7 b o' q3) z⟩
  ·exact hide _ _ (K7 _ _ (I3.pin p (List.mem_append_left _ hp)).1) (Ia.pins p (List.mem_append_left _ hp))
 first
  | (refine wpAny_bind (wpAny_pure ?_); refine wpAny_bind (wpAny_bind (wpAny_field Ql hd hv1 ?_)))
  | refine wpAny_bind (wpAny_bind (wpAny_field Ql hd hv1 ?_))
 rw [if_pos (show (Value.ref T != Value.none) = true by simp)]
 exact wpAny_setField RX Eb RY (wpAny_throw fin)
theorem tZ {Q : VK} {J : It} {it : Addr} {tn : Nat → Heap → Prop} {RR : Value → Addr → Result → Shared → Prop} {EE : fK} (K6 : mS X EE) (hst : ∃ jd jf L, X.stack = jd :: jf ∧ X.env.frame = jd.frame ∧ jd.frame = some L) (S : bV X.env.scope X.N scope xs ks) (how : Own X scope xs ks tg ow) (hc : X.calm = true) (I : Inv X pins σ H s)
  (T : Turn X.prog X.w X.K tg J fp it tn) (st : tn 0 s.heap) (hf : ∀ b ∈ fp, oZ X pins H b)
  (hb : ∀ (cl : List (Str × Addr)) (C : Addr) (pins : List (Addr × Obj)) (s0 : Shared) (H0 : Hp) (fp : List Addr) (E : Value → Shared → Prop), mS (rT X scope cl xs C pins s0 H0 fp E) (fun c _ H' => EE c σ H') → CT (rT X scope cl xs C pins s0 H0 fp E) ifs tt ∧ PE (rT X scope cl xs C pins s0 H0 fp E) elt te)
  (hw : ∀ D, H D = none → ∃ W : Nat → Nat → Hp → Prop, (∃ m, W 0 m (upd H D (.lst []))) ∧ ∀ i m H, W i m H →
   (J.stop i H ∧ Q (.ref D) H) ∨ (J.go i H ∧ ∀ x H', J.wZ i H x H' → ∃ vs, ow x H' vs ∧ tt (vs.map some ++ mask ks σ) H' fun b H2 => if b = true then te (vs.map some ++ mask ks σ) H2 fun v H3 => ∃ ys, H3 D = some (.lst ys) ∧ ys.length < sizeLine ∧ ∃ m', m' < m ∧ W (i + 1) m' (upd H3 D (.lst (ys ++ [v]))) else ∃ m', m' < m ∧ W (i + 1) m' H2))
  (hRR : ∀ (D C : Addr) (s' : Shared) (H' : Hp) (m : Str → Option Value), Inv X pins σ H' s' → s'.heap.Ns C m → H' C = none → C ≠ X.env.locals → X.s₀.heap.objs.size ≤ C → (∀ x c, X.env.cells.lookup x = some c → c ≠ C) → (∀ p ∈ X.pn ++ pins, p.1 ≠ C) → Q (.ref D) H' → RR (.ref D) C (.ok .next) s')
  (Qk : ∀ (acc : Value) (C e : Addr) (s'' : Shared), (∃ m, s''.heap.Ns C m ∧ ∀ h', Heap.SameBut C s''.heap h' → ∀ cenv : Env, cenv.locals = C → wpAny (model X.prog X.w) X.A (passOn "comprehension.variables-let-go" (.ref e) cenv : Sem Value) (fun _ _ => False) X.xe { s'' with heap := h' }) → RR acc C (.error (.ref e)) s'') :
  wpAny (model X.prog X.w) X.A (newList []) (fun acc s₃ => wpAny (model X.prog X.w) X.A (newFunctionEnv scope X.env.globals (iC X.env scope.names []) [] X.env.qual none .none (some X.env)) (fun cenv s₄ =>
   codeAny (model X.prog X.w) X.A (.compStart (.ListComp elt [⟨tg, iter, ifs, 0⟩] scope pos) 0 (.ref it) acc { cenv with scope := relabel scope X.env }) (RR acc cenv.locals) s₄) E s₃) E s := by
 refine wpAny_newObj_type (wpAny_newFunctionEnv S.E7 (by intro y hy; simp at hy) (fun h₁ Nu Nv => ?_) S.kind)
 have I3 : Inv X pins σ (upd H s.heap.objs.size (.lst [])) { s with heap := s.heap.push { cls := .type "list", dict := none, data := .seq ([] : List Value).toArray } } :=
  I.laid (t' := s.toks) (fun b o e => Heap.get?_push_of_some _ e) (Nat.le_refl _) ⟨Nat.zero_le _, [], 0, .nil, Heap.get?_push_size _ rfl⟩
 have hfree := I.hok.fresh (Nat.le_refl s.heap.objs.size)
 generalize R3 : ({ s with heap := s.heap.push { cls := .type "list", dict := none, data := .seq ([] : List Value).toArray } } : Shared) = s3 at I3 Nu Nv ⊢
 have hsz : s3.heap.objs.size = s.heap.objs.size + 1 := by rw [← R3]; exact Heap.size_push ..
 have Nx : ∀ b o, s.heap.get? b = some o → s3.heap.get? b = some o := fun b o e => by rw [← R3]; exact Heap.get?_push_of_some _ e
 have Ny : ∀ b ∈ fp, b < s.heap.objs.size := fun b hb' => by
  obtain ⟨o, e, _⟩ := T.obj 0 _ st b hb'
  exact Heap.lt_size e
 have f3 : ∀ b ∈ fp, oZ X pins (upd H s.heap.objs.size (.lst [])) b ∧ b < s3.heap.objs.size := fun b hb' =>
  ⟨⟨by rw [aJ (Nat.ne_of_lt (Ny b hb'))]; exact (hf b hb').1, (hf b hb').2⟩, by rw [hsz]; exact Nat.lt_succ_of_lt (Ny b hb')⟩
 have E9 : ∀ b o, s3.heap.get? b = some o → h₁.get? b = some o := fun b o e => Nv.extBut b o (Nat.ne_of_lt (Heap.lt_size e)) (Heap.get?_push_of_some _ e)
 obtain ⟨W, ⟨m0, w0⟩, turn⟩ := hw s.heap.objs.size hfree
 generalize hX : rT X scope (iC X.env scope.names []) xs s3.heap.objs.size pins s3 (upd H s.heap.objs.size (.lst [])) fp (notedBy (model X.prog X.w) X.A (compEnvC scope (iC X.env scope.names []) s3.heap.objs.size X.env) fun e s' => RR (.ref s.heap.objs.size) s3.heap.objs.size (.error e) s') = Xc
 have I4 : Inv Xc [] (List.replicate xs.length none ++ mask ks σ) (upd H s.heap.objs.size (.lst [])) { s3 with heap := h₁, toks := s3.toks + ([] : List (Str × Value)).length } := by
  rw [← hX]
  exact A4 S I3 f3 (by simpa using Nu) E9 _
 have GX : CT Xc ifs tt ∧ PE Xc elt te := by
  rw [← hX]
  exact hb _ _ _ _ _ _ _ fun jk σ' H' s' e cls c I' fx hc ee => A5 (RE := fun e s' => RR (.ref s.heap.objs.size) s3.heap.objs.size (.error e) s') (D := s.heap.objs.size) K6 hst I3 rfl f3 (fun s'' => Qk _ _ e s'') I' fx hc ee
 have zk : Xc.prog = X.prog := by rw [← hX]; rfl
 have ew : Xc.w = X.w := by rw [← hX]; rfl
 have eK : Xc.K = X.K := by rw [← hX]; rfl
 have eA : Xc.A = X.A := by rw [← hX]; rfl
 have Js : Xc.calm = true := by rw [← hX]; exact hc
 have Qm : Xc.xe = notedBy (model X.prog X.w) X.A Xc.env fun e s' => RR (.ref s.heap.objs.size) s3.heap.objs.size (.error e) s' := by rw [← hX]; rfl
 have K8 : Xc.env = compEnvC scope (iC X.env scope.names []) s3.heap.objs.size X.env := by rw [← hX]; rfl
 have T7 : Xc.stack = X.stack := by rw [← hX]; rfl
 have Qn : ∀ {H' : Hp}, (∀ b ∈ fp, H' b = none) → ∀ b ∈ fp, oZ Xc [] H' b := fun {H'} hn b hb' => by
  obtain ⟨g0, g1, g2, g3, g4, g5⟩ := (f3 b hb').1
  rw [← hX]
  refine ⟨hn b hb', Nat.ne_of_lt (f3 b hb').2, fun z => (List.mem_cons.mp (I3.oY b z)).elim g1 g2, .inl hb', fun y c e => g4 y c (tW scope.names [] (fun y c e => by simp at e) y c e), fun p hp => g5 p ?_⟩
  have : p ∈ (X.pn ++ pins) ++ [] := hp
  simpa using this
 have fin : ∀ (s' : Shared) (H' : Hp) (a0 : List (Option V)), Inv Xc [] (a0 ++ mask ks σ) H' s' → Q (.ref s.heap.objs.size) H' → RR (.ref s.heap.objs.size) s3.heap.objs.size (.ok .next) s' := fun s' H' a0 I' q => by
  have hloc := I'.loc
  obtain ⟨m, hm, _⟩ := hloc
  have hC : H' s3.heap.objs.size = none := by have := I'.free; rw [K8] at this; exact this
  have hU : Un (frs X.stack) fp (upd H s.heap.objs.size (.lst [])) H' s3.heap s'.heap := by
   have := I'.base
   rw [← hX] at this
   exact this
  have hos : s'.os = s3.os := by have := I'.os; rw [← hX] at this; exact this
  have Qo : mW X.prog X.w H' s'.heap := by have := I'.hok; rw [← hX] at this; exact this
  have I5 : Inv X pins σ H' s' := I3.Ef hos hU Qo I'.bare fun b hb' => by
   obtain ⟨g0, g1, g2, g3, g4, g5⟩ := (f3 b hb').1
   exact ⟨g3, g1, g4, g5⟩
  refine hRR _ _ s' H' m I5 (by rw [K8] at hm; exact hm) hC (Nat.ne_of_gt I3.lt) (Nat.le_trans I3.sz (Nat.le_refl _)) (fun y c e z => ?_) (fun p hp z => ?_) q
  ·obtain ⟨v, hv⟩ := I3.cell y c e
   exact absurd hv.lt (by rw [z]; exact Nat.lt_irrefl _)
  ·exact absurd (Heap.lt_size (I3.pin p hp).1) (by rw [z]; exact Nat.lt_irrefl _)
 have loop : codeAny (model X.prog X.w) X.A (.compLoop (.ListComp elt [⟨tg, iter, ifs, 0⟩] scope pos) 0 (.ref it) (.ref s.heap.objs.size) Xc.env) (RR (.ref s.heap.objs.size) s3.heap.objs.size)
   { s3 with heap := h₁, toks := s3.toks + ([] : List (Str × Value)).length } := by
  refine xG (fun n s' => ∃ i a0 H', a0.length = xs.length ∧ Inv Xc [] (a0 ++ mask ks σ) H' s' ∧ tn i s'.heap ∧ (∀ b ∈ fp, H' b = none) ∧ W i n H') ?_ m0 ⟨0, List.replicate xs.length none, _, by simp, I4, T.keep 0 _ _ st fun b hb' o e => E9 b o (Nx b o e), fun b hb' => (f3 b hb').1.1, w0⟩
  rintro n s5 ⟨i, a0, H5, T8, I5, LZ, OW, w5⟩
  rcases turn i n H5 w5 with ⟨stop, q⟩ | ⟨go, step⟩
  ·have hd := T.done Xc zk ew eK Js i [] s5 _ H5 (fun _ _ => False) I5 (Qn OW) LZ stop
   rw [eA] at hd
   refine wpAny_mono hd (fun r s6 hr => ?_) (fun _ _ z => False.elim z)
   obtain ⟨rfl, I6⟩ := hr
   exact fin s6 H5 a0 I6 q
  ·have hd := T.item Xc zk ew eK Js i [] s5 _ H5 (fun _ _ => False) I5 (Qn OW) LZ go
   rw [eA] at hd
   refine wpAny_mono hd (fun r s6 hr => ?_) (fun _ _ z => False.elim z)
   obtain ⟨u, rfl, h6⟩ := hr
   refine wpAny_mono h6 (fun _ s7 hq => ?_) (fun _ _ z => False.elim z)
   obtain ⟨v, H7, I7, r7, y7, Qp, T9⟩ := hq
   obtain ⟨vs, hvs, step⟩ := step v H7 y7
   have Ua : Inv Xc (qY fp s7.heap) (a0 ++ mask ks σ) H7 s7 := by
    have := Inv.pinned (pins := []) I7 (Qn T9) (T.obj _ _ Qp)
    simpa using this
   have back : ∀ {σ' : L2.St} {H' : Hp} {s' : Shared}, Inv Xc (qY fp s7.heap) σ' H' s' → Inv Xc [] σ' H' s' ∧ tn (i + 1) s'.heap ∧ ∀ b ∈ fp, H' b = none := fun {σ' H' s'} I' => by
    refine ⟨I'.wY fun p hp => absurd hp (by simp), T.keep _ _ _ Qp fun b hb' o e => (I'.pin (b, o) (List.mem_append_right _ (lB hb' e))).1, fun b hb' => ?_⟩
    obtain ⟨o, e, d⟩ := T.obj _ _ Qp b hb'
    exact (I'.pin (b, o) (List.mem_append_right _ (lB hb' e))).2.1
   refine how _ _ _ _ _ _ _ Xc σ a0 v vs u H7 s7 _ _ _ hX.symm T8 Ua r7 hvs fun R4 s8 Ub => ?_
   have ht := GX.1 _ s8 _ H7 _ Ub step
   rw [zk, ew, eA, Qm] at ht
   refine wpAny_mono ht (fun Uc s9 h9 => ?_) (fun _ _ z => z)
   obtain ⟨H9, I9, q9⟩ := h9
   cases Uc with
   | false =>
    rw [if_neg Bool.false_ne_true] at q9 ⊢
    obtain ⟨m', hm', w'⟩ := q9
    obtain ⟨Ud, Ue, Ug⟩ := back I9
    exact ⟨m', hm', i + 1, vs.map some, H9, by simpa using R4, Ud, Ue, Ug, w'⟩
   | true =>
    rw [if_pos rfl] at q9 ⊢
    have he := GX.2 _ s9 _ H9 _ I9 q9
    rw [zk, ew, eA, Qm] at he
    refine wpAny_mono he (fun y Fb Nz => ?_) (fun _ _ z => z)
    obtain ⟨yv, Uh, Ui, Uj, ys, hD, hlen, m', hm', w'⟩ := Nz
    have ha := v9 (X := Xc) _ Fb _ Uh (.ref s.heap.objs.size) [yv] (.ref s.heap.objs.size) [y] (fun _ H' => ∃ m', m' < n ∧ W (i + 1) m' H') Ui rfl (.cons Uj .nil) ⟨_, ys, yv, rfl, rfl, hD, hlen, m', hm', w'⟩
    rw [zk, ew, eA, Qm] at ha
    refine wpAny_mono ha (fun _ L8 h11 => ?_) (fun _ _ z => z)
    obtain ⟨_, Uk, Ul, _, Um, Qq, w''⟩ := h11
    obtain ⟨Qs, Qt, Qu⟩ := back Ul
    exact ⟨Um, Qq, i + 1, vs.map some, Uk, by simpa using R4, Qs, Qt, Qu, w''⟩
 rw [K8] at loop
 exact codeAny_compStart_list loop (T.self X.A 0 _ _ _ (T.keep 0 _ _ st fun b hb' o e => E9 b o (Nx b o e)) loop)
theorem Cb {EE : fK} {tt : L2.St → TT} {te : L2.St → TE} (K6 : mS X EE) (hst : ∃ jd jf L, X.stack = jd :: jf ∧ X.env.frame = jd.frame ∧ jd.frame = some L) (S : bV X.env.scope X.N scope xs ks) (how : Own X scope xs ks tg ow) (hc : X.calm = true) (hi : PI X tg iter wi)
  (hb : ∀ (σ : L2.St) (cl : List (Str × Addr)) (C : Addr) (pins : List (Addr × Obj)) (s0 : Shared) (H0 : Hp) (fp : List Addr) (E : Value → Shared → Prop), mS (rT X scope cl xs C pins s0 H0 fp E) (fun c _ H' => EE c σ H') → CT (rT X scope cl xs C pins s0 H0 fp E) ifs (tt σ) ∧ PE (rT X scope cl xs C pins s0 H0 fp E) elt (te σ))
  (hs : ∀ x, foldedSetIterable iter X.env x = pure x := by intro _; rfl) : PE X (.ListComp elt [⟨tg, iter, ifs, 0⟩] scope pos) (fun σ => Ca wi ks ow (tt σ) (te σ) σ) := by
 intro pins s σ H Q I h
 rw [eval_ListComp]
 refine wpAny_comprehension_free (use := none) rfl hs (oH fun y hy hfr => I.ok.has y.1 (S.free y hy hfr)) S.kind S.names (fT (hi pins s σ H _ I h) fun v s1 h1 => fT h1 fun itv s2 h2 => ?_)
 obtain ⟨it, fp, tn, J, H2, rfl, I2, T, st2, f2, q⟩ := h2
 refine tZ (RR := fun acc C => compPost (model X.prog X.w) X.A X.xe none (EP X pins σ Q) acc C) K6 hst S how hc I2 T st2 f2 (hb σ) q ?_ (fun _ _ _ _ z => z)
 intro D C s' H' m I' hn hC h1 h2 h3 h4 q'
 refine ⟨m, hn, fun h' sb => ?_⟩
 exact ⟨.ref D, H', I'.turned (t' := s'.toks) (fun b o hb e => (sb.2 b hb).trans e) hC h1 (.inr h2) h3 h4, rfl, q'⟩
theorem Cc {EE : fK} {tt : L2.St → TT} {te : L2.St → TE} (K6 : mS X EE) (hst : ∃ jd jf L, X.stack = jd :: jf ∧ X.env.frame = jd.frame ∧ jd.frame = some L) {y : Str} {i : Nat} {py spos : Pos} (S : bV X.env.scope X.N scope xs ks) (how : Own X scope xs ks tg ow) (hc : X.calm = true) (hN : X.N.Nodup) (hi : PI X tg iter wi) (hy : X.N[i]? = some y) (hl : X.env.scope.names.lookup y = some .local)
  (hsw : swapsWith (.ListComp elt [⟨tg, iter, ifs, 0⟩] scope pos) (some (.Name y py)) spos.line X.env = pure true)
  (hb : ∀ (σ : L2.St) (cl : List (Str × Addr)) (C : Addr) (pins : List (Addr × Obj)) (s0 : Shared) (H0 : Hp) (fp : List Addr) (E : Value → Shared → Prop), mS (rT X scope cl xs C pins s0 H0 fp E) (fun c _ H' => EE c σ H') → CT (rT X scope cl xs C pins s0 H0 fp E) ifs (tt σ) ∧ PE (rT X scope cl xs C pins s0 H0 fp E) elt (te σ))
  (hs : ∀ x, foldedSetIterable iter X.env x = pure x := by intro _; rfl) : PS X (.Assign [.Name y py] (.ListComp elt [⟨tg, iter, ifs, 0⟩] scope pos) spos) (J9 (fun σ => Ca wi ks ow (tt σ) (te σ) σ) (vW i)) := by
 intro pins s σ H Dd I h
 rw [exec_Assign_Name_used _ _ _ _ hsw]
 refine wpAny_bind (wpAny_standAt (wpAny_bind ?_))
 show wpAny _ X.A (do let _ ← comprehension (.ListComp elt [⟨tg, iter, ifs, 0⟩] scope pos) scope X.env _ (newList []) false (eval iter X.env) (some (assign (.Name y py) X.env))) _ _ s
 refine wpAny_bind (wpAny_mono (wpAny_comprehension_free (use := some (assign (.Name y py) X.env)) (Q := fun _ s' => SP X pins Dd .next s') rfl hs (oH fun y hy hfr => I.ok.has y.1 (S.free y hy hfr)) S.kind S.names
  (fT (hi pins s σ H _ I h) fun v s1 h1 => fT h1 fun itv s2 h2 => ?_)) (fun _ s' hq => wpAny_pure (wpAny_pure hq)) fun _ _ e => e)
 obtain ⟨it, fp, tn, J, H2, rfl, I2, T, st2, f2, q⟩ := h2
 refine tZ (Q := fun v H' => Dd.nx (σ.set i (some v)) H') (RR := fun acc C => compPost (model X.prog X.w) X.A X.xe (some (assign (.Name y py) X.env)) (fun _ s' => SP X pins Dd .next s') acc C) K6 hst S how hc I2 T st2 f2 (hb σ) q ?_ (fun _ _ _ _ z => z)
 intro D C s' H' m I' hn hC h1 h2 h3 h4 q'
 show wpAny _ X.A (assign (.Name y py) X.env (.ref D)) _ _ s'
 refine wpAny_assign_Name (vV I' hN hy (.inl hl) (v := .ref D) (u := .ref D) rfl (fun s'' Uo sb => ?_) (.inr hl))
 obtain ⟨a, sb, ha⟩ := sb
 have hne : C ≠ a := by
  rcases ha with e | e
  ·rw [e]; exact h1
  ·exact fun z => h3 y a e z.symm
 refine ⟨m, hn.sameBut sb hne, fun h'' sb' => ?_⟩
 exact ⟨_, H', Uo.turned (t' := s''.toks) (fun b o hb e => (sb'.2 b hb).trans e) hC h1 (.inr h2) h3 h4, q'⟩
end
end L3
end
section
set_option Elab.async false
set_option linter.all false
set_option maxRecDepth 100000
namespace L3
open PySem PySem.Spec L2
noncomputable def oN : D → Option (List D) := fun d => some [d]
noncomputable def oT (n : Nat) : D → Option (List D)
 | .tup xs => if xs.length = n then some xs else none
 | _ => none
noncomputable def p8 (K : PySem.W.Frag) (mg : Str → Option Value) (ow : V → Hp → List V → Prop) (gO : D → Option (List D)) : Prop :=
 ∀ (ρ : List Addr) (H : Hp) (d : D) (v : V) (os : List D), Rep K mg ρ H d v → gO d = some os → ∃ vs, ow v H vs ∧ au K mg ρ H os vs
theorem jz {K : PySem.W.Frag} {mg : Str → Option Value} : p8 K mg zh oN := fun ρ H d v os r e => by
 cases e
 exact ⟨[v], rfl, .cons r .nil⟩
theorem zl {K : PySem.W.Frag} {mg : Str → Option Value} {n : Nat} : p8 K mg (Ib K n) (oT n) := fun ρ H d v os r e => by
 cases d <;> try (cases e; done)
 rename_i xs
 dsimp only [oT] at e
 by_cases h : xs.length = n
 ·rw [if_pos h] at e; cases e
  unfold Rep at r
  obtain ⟨a, vs, rfl, sq, rs⟩ := r
  exact ⟨vs, ⟨a, rfl, sq, by rw [← rs.length]; exact h⟩, rs⟩
 ·rw [if_neg h] at e; cases e
noncomputable def zm (K : PySem.W.Frag) (mg : Str → Option Value) (H H' : Hp) (ρ : List Addr) : Prop := dh K H H' ρ ρ ∧ ∀ G, iB K mg H ρ G → iB K mg H' ρ G
theorem zm.refl {K : PySem.W.Frag} {mg : Str → Option Value} {H : Hp} {ρ : List Addr} : zm K mg H H ρ := ⟨.refl, fun _ h => h⟩
theorem zm.new {K : PySem.W.Frag} {mg : Str → Option Value} {H : Hp} {ρ : List Addr} {p : Addr} {o : HO} (hp : H p = none) : zm K mg H (upd H p o) ρ := ⟨ef hp ρ, fun _ h => h.new hp⟩
noncomputable def eg (gO : D → Option (List D)) (ks : List Bool) (tt : DS → M Bool) (te : DS → M D) (n : Nat) (d : D) (τ : DS) (G : DH) : Out Unit := match gO d with
 | none => .stuck
 | some os => match tt (os.map some ++ mask ks τ) G with
 | .ok true G1 => match te (os.map some ++ mask ks τ) G1 with
  | .ok v G2 => match G2[n]? with
   | some (.lst ys) => if ys.length < sizeLine then .ok () (G2.set n (.lst (ys ++ [v]))) else .stuck
   | _ => .stuck
  | .bY c G2 => .bY c G2
  | .stuck => .stuck
 | .ok false G1 => .ok () G1
 | .bY c G1 => .bY c G1
 | .stuck => .stuck
noncomputable def dI (gO : D → Option (List D)) (ks : List Bool) (tt : DS → M Bool) (te : DS → M D) (n : Nat) : List D → DS → DH → Out D
 | [], _, G => .ok (.obj n) G
 | d :: r, τ, G => match eg gO ks tt te n d τ G with
  | .ok _ G' => dI gO ks tt te n r τ G'
  | .bY c G' => .bY c G'
  | .stuck => .stuck
noncomputable def oJ (gO : D → Option (List D)) (ks : List Bool) (tt : DS → M Bool) (te : DS → M D) (n src : Nat) : Nat → Nat → DS → DH → Out D
 | 0, _, _, _ => .stuck
 | f + 1, k, τ, G => match G[src]? with
  | some (.lst xs) => match xs[k]? with
   | none => .ok (.obj n) G
   | some d => match eg gO ks tt te n d τ G with
    | .ok _ G' => oJ gO ks tt te n src f (k + 1) τ G'
    | .bY c G' => .bY c G'
    | .stuck => .stuck
  | _ => .stuck
noncomputable def jF (gO : D → Option (List D)) (ks : List Bool) (m : DS → M D) (tt : DS → M Bool) (te : DS → M D) : DS → M D := fun τ => (m τ).bind fun d G => match d with
 | .obj k => match G[k]? with
  | some (.lst xs) => oJ gO ks tt te G.length k (xs.length + 1) 0 τ (G ++ [.lst []])
  | _ => .stuck
 | .tup xs => dI gO ks tt te G.length xs τ (G ++ [.lst []])
 | .con xs => dI gO ks tt te G.length xs τ (G ++ [.lst []])
 | .str z => dI gO ks tt te G.length (z.cps.toList.map fun c => .str ⟨#[c]⟩) τ (G ++ [.lst []])
 | _ => .stuck
noncomputable def K9 (CW : List D → Option (List D)) (gO : D → Option (List D)) (ks : List Bool) (m : DS → M (List D)) (tt : DS → M Bool) (te : DS → M D) : DS → M D := fun τ => (m τ).bind fun ds G => match CW ds with
 | some xs => dI gO ks tt te G.length xs τ (G ++ [.lst []])
 | none => .stuck
section
variable {X : Cx} {EE : fK} {gO : D → Option (List D)} {ow : V → Hp → List V → Prop} {xs : List Str} {tg : Expr} {ks : List Bool} {tt : DS → M Bool} {te : DS → M D}
theorem DA {K : PySem.W.Frag} {mg : Str → Option Value} {σ : L2.St} {H : Hp} {τ : DS} {ρ : List Addr} {os : List D} {vs : List V} (h : u7 K mg H ρ σ τ) (r : au K mg ρ H os vs) : u7 K mg H ρ (vs.map some ++ mask ks σ) (os.map some ++ mask ks τ) := by
 have hl := r.length
 refine ⟨by simp [jV, h.1, hl], fun i e he => ?_⟩
 by_cases hi : i < os.length
 ·rw [List.getElem?_append_left (by simpa using hi), List.getElem?_map] at he
  cases q : os[i]? with
  | none => rw [q] at he; cases he
  | some d =>
   rw [q] at he; cases he
   obtain ⟨v, e1, r1⟩ := r.get q
   exact ⟨v, by rw [List.getElem?_append_left (by simp; omega), List.getElem?_map, e1]; rfl, r1⟩
 ·rw [List.getElem?_append_right (by simp; omega)] at he
  obtain ⟨h1, h2⟩ := nh he
  obtain ⟨w, e1, r1⟩ := h.2 _ e h2
  refine ⟨w, ?_, r1⟩
  rw [List.getElem?_append_right (by simp; omega)]
  have := B9 h1 e1
  simpa [hl] using this
noncomputable def wj (EE : fK) (σ : L2.St) : fK := fun c _ H' => EE c σ H'
theorem rq (hO : p8 X.K X.mg ow gO) {W : Hp → Prop} {n : Nat} {p : Addr} {σ : L2.St} {H : Hp} {τ : DS} {ρ : List Addr} {G : DH} {d : D} {v : V} (ab : Ab X.K X.mg σ H τ ρ G) (r : Rep X.K X.mg ρ H d v) (hn : ρ[n]? = some p)
  (hW : match eg gO ks tt te n d τ G with
   | .stuck => False
   | .ok _ G' => ∀ H' ρ', dh X.K H H' ρ ρ' → Ab X.K X.mg σ H' τ ρ' G' → W H'
   | .bY c G' => ∀ H' ρ', dh X.K H H' ρ ρ' → Ab X.K X.mg σ H' τ ρ' G' → EE c σ H') :
  ∃ vs, ow v H vs ∧ liftT X.K X.mg (wj EE σ) tt (vs.map some ++ mask ks σ) H fun b H2 => if b = true then dw X.K X.mg (wj EE σ) te (vs.map some ++ mask ks σ) H2 fun u H3 => ∃ ys, H3 p = some (.lst ys) ∧ ys.length < sizeLine ∧ W (upd H3 p (.lst (ys ++ [u]))) else W H2 := by
 unfold eg at hW
 cases qo : gO d with
 | none => rw [qo] at hW; exact hW.elim
 | some os =>
 rw [qo] at hW
 dsimp only at hW
 obtain ⟨us, DB, Up⟩ := hO ρ H d v os r qo
 refine ⟨us, DB, ?_⟩
 refine ⟨_, ρ, G, ⟨DA ab.st Up, ab.hp⟩, ?_⟩
 cases q : tt (os.map some ++ mask ks τ) G with
 | stuck => rw [q] at hW; exact hW
 | bY c G1 => rw [q] at hW; exact fun H' ρ' f bH => hW H' ρ' f ⟨ab.st.mono f, bH.hp⟩
 | ok b G1 =>
  rw [q] at hW
  intro H1 ρ1 f1 mR
  cases b with
  | false =>
   rw [if_neg Bool.false_ne_true]
   exact hW H1 ρ1 f1 ⟨ab.st.mono f1, mR.hp⟩
  | true =>
   rw [if_pos rfl]
   dsimp only at hW
   refine ⟨_, ρ1, G1, mR, ?_⟩
   cases q2 : te (os.map some ++ mask ks τ) G1 with
   | stuck => rw [q2] at hW; exact hW
   | bY c G2 => rw [q2] at hW; exact fun H' ρ' f bH => hW H' ρ' (f1.trans f) ⟨ab.st.mono (f1.trans f), bH.hp⟩
   | ok u G2 =>
    rw [q2] at hW
    dsimp only at hW
    intro w H2 ρ2 f2 dz r2
    cases q3 : G2[n]? with
    | none => rw [q3] at hW; exact hW.elim
    | some o =>
     cases o with
     | dead => first | (rw [q] at ok; exact ok.elim) | (rw [q] at aK; exact aK.elim) | (rw [q3] at hW; exact hW.elim) | (rw [q] at e; cases e; done) | (rw [g] at ok; exact ok.elim) | (rw [g] at q; cases q; done) | (rw [g] at h; cases h; done) | exact ok.elim
     | dct kv => first | (rw [q] at ok; exact ok.elim) | (rw [q] at aK; exact aK.elim) | (rw [q3] at hW; exact hW.elim) | (rw [q] at e; cases e; done) | (rw [g] at ok; exact ok.elim) | (rw [g] at q; cases q; done) | (rw [g] at h; cases h; done) | exact ok.elim
     | d8 fz kv => first | (rw [q] at ok; exact ok.elim) | (rw [q] at aK; exact aK.elim) | (rw [q3] at hW; exact hW.elim) | (rw [q] at e; cases e; done) | (rw [g] at ok; exact ok.elim) | (rw [g] at q; cases q; done) | (rw [g] at h; cases h; done) | exact ok.elim
     | lst ys =>
      rw [q3] at hW
      dsimp only at hW
      by_cases hl : ys.length < sizeLine
      ·rw [if_pos hl] at hW
       dsimp only at hW
       obtain ⟨p', vs, e1, e2, rs⟩ := dz.hp.lst q3
       have Ic := f1.trans f2
       rw [Ic.get hn] at e1; cases e1
       refine ⟨vs, e2, by rw [← rs.length]; exact hl, ?_⟩
       have f3 : dh X.K H2 (upd H2 p (.lst (vs ++ [w]))) ρ2 ρ2 := xu e2 ρ2
       exact hW _ ρ2 (Ic.trans f3) ⟨ab.st.mono (Ic.trans f3), dz.hp.put (ds := ys) (Ic.get hn) e2 (rs.append (.cons r2 .nil))⟩
      ·rw [if_neg hl] at hW; exact hW.elim
theorem pB (hO : p8 X.K X.mg ow gO) {Q : VK} {J : It} {H0 : Hp} {σ : L2.St} {ρ0 : List Addr} {G0 : DH} {τ : DS} (ds : List D)
  (go : ∀ i H ρ, i < ds.length → dh X.K H0 H ρ0 ρ → J.go i H) (stop : ∀ i H ρ, ds.length ≤ i → dh X.K H0 H ρ0 ρ → J.stop i H)
  (wZ : ∀ i d H ρ x H', ds[i]? = some d → dh X.K H0 H ρ0 ρ → J.wZ i H x H' → zm X.K X.mg H H' ρ ∧ Rep X.K X.mg ρ H' d x)
  (ab : Ab X.K X.mg σ H0 τ ρ0 G0) (ok : lA X.K X.mg EE H0 σ τ ρ0 (dI gO ks tt te G0.length ds τ (G0 ++ [.lst []])) Q) :
  ∀ D, H0 D = none → ∃ W : Nat → Nat → Hp → Prop, (∃ m, W 0 m (upd H0 D (.lst []))) ∧ ∀ i m H, W i m H →
   (J.stop i H ∧ Q (.ref D) H) ∨ (J.go i H ∧ ∀ x H', J.wZ i H x H' → ∃ vs, ow x H' vs ∧ liftT X.K X.mg (wj EE σ) tt (vs.map some ++ mask ks σ) H' fun b H2 => if b = true then dw X.K X.mg (wj EE σ) te (vs.map some ++ mask ks σ) H2 fun v H3 => ∃ ys, H3 D = some (.lst ys) ∧ ys.length < sizeLine ∧ ∃ m', m' < m ∧ W (i + 1) m' (upd H3 D (.lst (ys ++ [v]))) else ∃ m', m' < m ∧ W (i + 1) m' H2) := by
 intro D hD
 have f0 : dh X.K H0 (upd H0 D (.lst [])) ρ0 (ρ0 ++ [D]) := (ef hD ρ0).trans (eV ρ0 D)
 have Ie : Ab X.K X.mg σ (upd H0 D (.lst [])) τ (ρ0 ++ [D]) (G0 ++ [.lst []]) := ab.fut f0 (ab.hp.more hD .nil)
 have hn0 : (ρ0 ++ [D])[G0.length]? = some D := by rw [← ab.hp.hl, aB]
 refine ⟨fun i m H => i ≤ ds.length ∧ m = ds.length - i ∧ ∃ ρ G, Ab X.K X.mg σ H τ ρ G ∧ dh X.K H0 H ρ0 ρ ∧ ρ[G0.length]? = some D ∧ lA X.K X.mg EE H σ τ ρ (dI gO ks tt te G0.length (ds.drop i) τ G) Q,
  ⟨ds.length, Nat.zero_le _, rfl, ρ0 ++ [D], _, Ie, f0, hn0, by simpa using ok.fut f0⟩, ?_⟩
 rintro i m H ⟨hi, rfl, ρ, G, ab, f, hn, ok⟩
 by_cases hlt : i < ds.length
 ·refine .inr ⟨go i H ρ hlt f, fun x H' y => ?_⟩
  obtain ⟨⟨fN, hN⟩, rx⟩ := wZ i ds[i] H ρ x H' (List.getElem?_eq_getElem hlt) f y
  replace ok := lA.fut fN ok
  replace ab : Ab X.K X.mg σ H' τ ρ G := ab.fut fN (hN _ ab.hp)
  replace f := f.trans fN
  rw [List.drop_eq_getElem_cons hlt] at ok
  unfold dI at ok
  refine rq hO (W := fun H3 => ∃ m', m' < ds.length - i ∧ i + 1 ≤ ds.length ∧ m' = ds.length - (i + 1) ∧ ∃ ρ G, Ab X.K X.mg σ H3 τ ρ G ∧ dh X.K H0 H3 ρ0 ρ ∧ ρ[G0.length]? = some D ∧ lA X.K X.mg EE H3 σ τ ρ (dI gO ks tt te G0.length (ds.drop (i + 1)) τ G) Q)
    ab rx hn ?_
  cases e : eg gO ks tt te G0.length ds[i] τ G with
  | stuck => rw [e] at ok; exact ok
  | bY c G' => rw [e] at ok; exact ok
  | ok _ G' =>
   rw [e] at ok
   exact fun H3 ρ3 f3 AO => ⟨ds.length - (i + 1), by omega, hlt, rfl, ρ3, G', AO, f.trans f3, f3.get hn, ok.fut f3⟩
 ·have e : i = ds.length := by omega
  subst e
  refine .inl ⟨stop _ H ρ (Nat.le_refl _) f, ?_⟩
  rw [List.drop_eq_nil_of_le (Nat.le_refl _)] at ok
  exact ok _ H ρ .refl ab (by unfold Rep; exact ⟨D, rfl, hn⟩)
theorem Fc (hO : p8 X.K X.mg ow gO) {Q : VK} {H0 : Hp} {σ : L2.St} {ρ0 : List Addr} {G0 : DH} {τ : DS} {k fuel : Nat} {p : Addr} (hk : ρ0[k]? = some p)
  (ab : Ab X.K X.mg σ H0 τ ρ0 G0) (ok : lA X.K X.mg EE H0 σ τ ρ0 (oJ gO ks tt te G0.length k fuel 0 τ (G0 ++ [.lst []])) Q) :
  ∀ D, H0 D = none → ∃ W : Nat → Nat → Hp → Prop, (∃ m, W 0 m (upd H0 D (.lst []))) ∧ ∀ i m H, W i m H →
   ((GZ X.K p).stop i H ∧ Q (.ref D) H) ∨ ((GZ X.K p).go i H ∧ ∀ x H', (GZ X.K p).wZ i H x H' → ∃ vs, ow x H' vs ∧ liftT X.K X.mg (wj EE σ) tt (vs.map some ++ mask ks σ) H' fun b H2 => if b = true then dw X.K X.mg (wj EE σ) te (vs.map some ++ mask ks σ) H2 fun v H3 => ∃ ys, H3 D = some (.lst ys) ∧ ys.length < sizeLine ∧ ∃ m', m' < m ∧ W (i + 1) m' (upd H3 D (.lst (ys ++ [v]))) else ∃ m', m' < m ∧ W (i + 1) m' H2) := by
 intro D hD
 have f0 : dh X.K H0 (upd H0 D (.lst [])) ρ0 (ρ0 ++ [D]) := (ef hD ρ0).trans (eV ρ0 D)
 have Ie : Ab X.K X.mg σ (upd H0 D (.lst [])) τ (ρ0 ++ [D]) (G0 ++ [.lst []]) := ab.fut f0 (ab.hp.more hD .nil)
 have hn0 : (ρ0 ++ [D])[G0.length]? = some D := by rw [← ab.hp.hl, aB]
 refine ⟨fun i m H => ∃ ρ G, Ab X.K X.mg σ H τ ρ G ∧ dh X.K H0 H ρ0 ρ ∧ ρ[G0.length]? = some D ∧ lA X.K X.mg EE H σ τ ρ (oJ gO ks tt te G0.length k m i τ G) Q,
  ⟨fuel, ρ0 ++ [D], _, Ie, f0, hn0, ok.fut f0⟩, ?_⟩
 rintro i m H ⟨ρ, G, ab, f, hn, ok⟩
 cases m with
 | zero => exact ok.elim
 | succ m =>
  unfold oJ at ok
  cases q : G[k]? with
  | none => rw [q] at ok; exact ok.elim
  | some o =>
   cases o with
   | dead => first | (rw [q] at ok; exact ok.elim) | (rw [q] at aK; exact aK.elim) | (rw [q3] at hW; exact hW.elim) | (rw [q] at e; cases e; done) | (rw [g] at ok; exact ok.elim) | (rw [g] at q; cases q; done) | (rw [g] at h; cases h; done) | exact ok.elim
   | dct kv => first | (rw [q] at ok; exact ok.elim) | (rw [q] at aK; exact aK.elim) | (rw [q3] at hW; exact hW.elim) | (rw [q] at e; cases e; done) | (rw [g] at ok; exact ok.elim) | (rw [g] at q; cases q; done) | (rw [g] at h; cases h; done) | exact ok.elim
   | d8 fz kv => first | (rw [q] at ok; exact ok.elim) | (rw [q] at aK; exact aK.elim) | (rw [q3] at hW; exact hW.elim) | (rw [q] at e; cases e; done) | (rw [g] at ok; exact ok.elim) | (rw [g] at q; cases q; done) | (rw [g] at h; cases h; done) | exact ok.elim
   | lst ds =>
    rw [q] at ok
    dsimp only at ok
    obtain ⟨p', xs, e1, e2, rs⟩ := ab.hp.lst q
    rw [f.get hk] at e1; cases e1
    cases qd : ds[i]? with
    | none =>
     rw [qd] at ok
     have hl : xs.length ≤ i := by rw [← rs.length]; exact List.getElem?_eq_none_iff.mp qd
     exact .inl ⟨⟨xs, .of e2, hl⟩, ok _ H ρ .refl ab (by unfold Rep; exact ⟨D, rfl, hn⟩)⟩
    | some d =>
     rw [qd] at ok
     dsimp only at ok
     obtain ⟨x0, ex, rx⟩ := rs.get qd
     refine .inr ⟨⟨xs, x0, .of e2, ex⟩, fun x H' y => ?_⟩
     obtain ⟨rfl, y⟩ := y
     have e3 := y xs (.of e2)
     rw [ex] at e3; cases e3
     refine rq hO (W := fun H3 => ∃ m', m' < m + 1 ∧ ∃ ρ G, Ab X.K X.mg σ H3 τ ρ G ∧ dh X.K H0 H3 ρ0 ρ ∧ ρ[G0.length]? = some D ∧ lA X.K X.mg EE H3 σ τ ρ (oJ gO ks tt te G0.length k m' (i + 1) τ G) Q)
       ab rx hn ?_
     cases e : eg gO ks tt te G0.length d τ G with
     | stuck => rw [e] at ok; exact ok
     | bY c G' => rw [e] at ok; exact ok
     | ok _ G' =>
      rw [e] at ok
      exact fun H3 ρ3 f3 AO => ⟨m, Nat.lt_succ_self _, ρ3, G', AO, f.trans f3, f3.get hn, ok.fut f3⟩
variable {scope : Scope} {elt iter a b : Expr} {ifs : List Expr} {px pos : Pos} {m : DS → M D}
theorem wk (hO : p8 X.K X.mg ow gO) {σ : L2.St} {H : Hp} {Q : VK} (h : dw X.K X.mg EE (jF gO ks m tt te) σ H Q) :
  Ca (fun σ H R => dw X.K X.mg EE m σ H fun x H1 => (∃ p, x = .ref p ∧ (∃ xs, mH X.K H1 p xs) ∧ R (GZ X.K p) H1) ∨ (∃ p, x = .ref p ∧ (∃ xs, n9 X.K H1 p xs) ∧ R (OV X.K p) H1) ∨ ∃ z, x = .str z ∧ R (HW z) H1) ks ow (liftT X.K X.mg (wj EE σ) tt) (dw X.K X.mg (wj EE σ) te) σ H Q := by
 obtain ⟨τ, ρ, G, ab, ok⟩ := m6 (k := fun τ d G => match d with
  | .obj k => match G[k]? with
   | some (.lst xs) => oJ gO ks tt te G.length k (xs.length + 1) 0 τ (G ++ [.lst []])
   | _ => .stuck
  | .tup xs => dI gO ks tt te G.length xs τ (G ++ [.lst []])
  | .con xs => dI gO ks tt te G.length xs τ (G ++ [.lst []])
  | .str z => dI gO ks tt te G.length (z.cps.toList.map fun c => .str ⟨#[c]⟩) τ (G ++ [.lst []])
  | _ => .stuck) h
 refine ⟨τ, ρ, G, ab, ?_⟩
 cases e : m τ G with
 | stuck => rw [e] at ok; exact ok
 | bY c G' => rw [e] at ok; exact ok
 | ok d G' =>
  rw [e] at ok
  intro v H1 ρ1 f1 mR r1
  obtain ⟨τ2, ρ2, G2, d2, dz, r2, aK⟩ := ok v H1 ρ1 f1 mR r1
  cases d2 <;> try exact aK.elim
  case obj n =>
   dsimp only at aK
   unfold Rep at r2
   obtain ⟨p, rfl, e1⟩ := r2
   cases q : G2[n]? with
   | none => rw [q] at aK; exact aK.elim
   | some o =>
    cases o with
    | dead => first | (rw [q] at ok; exact ok.elim) | (rw [q] at aK; exact aK.elim) | (rw [q3] at hW; exact hW.elim) | (rw [q] at e; cases e; done) | (rw [g] at ok; exact ok.elim) | (rw [g] at q; cases q; done) | (rw [g] at h; cases h; done) | exact ok.elim
    | dct kv => first | (rw [q] at ok; exact ok.elim) | (rw [q] at aK; exact aK.elim) | (rw [q3] at hW; exact hW.elim) | (rw [q] at e; cases e; done) | (rw [g] at ok; exact ok.elim) | (rw [g] at q; cases q; done) | (rw [g] at h; cases h; done) | exact ok.elim
    | d8 fz kv => first | (rw [q] at ok; exact ok.elim) | (rw [q] at aK; exact aK.elim) | (rw [q3] at hW; exact hW.elim) | (rw [q] at e; cases e; done) | (rw [g] at ok; exact ok.elim) | (rw [g] at q; cases q; done) | (rw [g] at h; cases h; done) | exact ok.elim
    | lst xs =>
     rw [q] at aK
     obtain ⟨p', vs, e2, h2, rs⟩ := dz.hp.lst q
     rw [e1] at e2; cases e2
     exact .inl ⟨p, rfl, ⟨vs, .of h2⟩, Fc hO e1 dz aK⟩
  case tup xs =>
   unfold Rep at r2
   obtain ⟨p, vs, rfl, sq, rs⟩ := r2
   refine .inr (.inl ⟨p, rfl, ⟨vs, sq⟩, pB hO xs (fun i H' ρ' hi f => ?_) (fun i H' ρ' hi f => ?_) (fun i d' H' ρ' x Nd hd f y => ?_) dz aK⟩)
   ·rw [rs.length] at hi
    exact ⟨vs, vs[i], f.tup _ _ sq, List.getElem?_eq_getElem hi⟩
   ·exact ⟨vs, f.tup _ _ sq, by rw [← rs.length]; exact hi⟩
   ·obtain ⟨rfl, y⟩ := y
    obtain ⟨w', ew, rw'⟩ := rs.get hd
    have := y vs (f.tup _ _ sq)
    rw [ew] at this; cases this
    exact ⟨.refl, rw'.mono f⟩
  case con xs =>
   unfold Rep at r2
   obtain ⟨p, vs, rfl, sq, rs⟩ := r2
   refine .inl ⟨p, rfl, ⟨vs, sq.seq⟩, pB hO xs (fun i H' ρ' hi f => ?_) (fun i H' ρ' hi f => ?_) (fun i d' H' ρ' x Nd hd f y => ?_) dz aK⟩
   ·rw [rs.length] at hi
    exact ⟨vs, vs[i], (f.con _ _ sq).seq, List.getElem?_eq_getElem hi⟩
   ·exact ⟨vs, (f.con _ _ sq).seq, by rw [← rs.length]; exact hi⟩
   ·obtain ⟨rfl, y⟩ := y
    obtain ⟨w', ew, rw'⟩ := rs.get hd
    have := y vs (f.con _ _ sq).seq
    rw [ew] at this; cases this
    exact ⟨.refl, rw'.mono f⟩
  case str z =>
   unfold Rep at r2; subst r2
   refine .inr (.inr ⟨z, rfl, pB hO (z.cps.toList.map fun c => .str ⟨#[c]⟩) (fun i H' ρ' hi f => ?_) (fun i H' ρ' hi f => ?_) (fun i d' H' ρ' x Nd hd f y => ?_) dz aK⟩)
   ·simpa [HW] using hi
   ·simpa [HW] using hi
   ·obtain ⟨rfl, c, hc, rfl⟩ := y
    rw [List.getElem?_map] at hd
    have : z.cps.toList[i]? = some c := by simpa using hc
    rw [this] at hd
    cases hd
    exact ⟨.refl, by unfold Rep; rfl⟩
noncomputable def rW (X : Cx) (scope : Scope) (xs : List Str) (ifs : List Expr) (elt : Expr) (tt : DS → M Bool) (te : DS → M D) : Prop :=
 ∀ (cl : List (Str × Addr)) (C : Addr) (pins : List (Addr × Obj)) (s0 : Shared) (H0 : Hp) (fp : List Addr) (E : Value → Shared → Prop) (EE : fK), mS (rT X scope cl xs C pins s0 H0 fp E) EE → CT (rT X scope cl xs C pins s0 H0 fp E) ifs (liftT X.K X.mg EE tt) ∧ QE (rT X scope cl xs C pins s0 H0 fp E) EE elt te
noncomputable def p9 : DS → M Bool := fun _ => M.ret true
theorem jA (h : ∀ (cl : List (Str × Addr)) (C : Addr) (pins : List (Addr × Obj)) (s0 : Shared) (H0 : Hp) (fp : List Addr) (E : Value → Shared → Prop) (EE : fK), mS (rT X scope cl xs C pins s0 H0 fp E) EE → QE (rT X scope cl xs C pins s0 H0 fp E) EE elt te) : rW X scope xs [] elt p9 te :=
 fun cl C pins s0 H0 fp E EE hx => ⟨fun jk s σ H Q I ⟨τ, ρ, G, ab, ok⟩ => K4 jk s σ H Q I (ok H ρ .refl ab), h cl C pins s0 H0 fp E EE hx⟩
theorem wm {c : Expr} (h : ∀ (cl : List (Str × Addr)) (C : Addr) (pins : List (Addr × Obj)) (s0 : Shared) (H0 : Hp) (fp : List Addr) (E : Value → Shared → Prop) (EE : fK), mS (rT X scope cl xs C pins s0 H0 fp E) EE → QT (rT X scope cl xs C pins s0 H0 fp E) EE c tt ∧ QE (rT X scope cl xs C pins s0 H0 fp E) EE elt te) : rW X scope xs [c] elt tt te :=
 fun cl C pins s0 H0 fp E EE hx => ⟨K5 (h cl C pins s0 H0 fp E EE hx).1, (h cl C pins s0 H0 fp E EE hx).2⟩
noncomputable def gc (X : Cx) : Prop := ∃ jd jf L, X.stack = jd :: jf ∧ X.env.frame = jd.frame ∧ jd.frame = some L
theorem Ig (hx : mS X EE) (hst : gc X) (S : bV X.env.scope X.N scope xs ks) (how : Own X scope xs ks tg ow) (hO : p8 X.K X.mg ow gO) (hc : X.calm = true) (ha : QE X EE iter m) (hb : rW X scope xs ifs elt tt te) (hs : ∀ x, foldedSetIterable iter X.env x = pure x := by intro _; rfl) :
  QE X EE (.ListComp elt [⟨tg, iter, ifs, 0⟩] scope pos) (jF gO ks m tt te) := PE.mono (Cb (tt := fun σ => liftT X.K X.mg (wj EE σ) tt) (te := fun σ => dw X.K X.mg (wj EE σ) te) hx hst S how hc (PI.any ha) (fun σ cl C pins s0 H0 fp E => hb cl C pins s0 H0 fp E _) hs) fun _ _ _ h => wk hO h
theorem Ih {y : Str} {i : Nat} {py spos : Pos} (hx : mS X EE) (hst : gc X) (S : bV X.env.scope X.N scope xs ks) (how : Own X scope xs ks tg ow) (hO : p8 X.K X.mg ow gO) (hc : X.calm = true) (hN : X.N.Nodup) (ha : QE X EE iter m) (hb : rW X scope xs ifs elt tt te) (hy : X.N[i]? = some y := by rfl) (hl : X.env.scope.names.lookup y = some .local := by rfl)
  (hsw : swapsWith (.ListComp elt [⟨tg, iter, ifs, 0⟩] scope pos) (some (.Name y py)) spos.line X.env = pure true := by rfl) (hs : ∀ x, foldedSetIterable iter X.env x = pure x := by intro _; rfl) :
  QS X EE (.Assign [.Name y py] (.ListComp elt [⟨tg, iter, ifs, 0⟩] scope pos) spos) (bE i (jF gO ks m tt te)) := PS.mono (Cc (tt := fun σ => liftT X.K X.mg (wj EE σ) tt) (te := fun σ => dw X.K X.mg (wj EE σ) te) hx hst S how hc hN (PI.any ha) hy hl hsw (fun σ cl C pins s0 H0 fp E => hb cl C pins s0 H0 fp E _) hs) fun Dd σ H h => by
 obtain ⟨τ, ρ, G, ab, ok⟩ := h
 refine wk hO (EE := EE) (Q := fun v H1 => vW i v σ H1 Dd.nx) ⟨τ, ρ, G, ab, ?_⟩
 dsimp only [bE, bZ] at ok
 cases e : jF gO ks m tt te τ G with
 | stuck => rw [e] at ok; exact ok
 | bY c G' => rw [e] at ok; exact fun H' ρ' f bH => ok σ H' ρ' f bH
 | ok d G' => rw [e] at ok; exact fun v H' ρ' f bH r => ok _ H' ρ' f (bH.set r)
variable {ma : DS → M (List D)}
theorem Fd {me : DS → M D} {t : TE} {i : Nat} (hl : ∀ σ H Q, dw X.K X.mg EE me σ H Q → t σ H Q) {Dd : Ends} {σ : L2.St} {H : Hp} (h : jT X.K X.mg EE (bE i me) Dd σ H) : J9 t (vW i) Dd σ H := by
 obtain ⟨τ, ρ, G, ab, ok⟩ := h
 refine hl σ H (fun v H1 => vW i v σ H1 Dd.nx) ⟨τ, ρ, G, ab, ?_⟩
 dsimp only [bE, bZ] at ok
 cases e : me τ G with
 | stuck => rw [e] at ok; exact ok
 | bY c G' => rw [e] at ok; exact fun H' ρ' f bH => ok σ H' ρ' f bH
 | ok d G' => rw [e] at ok; exact fun v H' ρ' f bH r => ok _ H' ρ' f (bH.set r)
end
end L3
end
section
set_option Elab.async false
set_option linter.all false
set_option maxRecDepth 100000
namespace L3
open PySem PySem.Spec L2
theorem eu {k : Nat} {A : Around} (r : jS k A) : A.units + 600 < cLine := by have := r.un; omega
noncomputable def Jt (K : PySem.W.Frag) : Sp := fun vs H Q _ => ∃ (a : Addr) (ns : List Int), vs = [.ref a] ∧ KN K H a (ns.map V.int) ∧ ns.length ≤ 63 ∧ ∀ H', Q (.bl true) H'
theorem La {K : PySem.W.Frag} {H : Hp} {a : Addr} {xs : List V} (hO : HE H) (h : mH K H a xs) : KN K H a xs := by
 rcases h with (h | ⟨o, h⟩) | h
 ·rcases hO a with z | ⟨o, ys, z⟩
  ·rw [h] at z; cases z
  ·rw [h] at z; cases z
 ·exact .inl ⟨o, h⟩
 ·exact .inr h
theorem Fe {K : PySem.W.Frag} {mg : Str → Option Value} {m : List D → M D} (hm : ∀ ns : List Int, ns.length ≤ 63 → ∃ G, m [.con (ns.map .int)] [] = .ok (.bl true) G) (vs : List V) (H : Hp) (Q : VK) (E : XK) (h : Jt K vs H Q E) : b7 K mg 1 m vs H Q E := by
 obtain ⟨a, ns, rfl, sq, hl, q⟩ := h
 obtain ⟨G, e⟩ := hm ns hl
 refine ⟨[.con (ns.map .int)], [], [], rfl, ⟨rfl, List.nodup_nil, fun n o e => by simp at e⟩, .cons (by unfold Rep; exact ⟨a, _, rfl, sq, .ints ns⟩) .nil, ?_⟩
 rw [e]
 intro v H' ρ' _ _ r
 unfold Rep at r
 subst r
 exact q H'
end L3
end
section
set_option Elab.async false
set_option linter.all false
set_option maxRecDepth 100000
namespace L3
open PySem PySem.Spec L2
noncomputable def eB : Expr → Bool
 | .Starred .. => false
 | _ => true
noncomputable def plainT : Expr → Bool
 | .UnaryOp .Not _ _ => false
 | .BoolOp .. => false
 | .IfExp .. => false
 | .Compare .. => false
 | _ => true
noncomputable def lF : Expr → Bool
 | .Set .. => false
 | _ => true
noncomputable def xH : Expr → Bool
 | .ListComp .. => false
 | .SetComp .. => false
 | .DictComp .. => false
 | _ => true
noncomputable def xJ : Expr → Bool
 | .Call (.Name _ _) [] [] _ => false
 | _ => true
noncomputable def Cd : Expr → Bool
 | .Slice .. => false
 | _ => true
noncomputable def aA : List Expr → Bool
 | [] => true
 | e :: es => eB e && aA es
theorem cP {e : Expr} (h : eB e = true) (es : List Expr) (env : Env) : starEach (e :: es) env = (false, eval e env) :: starEach es env := by
 cases e <;> first | rfl | cases h
theorem DC {e : Expr} (h : plainT e = true) (env : Env) (whole : Sem Value) : isTrue e env whole = (do let v ← whole; standAt e.pos; holding [v] (truthy v)) := by
 cases e <;> first | rfl | cases h | (rename_i op _ _; cases op <;> first | rfl | cases h)
theorem lG {e : Expr} (h : lF e = true) (env : Env) (x : Value) : foldedSetIterable e env x = pure x := by
 cases e <;> first | rfl | cases h
theorem xK {e : Expr} (h : xH e = true) (t : Option Expr) (l : Nat) (env : Env) : swapsWith e t l env = pure false := by
 cases e <;> first | rfl | cases h
theorem nP {e : Expr} (h : xJ e = true) (n : Str) (env : Env) : attributeBase e n env (eval e env) = eval e env := by
 unfold attributeBase
 split
 ·cases h
 ·rfl
theorem NB {e : Expr} (h : Cd e = true) : sU e := fun o i => by
 cases e <;> first | rfl | cases h
theorem Ii {e : Expr} (h : lF e = true) (op : CmpOp) : behindInMarks op e = false := by
 cases e <;> first | rfl | cases h
theorem cK {env : Env} {pos : Pos} : ∀ {es : List Expr}, aA es = true → (backTo pos (starEach es env)).any (·.1) = false
 | [], _ => rfl
 | e :: es, h => by
  have h' : eB e = true ∧ aA es = true := by simpa [aA] using h
  rw [cP h'.1]
  have ih := cK (env := env) (pos := pos) h'.2
  show (false || (backTo pos (starEach es env)).any (·.1)) = false
  rw [ih]; rfl
theorem wo {env : Env} {pos : Pos} : ∀ {es : List Expr}, aA es = true → (backTo pos (starEach es env)).all (fun x => !x.1) = true
 | [], _ => rfl
 | e :: es, h => by
  have h' : eB e = true ∧ aA es = true := by simpa [aA] using h
  rw [cP h'.1]
  have ih := wo (env := env) (pos := pos) h'.2
  show (!false && (backTo pos (starEach es env)).all (fun x => !x.1)) = true
  rw [ih]; rfl
theorem A6 {env : Env} {pos : Pos} {es : List Expr} (h : aA es = true) (hl : es.length < 30) : ((backTo pos (starEach es env)).all (fun x => !x.1) && (backToKw pos (keywordEach [] env)).all (fun x => x.1.isSome)
   && decide (es.length + ([] : List Keyword).length + (if ([] : List Keyword).isEmpty then 0 else 1) < 30)) = true := by
 rw [wo h]
 simp only [Bool.true_and, Bool.and_eq_true, decide_eq_true_eq]
 exact ⟨rfl, by simpa using hl⟩
section
variable {X : Cx} {EE : fK} {a b c e o : Expr} {es : List Expr} {ma mb mc me mo : DS → M D} {pos p apos cpos : Pos} {m : DS → M (List D)} {ms mt : MS} {x : Str} {ks : List Bool} {tt : DS → M Bool} {te : DS → M D}
theorem xM {m : DS → M D} {r : DS → M (List D)} (ha : QE X EE e m) (hr : QA X EE es r) (h : eB e = true := by rfl) : QA X EE (e :: es) (ai m r) := HP ha hr (cP h _ _)
theorem af (i : Nat) (hv : LX X.env.scope x) (hd : (x == ("__debug__" : Str)) = false ∧ (x == ("__classdict__" : Str)) = false) (hN : X.N[i]? = some x := by rfl) : QE X EE (.Name x pos) (ah i) := KQ i hN hv hd.1 hd.2
theorem ao (ha : QE X EE a ma) (hb : QE X EE b mb) (h : Cd b = true := by rfl) : QE X EE (.Subscript a b pos) (ay bQ ma mb) := EO ha hb (NB h)
theorem cz {op : CmpOp} {f : D → D → M D} (ho : ly X (compareOp op) (rD X EE f)) (ha : QE X EE a ma) (hb : QE X EE b mb) (h : lF b = true := by rfl) : QT X EE (.Compare a [op] [b] pos) (je (ay f ma mb)) := KU ho ha hb (Ii h _)
theorem Ff (ha : QE X EE a ma) (h : plainT a = true := by rfl) : QT X EE a (q8 vc ma) := KS ha (DC h _)
theorem ni {id : String} {f : List D → M D} (hc : gU X (.builtin id) (G4 X EE f)) (hm : X.mg x = none) (hg : Gl X x) (hv : bootBuiltins x = some (.builtin id)) (ha : QA X EE (e :: es) m) (hn : x ≠ "__name__" := by decide) (hdb : (x == ("__debug__" : Str)) = false := by decide) (h : aA (e :: es) = true := by rfl) :
  QE X EE (.Call (.Name x p) (e :: es) [] pos) (az f m) := by
 have h' : eB e = true ∧ aA es = true := by simpa [aA] using h
 exact EJ hc tV hm ha hg hv hn hdb (cP h'.1 _ _) (cK h'.2)
theorem wu {id : String} {f : List D → M D} (hc : gU X (.type id) (G4 X EE f)) (hm : X.mg x = none) (hg : Gl X x) (hv : bootBuiltins x = some (.type id)) (ha : QA X EE (e :: es) m) (hn : x ≠ "__name__" := by decide) (hdb : (x == ("__debug__" : Str)) = false := by decide) (h : aA (e :: es) = true := by rfl) :
  QE X EE (.Call (.Name x p) (e :: es) [] pos) (az f m) := by
 have h' : eB e = true ∧ aA es = true := by simpa [aA] using h
 exact Dm hc tV hm ha hg hv hn hdb (cP h'.1 _ _) (cK h'.2)
theorem lH (hm : X.mg "len" = none) (hg : Gl X "len") (ha : QA X EE [e] m) (h : aA [e] = true := by rfl) : QE X EE (.Call (.Name "len" p) [e] [] pos) (az kJ m) := ni Dq hm hg PySem.boot_len ha (by decide) (by decide) h
theorem Lb (hc : X.calm = true) (hm : X.mg "all" = none) (hg : Gl X "all") (ha : QA X EE [e] m) (h : aA [e] = true := by rfl) : QE X EE (.Call (.Name "all" p) [e] [] pos) (az (E0 false) m) := ni (Dr hc) hm hg PyProof.Rows.boot_all ha (by decide) (by decide) h
theorem xN (hc : X.calm = true) (hm : X.mg "max" = none) (hg : Gl X "max") (ha : QA X EE [e, a] m) (h : aA [e, a] = true := by rfl) : QE X EE (.Call (.Name "max" p) [e, a] [] pos) (az (gX fun i j => if j > i then j else i) m) := ni (Dt hc) hm hg PyProof.Rows.boot_max ha (by decide) (by decide) h
theorem Ce (hc : X.calm = true) (hm : X.mg "min" = none) (hg : Gl X "min") (ha : QA X EE [e, a] m) (h : aA [e, a] = true := by rfl) : QE X EE (.Call (.Name "min" p) [e, a] [] pos) (az (gX fun i j => if j < i then j else i) m) := ni (Du hc) hm hg PyProof.Rows.boot_min ha (by decide) (by decide) h
theorem Lc (c : Ty) {pt : Pos} (hc : c ≠ .cj) (hm : X.mg "isinstance" = none) (hmt : X.mg x = none) (hg : Gl X "isinstance") (hgt : Gl X x) (ha : QE X EE a ma) (hb : bootBuiltins x = some (.type c.nm)) (hnt : x ≠ "__name__") (hdt : (x == ("__debug__" : Str)) = false) (h : eB a = true := by rfl) :
  QE X EE (.Call (.Name "isinstance" p) [a, .Name x pt] [] pos) (EZ c ma) := K2 c hc hm hmt ha hb hg hgt hnt hdt (cP h _ _) (cP rfl _ _) (cK (es := [.Name x pt]) rfl)
theorem dJ {CX : BZ} {k n : Nat} {f : Addr} {fd : FuncData} {ps : List Str} {mf : List D → M D} (F : ck X.prog X.w X.K X.mg X.base CX k f fd ps (b7 X.K X.mg n mf)) (hr : jS k X.A) (hm : X.mg x = some (.ref f)) (hk : PySem.W.keepIn X.K (.ref f) = true) (hb : Binds X.K fd ps []) (hx : O3 CX X EE) (hg : Gl X x)
  (hd : (x == ("__debug__" : Str)) = false ∧ (x == ("__classdict__" : Str)) = false) (ha : QA X EE (e :: es) m) (h : aA (e :: es) = true := by rfl) : QE X EE (.Call (.Name x p) (e :: es) [] pos) (cW n mf m) := by
 have h' : eB e = true ∧ aA es = true := by simpa [aA] using h
 exact HZ F hr hm hk hb hx ha hg hd.1 (cP h'.1 _ _) (cK h'.2)
theorem nT (ho : QE X EE o mo) (ha : QA X EE [e] m) (hb : xJ o = true := by rfl) (h : aA [e] = true := by rfl) (hline : (apos.endLine == cpos.line) = true := by rfl) : QE X EE (.Call (.Attribute o "append" apos) [e] [] cpos) (gp "list" iO mo m) := by
 have h' : eB e = true ∧ aA [] = true := by simpa [aA] using h
 exact Dw ho ha (nP hb _ _) (A6 h (by simp)) hline (cP h'.1 _ _) (cK (es := []) rfl)
theorem lI (he : QE X EE a ma) (h : xH a = true := by rfl) : QS X EE (.Expr a pos) (mK ma) := HU he (xK h _ _ _)
theorem aV {i : Nat} {pos' : Pos} (hN : X.N.Nodup) (hx : Loc X.env.scope x) (he : QE X EE a ma) (hf : X.fn x = true ∨ X.env.scope.names.lookup x = some .local) (hi : X.N[i]? = some x := by rfl) (h : xH a = true := by rfl) : QS X EE (.Assign [.Name x pos'] a pos) (bE i ma) := KY hN he hi hx (xK h _ _ _) hf
theorem jn {i : Nat} (hN : X.N.Nodup) (hx : Loc X.env.scope x) (hf : X.fn x = true ∨ X.env.scope.names.lookup x = some .local) (hi : X.N[i]? = some x := by rfl) : QG X (.Name x pos) (gN i) := HV hN hi hx hf
theorem t6 {tg : Expr} {g : pS} {body : List Stmt} (hp : PassesOwn (model X.prog X.w) X.A X.env X.xe) (hc : X.calm = true) (ha : QE X EE a ma) (hg : QG X tg g) (hb : Dk X EE body ms) (h : lF a = true := by rfl) : QS X EE (.For tg a body [] pos) (lD g ma ms) := KZ hp hc ha hg hb (lG h _)
theorem t7 {tg : Expr} {g : pS} {body : List Stmt} {pc : Pos} (hp : PassesOwn (model X.prog X.w) X.A X.env X.xe) (hc : X.calm = true) (hm : X.mg "range" = none) (ze : Gl X "range") (ha : QA X EE [a] m) (hg : QG X tg g) (hb : Dk X EE body ms) (h : eB a = true := by rfl) :
  QS X EE (.For tg (.Call (.Name "range" p) [a] [] pc) body [] pos) (lE xE g m ms) := EY hp hc hm ha hg hb ze (cP h _ _) (lG rfl _)
variable {scope : Scope} {elt iter tg : Expr} {xs : List Str} {ow : V → Hp → List V → Prop} {gO : D → Option (List D)} {ifs : List Expr} {px : Pos}
theorem sX (hx : mS X EE) (hst : gc X) (S : bV X.env.scope X.N scope xs ks) (how : Own X scope xs ks tg ow) (hO : p8 X.K X.mg ow gO) (hc : X.calm = true) (ha : QE X EE iter ma) (hb : rW X scope xs ifs elt tt te) (h : lF iter = true := by rfl) : QE X EE (.ListComp elt [⟨tg, iter, ifs, 0⟩] scope pos) (jF gO ks ma tt te) := Ig hx hst S how hO hc ha hb (lG h _)
theorem Cf {y : Str} {i : Nat} {py spos : Pos} (hx : mS X EE) (hst : gc X) (S : bV X.env.scope X.N scope xs ks) (how : Own X scope xs ks tg ow) (hO : p8 X.K X.mg ow gO) (hc : X.calm = true) (hN : X.N.Nodup) (hl : X.env.scope.names.lookup y = some .local) (ha : QE X EE iter ma) (hb : rW X scope xs ifs elt tt te) (hsw : swapsWith (.ListComp elt [⟨tg, iter, ifs, 0⟩] scope pos) (some (.Name y py)) spos.line X.env = pure true)
  (hy : X.N[i]? = some y := by rfl) (h : lF iter = true := by rfl) : QS X EE (.Assign [.Name y py] (.ListComp elt [⟨tg, iter, ifs, 0⟩] scope pos) spos) (bE i (jF gO ks ma tt te)) := Ih hx hst S how hO hc hN ha hb hy hl hsw (lG h _)
theorem rA {gens : List Comprehension} {y : Str} {py : Pos} {l : Nat} {env : Env} (hb : (env.blockKind == .function) = true) (hl : env.scope.names.lookup y = some .local) (hp : (py.line == pos.line) = true) (hq : (scope.names.any fun x => x.1 == y && (x.2 == .local || x.2 == .cell)) = false) : swapsWith (.ListComp elt gens scope pos) (some (.Name y py)) l env = pure true := by
 unfold swapsWith
 dsimp only
 show (pure (env.blockKind == .function && env.kindOf y == some .local && py.line == pos.line && !(scope.names.any fun x => x.1 == y && (x.2 == .local || x.2 == .cell))) : Sem Bool) = pure true
 have e : (env.kindOf y == some NameKind.local) = true := by rw [show env.kindOf y = some NameKind.local from hl]; rfl
 rw [hb, e, hp, hq]; rfl
theorem jG {cl : List (Str × Addr)} {C : Addr} {pins : List (Addr × Obj)} {s0 : Shared} {H0 : Hp} {fp : List Addr} {E : Value → Shared → Prop} (S : bV X.env.scope X.N scope xs ks) (h : x ∈ xs) : LX (rT X scope cl xs C pins s0 H0 fp E).env.scope x := .inl (tY (cl := cl) (C := C) S h)
theorem qc {cl : List (Str × Addr)} {C : Addr} {pins : List (Addr × Obj)} {s0 : Shared} {H0 : Hp} {fp : List Addr} {E : Value → Shared → Prop} {y : Str} (S : bV X.env.scope X.N scope xs ks) (h : scope.names.lookup y = some .free) : LX (rT X scope cl xs C pins s0 H0 fp E).env.scope y := .inr (rm (cl := cl) (C := C) S h)
end
end L3
end
section
set_option Elab.async false
set_option linter.all false
set_option maxRecDepth 100000
namespace L3
open PySem PySem.Spec L2 Builtin Builtin.Str
section
variable {X : Cx} {EE : fK}
noncomputable def ko : List D → M D
 | [d] => fun G => match aD G d with
  | some (.lst xs) => kE xs G
  | some (.tup xs) => .ok d G
  | _ => .stuck
 | _ => M.stop
theorem DE : gU X (.type "tuple") (G4 X EE ko) := by
 intro pins s σ0 H xs us Q I r ⟨σ, τ, ρ, G, ds, ab, Ea, ok⟩
 match ds, ok with
 | [], ok => exact ok.elim
 | _ :: _ :: _, ok => exact ok.elim
 | [y], ok =>
  obtain ⟨yv, rfl, ry⟩ := jU Ea
  dsimp only [ko] at ok
  cases q : aD G y with
  | none => rw [q] at ok; exact ok.elim
  | some sk =>
   rw [q] at ok
   cases sk with
   | str _ => exact ok.elim
   | tup ys =>
    obtain ⟨p, vs, rfl, sq, rs⟩ := fL ry q
    exact oG pins s σ0 H _ us Q I r ⟨p, vs, rfl, .inr ⟨sq, ok _ H ρ .refl ab ry⟩⟩
   | lst ys =>
    obtain ⟨p, vs, rfl, sq, rs⟩ := cJ (pins := pins) (σ0 := σ0) (s := s) ab.hp ry q
    exact oG pins s σ0 H _ us Q I r ⟨p, vs, rfl, .inl ⟨sq, fun l hl => (xA ab rs ok).2 l hl⟩⟩
noncomputable def lJ : List D → M D
 | [d] => fun G => match aD G d with
  | some (.lst xs) => bU xs G
  | some (.tup xs) => bU xs G
  | _ => .stuck
 | _ => M.stop
theorem DF : gU X (.type "list") (G4 X EE lJ) := by
 intro pins s σ0 H xs us Q I r ⟨σ, τ, ρ, G, ds, ab, Ea, ok⟩
 match ds, ok with
 | [], ok => exact ok.elim
 | _ :: _ :: _, ok => exact ok.elim
 | [y], ok =>
  obtain ⟨yv, rfl, ry⟩ := jU Ea
  dsimp only [lJ] at ok
  cases q : aD G y with
  | none => rw [q] at ok; exact ok.elim
  | some sk =>
   rw [q] at ok
   cases sk with
   | str _ => exact ok.elim
   | tup ys =>
    obtain ⟨p, vs, rfl, sq, rs⟩ := fL ry q
    exact pY pins s σ0 H _ us Q I r ⟨p, vs, rfl, .inr sq, fun l hl => (o9 ab rs ok).2 l hl⟩
   | lst ys =>
    obtain ⟨p, vs, rfl, sq, rs⟩ := cJ (pins := pins) (σ0 := σ0) (s := s) ab.hp ry q
    exact pY pins s σ0 H _ us Q I r ⟨p, vs, rfl, .inl sq, fun l hl => (o9 ab rs ok).2 l hl⟩
variable {x : Str} {p pos apos cpos : Pos} {e o : Expr} {es : List Expr} {m : DS → M (List D)} {mo : DS → M D}
theorem boot_tuple : bootBuiltins "tuple" = some (.type "tuple") := by decide +kernel
theorem boot_list : bootBuiltins "list" = some (.type "list") := by decide +kernel
theorem t8 (hm : X.mg "tuple" = none) (hg : Gl X "tuple") (ha : QA X EE [e] m) (h : aA [e] = true := by rfl) : QE X EE (.Call (.Name "tuple" p) [e] [] pos) (az ko m) := wu DE hm hg boot_tuple ha (by decide) (by decide) h
theorem Cg (hm : X.mg "list" = none) (hg : Gl X "list") (ha : QA X EE [e] m) (h : aA [e] = true := by rfl) : QE X EE (.Call (.Name "list" p) [e] [] pos) (az lJ m) := wu DF hm hg boot_list ha (by decide) (by decide) h
noncomputable def Ld (i n : Nat) (BV : Str → Option (List D → M D)) (m : DS → M (List D)) : DS → M D := fun τ G => match τ[i]? with
 | some (some (.fn y)) => match BV y with
  | some mf => cW n mf m τ G
  | none => .stuck
 | _ => .stuck
end
end L3
end
section
set_option Elab.async false
set_option linter.all false
set_option maxRecDepth 100000
namespace L3
open PySem PySem.Spec L2 Builtin Builtin.Str
section
variable {X : Cx} {EE : fK}
noncomputable def Uq (f : D → M D) (m : DS → M D) : DS → M D := fun τ => (m τ).bind f
variable {o : Expr} {mo : DS → M D} {y z : Str} {j1 j2 : Nat} {p1 p2 apos cpos : Pos}
end
section
end
section
variable {X : Cx} {EE : fK}
variable {p pos apos cpos : Pos} {e o : Expr} {es : List Expr} {m : DS → M (List D)} {mo : DS → M D}
end
end L3
end
section
set_option Elab.async false
set_option linter.all false
set_option maxRecDepth 100000
namespace L3
open PySem PySem.Spec L2
end L3
namespace L3
open PySem PySem.Spec L2
theorem aP {X : Cx} {EE : fK} {e : Expr} {es : List Expr} {m : DS → M D} {r : DS → M (List D)} (ha : QE X EE e m) (h : eB e = true) (hr : QA X EE es r) : QA X EE (e :: es) (ai m r) := xM ha hr h
theorem qe {X : Cx} {EE : fK} {x : Str} {j : Nat} {pos : Pos} {es : List Expr} {r : DS → M (List D)} (hr : QA X EE es r) : QA X EE (.Constant (.str x) j pos :: es) (ai (eC (.str x)) r) := xM ki hr rfl
theorem zo {X : Cx} {EE : fK} {x : Int} {j : Nat} {pos : Pos} {es : List Expr} {r : DS → M (List D)} (hr : QA X EE es r) : QA X EE (.Constant (.int x) j pos :: es) (ai (eC (.int x)) r) := xM aj hr rfl
end L3
end
section
set_option Elab.async false
set_option linter.all false
set_option maxRecDepth 100000
namespace L3
open PySem PySem.Spec L2
theorem A7 : typeLookup (.type "list_reverseiterator") (Str.ofString "__len__") = (pure none : Sem (Option Value)) := by
 rw [typeLookup_type, builtinLookup_eq_fast]; rfl
theorem Fg : typeLookup (.type "list_reverseiterator") (Str.ofString "__length_hint__") = (pure (some (.builtin "list_reverseiterator.__length_hint__")) : Sem (Option Value)) := by
 rw [typeLookup_type, builtinLookup_eq_fast]; rfl
theorem Fi : isSubtype (.type "list_reverseiterator") (.type "list_reverseiterator") = (pure true : Sem Bool) := by
 rw [isSubtype_type]; rfl
theorem Fj {M : Model} {A : Around} {E : Value → Shared → Prop} {s : Shared} {it l : Addr} {i : Int} {Q : Bool → Shared → Prop} (hr : s.heap.IsRevIter it l i) (h : Q false s) : wpAny M A (Builtin.List.listLengthHint (.ref it)) Q E s := by
 have ty : s.TypeIs (.ref it) "list_reverseiterator" := by
  obtain ⟨o, e, c, _⟩ := hr
  exact ⟨o, e, c⟩
 unfold Builtin.List.listLengthHint
 refine wpAny_bind (wpAny_specialOf ty A7 ?_)
 refine wpAny_bind (wpAny_specialOf ty Fg ?_)
 have e1 : splitId "list_reverseiterator.__length_hint__" = some ("list_reverseiterator", "__length_hint__") := by decide +kernel
 dsimp only
 rw [e1]
 dsimp only
 refine wpAny_bind (wpAny_isInstance ty Fi ?_)
 rw [if_neg (by decide)]
 split
 ·rw [if_neg (by decide)]
  exact wpAny_pure h
 ·rename_i hs
  exact absurd (by decide +kernel) hs
theorem A8 {prog : Program} {w : World} {A : Around} {s : Shared} {R : Result → Shared → Prop} {it l : Addr} {items : Array Value} (hh : A.handled = none) (hit : s.heap.IsRevIter it l ((items.size : Int) - 1)) (hl : s.heap.IsList l items) (hne : l ≠ it) (hz : items.size ≤ sizeLine) (S : Addr) (res : Value) (c₀ : Nat)
  (hS : s.heap.get? S = some { cls := .type "list", data := .seq #[] c₀ }) (Ur : S ≠ l)
  (hR : ∀ (s' : Shared) (acc' : Array Value) (c' : Nat), Moved [S, it] (fun a b => b = a) s s' → s'.heap.get? S = some { cls := .type "list", data := .seq acc' c' } → ItemsOf (fun i v => items[items.size - 1 - i]? = some v) acc' items.size → R (.ok (.ret res)) s') :
  wpAny (model prog w) A.in1 (Builtin.List.listExtendWith (.ref S) (.ref it) res) (fun fin s' => match fin with
   | .done f => R (.ok f) s'
   | .again c' => c'.quiet = true ∧ codeAny (model prog w) A c' R s') (fun e s' => R (.error e) s') s := by
 have NC : S ≠ it := by
  rintro rfl
  obtain ⟨o, e, c, d⟩ := hit
  rw [hS] at e; cases e
  exact absurd (Value.type.inj c) (by decide)
 have ty : s.TypeIs (.ref it) "list_reverseiterator" := by
  obtain ⟨o, e, c, _⟩ := hit
  exact ⟨o, e, c⟩
 have Wk := Walks.toS (Walks.listRev (prog := prog) (w := w) (A := A.in1) (show A.in1.handled = none from hh) it l hne items)
 have key := codeAny_extend_loopS Wk hz S (by simp [NC, Ur]) res items.size 0 (R := R)
 unfold Builtin.List.listExtendWith
 refine wpAny_bind (wpAny_typeOf ty ?_)
 have h1 : Builtin.List.listSameRef (.ref S) (.ref it) = false := by simp [Builtin.List.listSameRef, NC]
 rw [if_neg (by rw [h1]; decide)]
 refine wpAny_bind (wpAny_pyIter_revIter hit ?_)
 refine wpAny_bind (wpAny_holding (Fj hit ?_))
 dsimp only
 split
 ·rename_i hs
  exact absurd hs (by decide +kernel)
 ·exact wpAny_pure ⟨plainId_quiet F.plain_extend_loop _, key s #[] c₀ rfl (Nat.zero_le _) ⟨Nat.zero_le _, by simpa using hit, hl⟩ hS (ItemsOf.nil _) hR⟩
theorem vf {prog : Program} {w : World} {A : Around} {E : Value → Shared → Prop} {s : Shared} {it l : Addr} {items : Array Value} {Q : Value → Shared → Prop} (hh : A.handled = none) (hit : s.heap.IsRevIter it l ((items.size : Int) - 1)) (hl : s.heap.IsList l items) (hne : l ≠ it) (hz : items.size ≤ sizeLine)
  (hQ : ∀ (h' : Heap) (tk : Nat) (acc' : Array Value) (c' : Nat), (∀ b o, b ≠ it → s.heap.get? b = some o → h'.get? b = some o) → h'.get? s.heap.objs.size = some { cls := .type "list", data := .seq acc' c' } → ItemsOf (fun i v => items[items.size - 1 - i]? = some v) acc' items.size → Q (.ref s.heap.objs.size) { s with heap := h', toks := tk }) :
  wpAny (model prog w) A (call (.type "list") [.ref it]) Q E s := by
 have Us : l < s.heap.objs.size := by obtain ⟨o, e, _⟩ := hl; exact Heap.lt_size e
 have V5 : it < s.heap.objs.size := by obtain ⟨o, e, _⟩ := hit; exact Heap.lt_size e
 refine callType_codes (Q₁ := fun v s1 => v = .ref s.heap.objs.size ∧ s1 = { s with heap := s.heap.push { cls := .type "list", data := .seq #[] } }) F.called_list (F.typeCall_list_1 (.ref it)) F.entry_list_init (code_list_new (.ref it) ⟨rfl, rfl⟩) fun obj s₁ h₁ => ?_
 obtain ⟨rfl, rfl⟩ := h₁
 have hS := Heap.get?_push_size (o := { cls := .type "list", data := .seq #[] }) s.heap rfl
 refine ⟨⟨_, hS, rfl⟩, F.args_list_init_2 (.ref s.heap.objs.size) (.ref it), ?_⟩
 have kp : ∀ b o, s.heap.get? b = some o → (s.heap.push { cls := .type "list", data := .seq #[] }).get? b = some o := fun b o e => Heap.get?_push_of_some _ e
 unfold Builtin.«list.__init__»
 refine wpAny_bind ?_
 unfold Builtin.List.listItems
 refine wpAny_bind (wpAny_seqItems hS rfl (wpAny_pure ?_))
 refine wpAny_bind ?_
 unfold Builtin.List.listUpdate
 refine wpAny_updateSeq hS rfl ?_ (by simp [sizeLine_eq]) (by simp [sizeLine_eq])
 have Ut := Heap.get?_update_self (Obj.mapSeq fun x => #[]) hS rfl
 have yK : ∀ b o, b ≠ s.heap.objs.size → (s.heap.push { cls := .type "list", data := .seq #[] }).get? b = some o → ((s.heap.push { cls := .type "list", data := .seq #[] }).update s.heap.objs.size (Obj.mapSeq fun x => #[])).get? b = some o := fun b o hb e => (Heap.get?_update_other _ _ (Ne.symm hb)).trans e
 refine wpAny_bind (wpAny_letGo ?_)
 have up : ∀ b o, s.heap.get? b = some o → ((s.heap.push { cls := .type "list", data := .seq #[] }).update s.heap.objs.size (Obj.mapSeq fun x => #[])).get? b = some o := fun b o e => yK b o (Nat.ne_of_lt (Heap.lt_size e)) (kp b o e)
 refine A8 (l := l) (items := items) (show A.in1.handled = none from hh) ?_ ?_ hne hz s.heap.objs.size .none (if ((#[] : Array Value).size == (#[] : Array Value).size) = true then 0 else 0 + 1) ?_ (Nat.ne_of_gt Us) ?_
 ·obtain ⟨o, e, r⟩ := hit
  exact ⟨o, up _ _ e, r⟩
 ·obtain ⟨o, e, r⟩ := hl
  exact ⟨o, up _ _ e, r⟩
 ·exact Ut
 ·intro s' acc' c' hm hS' hacc
  rw [Moved.eq_with hm]
  refine ⟨rfl, hQ s'.heap s'.toks acc' c' (fun b o hb e => ?_) hS' hacc⟩
  refine hm.heap b o ?_ (up b o e)
  simp [hb, Nat.ne_of_lt (Heap.lt_size e)]
end L3
end
section
set_option Elab.async false
set_option linter.all false
set_option maxRecDepth 100000
namespace L3
open PySem PySem.Spec L2
section
variable {X : Cx} {EE : fK} {a b c e o : Expr} {es : List Expr} {ma mb mo : DS → M D} {m : DS → M (List D)} {t : DS → M Bool} {ms : MS} {pos p p2 pos2 apos cpos : Pos}
noncomputable def fuel : Nat := 100000
noncomputable def gZ (t : DS → M Bool) (ms : MS) : Nat → MS
 | 0 => fun _ _ => .stuck
 | n + 1 => fun τ => bZ (t τ) (fun c G => if c = true then (match ms τ G with
   | .nx τ' G' => gZ t ms n τ' G'
   | .ct τ' G' => gZ t ms n τ' G'
   | .bk τ' G' => .nx τ' G'
   | r => r) else .nx τ G) fun c G => .xn c τ G
theorem HL.imp {H : Hp} {σ : L2.St} {τ : DS} {ρ : List Addr} {r : Out Bool} {Q Q' : Bool → Hp → Prop} (h : HL X.K X.mg EE H σ τ ρ r Q) (i : ∀ b H', Q b H' → Q' b H') : HL X.K X.mg EE H σ τ ρ r Q' := by
 cases r with
 | stuck => exact h
 | ok b G => exact fun H' ρ' f ab => i b H' (h H' ρ' f ab)
 | bY c G => exact h
theorem Fl {n : Nat} {body : List Stmt} (hp : PassesOwn (model X.prog X.w) X.A X.env X.xe) (hc : QT X EE c t) (hb : Dk X EE body ms) : QS X EE (.While c body [] pos) (gZ t ms n) := PS.mono (Ej hp hc hb) fun Dd σ H h => by
 obtain ⟨τ0, ρ0, G0, Ie, Uu⟩ := h
 refine ⟨fun m σ H => ∃ τ ρ G, Ab X.K X.mg σ H τ ρ G ∧ u9 X.K X.mg EE H ρ Dd (gZ t ms m τ G), ⟨n, τ0, ρ0, G0, Ie, Uu⟩, ?_⟩
 rintro m σ H ⟨τ, ρ, G, ab, ok⟩
 cases m with
 | zero => exact ok.elim
 | succ m =>
  obtain ⟨τ1, ρ1, G1, mR, L6⟩ := EG (k := fun τ c G => if c = true then (match ms τ G with
   | .nx τ' G' => gZ t ms m τ' G'
   | .ct τ' G' => gZ t ms m τ' G'
   | .bk τ' G' => .nx τ' G'
   | r => r) else .nx τ G) (show jT X.K X.mg EE (fun τ => bZ (t τ) (fun c G => if c = true then (match ms τ G with
   | .nx τ' G' => gZ t ms m τ' G'
   | .ct τ' G' => gZ t ms m τ' G'
   | .bk τ' G' => .nx τ' G'
   | r => r) else .nx τ G) fun c G => .xn c τ G) Dd σ H from ⟨τ, ρ, G, ab, ok⟩)
  refine ⟨τ1, ρ1, G1, mR, L6.imp fun b H1 hq => ?_⟩
  obtain ⟨τ2, ρ2, G2, dz, aK⟩ := hq
  cases b with
  | false =>
   rw [if_neg Bool.false_ne_true] at aK ⊢
   exact aK σ H1 ρ2 .refl dz
  | true =>
   rw [if_pos rfl] at aK ⊢
   refine ⟨fun σ' H' => ∃ τ ρ G, Ab X.K X.mg σ' H' τ ρ G ∧ u9 X.K X.mg EE H' ρ Dd (gZ t ms m τ G), fun σ' H' w => ⟨m, Nat.lt_succ_self _, w⟩, τ2, ρ2, G2, dz, ?_⟩
   cases q : ms τ2 G2 with
   | stuck => rw [q] at aK; exact aK
   | nx τ' G' => rw [q] at aK; exact fun σ' H' ρ' f bH => ⟨τ', ρ', G', bH, aK.fut f⟩
   | ct τ' G' => rw [q] at aK; exact fun σ' H' ρ' f bH => ⟨τ', ρ', G', bH, aK.fut f⟩
   | bk τ' G' => rw [q] at aK; exact aK
   | rt d G' => rw [q] at aK; exact aK
   | xn c τ' G' => rw [q] at aK; exact aK
noncomputable def zp : List D → M D
 | [d] => fun G => match aD G d with
  | some (.lst xs) => bU xs.reverse G
  | _ => .stuck
 | _ => M.stop
theorem zq : bootBuiltins "reversed" = some (.type "reversed") := by decide +kernel
theorem au.rev {K : PySem.W.Frag} {mg : Str → Option Value} {ρ : List Addr} {H : Hp} : ∀ {ds : List D} {vs : List V}, au K mg ρ H ds vs → au K mg ρ H ds.reverse vs.reverse
 | [], vs, h => by unfold au at h; subst h; exact .nil
 | d :: ds, vs, h => by
  unfold au at h
  obtain ⟨v, r, rfl, h1, h2⟩ := h
  rw [List.reverse_cons, List.reverse_cons]
  exact (au.rev h2).append (.cons h1 .nil)
theorem Vals.app : ∀ {xs ys : List V} {us vs : List Value}, Vals xs us → Vals ys vs → Vals (xs ++ ys) (us ++ vs)
 | _, _, _, _, .nil, h => h
 | _, _, _, _, .cons r t, h => .cons r (Vals.app t h)
theorem Vals.rev : ∀ {xs : List V} {us : List Value}, Vals xs us → Vals xs.reverse us.reverse
 | _, _, .nil => .nil
 | _, _, .cons r t => by
  rw [List.reverse_cons, List.reverse_cons]
  exact Vals.app (Vals.rev t) (.cons r .nil)
theorem DG {its : List Value} {acc : Array Value} (h : ItemsOf (fun i v => its.toArray[its.toArray.size - 1 - i]? = some v) acc its.toArray.size) : acc = its.reverse.toArray := by
 obtain ⟨h1, h2⟩ := h
 have hs : its.toArray.size = its.length := by simp
 rw [hs] at h1
 apply Array.ext_getElem?
 intro i
 by_cases hi : i < acc.size
 ·have e := h2 i acc[i] (Array.getElem?_eq_getElem hi)
  rw [Array.getElem?_eq_getElem hi, ← e]
  rw [List.getElem?_toArray, List.getElem?_toArray, List.getElem?_reverse (by omega), hs]
 ·rw [Array.getElem?_eq_none (by omega), Array.getElem?_eq_none (by simp; omega)]
theorem A9 (hc : X.calm = true) (hm1 : X.mg "list" = none) (Uv : Gl X "list") (hm2 : X.mg "reversed" = none) (Qv : Gl X "reversed") (ha : QA X EE [e] m) (h : aA [e] = true := by rfl) :
  QE X EE (.Call (.Name "list" p) [.Call (.Name "reversed" p2) [e] [] pos2] [] pos) (az zp m) := by
 have h' : eB e = true ∧ aA [] = true := by simpa [aA] using h
 intro pins s σ H Q I hq
 have hq' := AN (k := fun _ ds => zp ds) hq
 refine wpAny_Call_Name_kw (jC I Uv hm1 boot_list ?_ (by decide) (by decide))
 refine PyProof.Rows.callWith_type1 ?_ (cP rfl _ _) (cK (es := []) rfl)
 rw [cP (e := .Call (.Name "reversed" p2) [e] [] pos2) rfl]
 show wpAny _ _ (spliced ((false, eval _ X.env) :: backTo pos (starEach [] X.env))) _ _ s
 refine Calls.spliced_cons ?_
 refine wpAny_Call_Name_kw (jC I Qv hm2 zq ?_ (by decide) (by decide))
 refine PyProof.Rows.callWith_type1 (fT (ha pos2 pins s σ H _ I hq') fun us s1 DB => ?_) (cP h'.1 _ _) (cK (es := []) rfl)
 obtain ⟨vs, H1, I1, r1, τ, ρ, G, ds, ab, rs, ok⟩ := DB
 match ds, ok with
 | [], ok => exact ok.elim
 | _ :: _ :: _, ok => exact ok.elim
 | [d], ok =>
  obtain ⟨x, rfl, rx⟩ := jU rs
  obtain ⟨u, rfl, ru⟩ := vals1 r1
  dsimp only [zp] at ok
  cases q : aD G d with
  | none => rw [q] at ok; exact ok.elim
  | some sk =>
   rw [q] at ok
   cases sk with
   | tup zs => exact ok.elim
   | str z => exact ok.elim
   | lst zs =>
    dsimp only at ok
    obtain ⟨l, ys, rfl, sq, rv⟩ := cJ (pins := pins) (σ0 := σ) (s := s1) ab.hp rx q
    cases ru
    obtain ⟨its, vv, pl, hz⟩ := I1.list sq
    have hlen := vv.length
    have hl := pl.isList
    have hlt : l < s1.heap.objs.size := by obtain ⟨_, e, _⟩ := hl; exact Heap.lt_size e
    refine call_reversed_list hl ?_
    refine Calls.spliced_nil ?_
    refine vf (l := l) (items := its.toArray) (show X.A.handled = none from I.ok.hd hc) ⟨_, Heap.get?_push_size _ rfl, rfl, rfl⟩ (hl.push _) (Nat.ne_of_lt hlt) (by simp; omega) fun h' tk acc' c' kp hS hacc => ?_
    have ea := DG hacc
    subst ea
    obtain ⟨hlr, hn⟩ := o9 ab rv.rev ok
    have hsz : (s1.heap.push (revObj l ((its.toArray.size : Int) - 1))).objs.size = s1.heap.objs.size + 1 := Heap.size_push ..
    refine ⟨.ref _, upd H1 _ (.lst ys.reverse), I1.laid (t' := tk) (fun b o e => kp b o (Nat.ne_of_lt (Heap.lt_size e)) (Heap.get?_push_of_some _ e)) ?_ ⟨hlr, its.reverse, c', Vals.rev vv, hS⟩, rfl, hn _ (I1.hok.fresh ?_)⟩
    ·show s1.heap.objs.size ≤ (s1.heap.push _).objs.size
     rw [hsz]; omega
    ·show s1.heap.objs.size ≤ (s1.heap.push _).objs.size
     rw [hsz]; omega
noncomputable def intsOf : List D → Option (List Int)
 | [] => some []
 | .int b :: r => (intsOf r).map (b :: ·)
 | _ :: _ => none
theorem t9 {K : PySem.W.Frag} {mg : Str → Option Value} {ρ : List Addr} {H : Hp} : ∀ {ds : List D} {vs : List V} {us : List Value} {bs : List Int}, au K mg ρ H ds vs → Vals vs us → intsOf ds = some bs → us.length = bs.length ∧ ∀ (i : Nat) (v : Value), us[i]? = some v → ∃ t, v = Value.int (bs.getD i 0) t
 | [], vs, us, bs, r, v, e => by unfold au at r; subst r; cases v; cases e; exact ⟨rfl, fun i v h => by simp at h⟩
 | d :: ds, vs, us, bs, r, v, e => by
  unfold au at r
  obtain ⟨x, r', rfl, h1, h2⟩ := r
  cases v with
  | cons v1 v2 =>
   cases d <;> try (cases e; done)
   rename_i b
   dsimp only [intsOf] at e
   cases q : intsOf ds with
   | none => rw [q] at e; cases e
   | some bs' =>
    rw [q] at e; cases e
    unfold Rep at h1; subst h1
    obtain ⟨t, rfl⟩ := v1
    obtain ⟨hl, hi⟩ := t9 h2 v2 q
    refine ⟨by simp [hl], fun i v h => ?_⟩
    cases i with
    | zero => simp at h; exact ⟨t, by simp [h]⟩
    | succ i => obtain ⟨t', e'⟩ := hi i v (by simpa using h); exact ⟨t', by simpa using e'⟩
theorem preSum_eq (bs : List Int) : ∀ n, n ≤ bs.length → preSum (fun i => bs.getD i 0) n = (bs.take n).sum
 | 0, _ => by simp [preSum]
 | n + 1, h => by
  show preSum (fun i => bs.getD i 0) n + bs.getD n 0 = _
  have : bs[n]? = some bs[n] := List.getElem?_eq_getElem (by omega)
  rw [preSum_eq bs n (by omega), ← List.take_append_getElem (show n < bs.length by omega), List.sum_append, List.getD, this]
  rw [List.sum_singleton]
  rfl
end
end L3
end
section
set_option Elab.async false
set_option linter.all false
set_option maxRecDepth 100000
namespace L3
open PySem PySem.Spec L2
theorem sY {X : Cx} {pins : List (Addr × Obj)} {σ : L2.St} {H : Hp} {s : Shared} {h' : Heap} {t' : Nat} {ch : List Addr} (I : Inv X pins σ H s) (k : ∀ b o, b ∉ ch → s.heap.get? b = some o → h'.get? b = some o) (hf : ∀ b ∈ ch, oZ X pins H b) : Inv X pins σ H { s with heap := h', toks := t' } := by
 have Mr : ∀ b u, H b = some u → b ∉ ch := fun b u e z => by rw [(hf b z).1] at e; cases e
 refine I.step (g' := s.gens) (d' := s.drawn) (ch := ch) (fun b hb => ⟨(hf b hb).2.2.2.1, (hf b hb).2.1, (hf b hb).2.2.2.2.1, (hf b hb).2.2.2.2.2⟩) (fun b o _ _ hc e _ => k b o hc e) (fun b o _ _ hc e _ => ⟨o.slots, k b o hc e⟩) (fun _ _ _ _ n => n)
  (fun b o hc e => ⟨o, k b o hc e⟩) (fun _ _ e => e) (fun _ _ _ e => e) (fun b ps e => ⟨#[], by rw [e]; simp⟩) (fun m hm => ?_) (fun b u e => ?_) I.bare
 ·obtain ⟨o, es, ep, ho, r⟩ := hm
  exact ⟨o, es, ep, k _ o (fun z => (hf _ z).2.1 rfl) ho, r⟩
 ·refine (I.hok b u e).stay (fun c v hc q => k c v ?_ q) (fun _ q => q) fun _ _ q => q
  rcases hc with z | z
  ·rw [z]; exact Mr b u e
  ·exact Mr c _ z
noncomputable abbrev View := DH → Nat → Option (Option D)
noncomputable def JV (K : PySem.W.Frag) (mg : Str → Option Value) (J : It) (vw : View) (H0 : Hp) (ρ0 : List Addr) : Prop :=
 ∀ (i : Nat) (H : Hp) (ρ : List Addr) (G : DH), dh K H0 H ρ0 ρ → iB K mg H ρ G → (vw G i = some none → J.stop i H) ∧
  ∀ d, vw G i = some (some d) → J.go i H ∧ ∀ x H', J.wZ i H x H' → zm K mg H H' ρ ∧ Rep K mg ρ H' d x
noncomputable def nj (g : pS) (body : MS) (vw : View) : Nat → Nat → MS
 | 0, _ => fun _ _ => .stuck
 | f + 1, i => fun τ G => match vw G i with
  | none => .stuck
  | some none => .nx τ G
  | some (some d) => match g d τ with
   | none => .stuck
   | some τ1 => match body τ1 G with
    | .nx τ2 G2 => nj g body vw f (i + 1) τ2 G2
    | .ct τ2 G2 => nj g body vw f (i + 1) τ2 G2
    | .bk τ2 G2 => .nx τ2 G2
    | r => r
noncomputable abbrev MI := DS → M (Nat × View)
noncomputable def Ju (K : PySem.W.Frag) (mg : Str → Option Value) (EE : fK) (mi : MI) : TI := fun σ H R => ∃ τ ρ G, Ab K mg σ H τ ρ G ∧ match mi τ G with
 | .stuck => False
 | .bY c G' => ∀ H' ρ', dh K H H' ρ ρ' → Ab K mg σ H' τ ρ' G' → EE c σ H'
 | .ok (_, vw) G' => ∀ J H' ρ', dh K H H' ρ ρ' → Ab K mg σ H' τ ρ' G' → JV K mg J vw H' ρ' → R J H'
noncomputable def QI (X : Cx) (EE : fK) (tg iter : Expr) (mi : MI) : Prop := PI X tg iter (Ju X.K X.mg EE mi)
section
variable {X : Cx} {EE : fK} {tg iter a b : Expr} {g : pS} {mi : MI} {ms : MS} {pos p pc : Pos} {m : DS → M (List D)}
theorem Fo {body : MS} {vw : View} {Dd : Ends} {J : It} {H0 : Hp} {σ0 : L2.St} {ρ0 : List Addr} {G0 : DH} {τ0 : DS} {fuel : Nat} (jv : JV X.K X.mg J vw H0 ρ0)
  (ab : Ab X.K X.mg σ0 H0 τ0 ρ0 G0) (ok : u9 X.K X.mg EE H0 ρ0 Dd (nj g body vw fuel 0 τ0 G0)) :
  ∃ W : Nat → Nat → L2.St → Hp → Prop, (∃ m, W 0 m σ0 H0) ∧ ∀ i m σ H, W i m σ H →
   (J.stop i H ∧ Dd.nx σ H) ∨ (J.go i H ∧ ∃ N : L2.St → Hp → Prop, (∀ σ' H', N σ' H' → ∃ m', m' < m ∧ W (i + 1) m' σ' H') ∧ ∀ x H', J.wZ i H x H' → zd X.K X.mg g x σ H' fun σ2 H2 => jT X.K X.mg EE body { Dd with nx := N, ct := N, bk := Dd.nx } σ2 H2) := by
 refine ⟨fun i m σ H => ∃ τ ρ G, Ab X.K X.mg σ H τ ρ G ∧ dh X.K H0 H ρ0 ρ ∧ u9 X.K X.mg EE H ρ Dd (nj g body vw m i τ G), ⟨fuel, τ0, ρ0, G0, ab, .refl, ok⟩, ?_⟩
 rintro i m σ H ⟨τ, ρ, G, ab, f, ok⟩
 cases m with
 | zero => exact ok.elim
 | succ m =>
  unfold nj at ok
  obtain ⟨j1, j2⟩ := jv i H ρ G f ab.hp
  cases q : vw G i with
  | none => rw [q] at ok; exact ok.elim
  | some od =>
   rw [q] at ok
   cases od with
   | none => exact .inl ⟨j1 q, ok σ H ρ .refl ab⟩
   | some d =>
    dsimp only at ok
    obtain ⟨jg, jy⟩ := j2 d q
    refine .inr ⟨jg, fun σ' H' => ∃ τ' ρ' G', Ab X.K X.mg σ' H' τ' ρ' G' ∧ dh X.K H0 H' ρ0 ρ' ∧ u9 X.K X.mg EE H' ρ' Dd (nj g body vw m (i + 1) τ' G'), fun σ' H' z => ⟨m, Nat.lt_succ_self _, z⟩, fun x H' y => ?_⟩
    obtain ⟨⟨fN, hN⟩, rx⟩ := jy x H' y
    replace ok := u9.fut fN ok
    replace ab : Ab X.K X.mg σ H' τ ρ G := ab.fut fN (hN _ ab.hp)
    replace f := f.trans fN
    cases e : g d τ with
    | none => rw [e] at ok; exact ok.elim
    | some τ1 =>
     rw [e] at ok
     dsimp only at ok
     refine ⟨τ, ρ, G, d, τ1, ab, rx, e, fun σ' bH => ⟨τ1, ρ, G, bH, ?_⟩⟩
     cases eb : body τ1 G with
     | stuck => rw [eb] at ok; exact ok
     | nx τ2 G2 => rw [eb] at ok; exact fun σ2 H2 ρ2 f2 dz => ⟨τ2, ρ2, G2, dz, f.trans f2, ok.fut f2⟩
     | ct τ2 G2 => rw [eb] at ok; exact fun σ2 H2 ρ2 f2 dz => ⟨τ2, ρ2, G2, dz, f.trans f2, ok.fut f2⟩
     | bk τ2 G2 => rw [eb] at ok; exact ok
     | rt d G2 => rw [eb] at ok; exact ok
     | xn c τ2 G2 => rw [eb] at ok; exact ok
noncomputable def qf (g : pS) (mi : MI) (body : MS) : MS := fun τ => bZ (mi τ) (fun x G => nj g body x.2 x.1 0 τ G) fun c G => .xn c τ G
theorem qg {body : List Stmt} (hp : PassesOwn (model X.prog X.w) X.A X.env X.xe) (hc : X.calm = true) (hi : QI X EE tg iter mi) (hg : QG X tg g) (hb : Dk X EE body ms) (hs : lF iter = true := by rfl) :
  QS X EE (.For tg iter body [] pos) (qf g mi ms) := PS.mono (AG hp hc hi hg hb (lG hs _)) fun Dd σ H h => by
 obtain ⟨τ, ρ, G, ab, ok⟩ := h
 refine ⟨τ, ρ, G, ab, ?_⟩
 dsimp only [qf, bZ] at ok
 cases e : mi τ G with
 | stuck => rw [e] at ok; exact ok
 | bY c G' => rw [e] at ok; exact fun H' ρ' f bH => ok σ H' ρ' f bH
 | ok x G' => rw [e] at ok; exact fun J H' ρ' f bH jv => Fo jv bH (ok.fut f)
noncomputable def nk (gO : D → Option (List D)) (ks : List Bool) (tt : DS → M Bool) (te : DS → M D) (n : Nat) (vw : View) : Nat → Nat → DS → DH → Out D
 | 0, _, _, _ => .stuck
 | f + 1, i, τ, G => match vw G i with
  | none => .stuck
  | some none => .ok (.obj n) G
  | some (some d) => match eg gO ks tt te n d τ G with
   | .ok _ G' => nk gO ks tt te n vw f (i + 1) τ G'
   | .bY c G' => .bY c G'
   | .stuck => .stuck
variable {gO : D → Option (List D)} {ow : V → Hp → List V → Prop} {xs : List Str} {ks : List Bool} {tt : DS → M Bool} {te : DS → M D}
theorem DI (hO : p8 X.K X.mg ow gO) {Q : VK} {J : It} {vw : View} {H0 : Hp} {σ : L2.St} {ρ0 : List Addr} {G0 : DH} {τ : DS} {fuel : Nat} (jv : JV X.K X.mg J vw H0 ρ0)
  (ab : Ab X.K X.mg σ H0 τ ρ0 G0) (ok : lA X.K X.mg EE H0 σ τ ρ0 (nk gO ks tt te G0.length vw fuel 0 τ (G0 ++ [.lst []])) Q) :
  ∀ D, H0 D = none → ∃ W : Nat → Nat → Hp → Prop, (∃ m, W 0 m (upd H0 D (.lst []))) ∧ ∀ i m H, W i m H →
   (J.stop i H ∧ Q (.ref D) H) ∨ (J.go i H ∧ ∀ x H', J.wZ i H x H' → ∃ vs, ow x H' vs ∧ liftT X.K X.mg (wj EE σ) tt (vs.map some ++ mask ks σ) H' fun b H2 => if b = true then dw X.K X.mg (wj EE σ) te (vs.map some ++ mask ks σ) H2 fun v H3 => ∃ ys, H3 D = some (.lst ys) ∧ ys.length < sizeLine ∧ ∃ m', m' < m ∧ W (i + 1) m' (upd H3 D (.lst (ys ++ [v]))) else ∃ m', m' < m ∧ W (i + 1) m' H2) := by
 intro D hD
 have f0 : dh X.K H0 (upd H0 D (.lst [])) ρ0 (ρ0 ++ [D]) := (ef hD ρ0).trans (eV ρ0 D)
 have Ie : Ab X.K X.mg σ (upd H0 D (.lst [])) τ (ρ0 ++ [D]) (G0 ++ [.lst []]) := ab.fut f0 (ab.hp.more hD .nil)
 have hn0 : (ρ0 ++ [D])[G0.length]? = some D := by rw [← ab.hp.hl, aB]
 refine ⟨fun i m H => ∃ ρ G, Ab X.K X.mg σ H τ ρ G ∧ dh X.K H0 H ρ0 ρ ∧ ρ[G0.length]? = some D ∧ lA X.K X.mg EE H σ τ ρ (nk gO ks tt te G0.length vw m i τ G) Q,
  ⟨fuel, ρ0 ++ [D], _, Ie, f0, hn0, ok.fut f0⟩, ?_⟩
 rintro i m H ⟨ρ, G, ab, f, hn, ok⟩
 cases m with
 | zero => exact ok.elim
 | succ m =>
  unfold nk at ok
  obtain ⟨j1, j2⟩ := jv i H ρ G f ab.hp
  cases q : vw G i with
  | none => rw [q] at ok; exact ok.elim
  | some od =>
   rw [q] at ok
   cases od with
   | none => exact .inl ⟨j1 q, ok _ H ρ .refl ab (by unfold Rep; exact ⟨D, rfl, hn⟩)⟩
   | some d =>
    dsimp only at ok
    obtain ⟨jg, jy⟩ := j2 d q
    refine .inr ⟨jg, fun x H' y => ?_⟩
    obtain ⟨⟨fN, hN⟩, rx⟩ := jy x H' y
    replace ok := lA.fut fN ok
    replace ab : Ab X.K X.mg σ H' τ ρ G := ab.fut fN (hN _ ab.hp)
    replace f := f.trans fN
    refine rq hO (W := fun H3 => ∃ m', m' < m + 1 ∧ ∃ ρ G, Ab X.K X.mg σ H3 τ ρ G ∧ dh X.K H0 H3 ρ0 ρ ∧ ρ[G0.length]? = some D ∧ lA X.K X.mg EE H3 σ τ ρ (nk gO ks tt te G0.length vw m' (i + 1) τ G) Q)
      ab rx hn ?_
    cases e : eg gO ks tt te G0.length d τ G with
    | stuck => rw [e] at ok; exact ok
    | bY c G' => rw [e] at ok; exact ok
    | ok _ G' =>
     rw [e] at ok
     exact fun H3 ρ3 f3 AO => ⟨m, Nat.lt_succ_self _, ρ3, G', AO, f.trans f3, f3.get hn, ok.fut f3⟩
noncomputable def nq (gO : D → Option (List D)) (ks : List Bool) (mi : MI) (tt : DS → M Bool) (te : DS → M D) : DS → M D := fun τ => (mi τ).bind fun x G => nk gO ks tt te G.length x.2 x.1 0 τ (G ++ [.lst []])
theorem ua (hO : p8 X.K X.mg ow gO) {σ : L2.St} {H : Hp} {Q : VK} (h : dw X.K X.mg EE (nq gO ks mi tt te) σ H Q) :
  Ca (Ju X.K X.mg EE mi) ks ow (liftT X.K X.mg (wj EE σ) tt) (dw X.K X.mg (wj EE σ) te) σ H Q := by
 obtain ⟨τ, ρ, G, ab, ok⟩ := h
 refine ⟨τ, ρ, G, ab, ?_⟩
 dsimp only [nq, M.bind] at ok
 cases e : mi τ G with
 | stuck => rw [e] at ok; exact ok
 | bY c G' => rw [e] at ok; exact ok
 | ok x G' => rw [e] at ok; exact fun J H' ρ' f bH jv => DI hO jv bH (ok.fut f)
variable {scope : Scope} {elt : Expr} {ifs : List Expr}
theorem Fp (hx : mS X EE) (hst : gc X) (S : bV X.env.scope X.N scope xs ks) (how : Own X scope xs ks tg ow) (hO : p8 X.K X.mg ow gO) (hc : X.calm = true) (ha : QI X EE tg iter mi) (hb : rW X scope xs ifs elt tt te) (hs : lF iter = true := by rfl) :
  QE X EE (.ListComp elt [⟨tg, iter, ifs, 0⟩] scope pos) (nq gO ks mi tt te) := PE.mono (Cb (tt := fun σ => liftT X.K X.mg (wj EE σ) tt) (te := fun σ => dw X.K X.mg (wj EE σ) te) hx hst S how hc ha (fun σ cl C pins s0 H0 fp E => hb cl C pins s0 H0 fp E _) (lG hs _)) fun _ _ _ h => ua hO h
theorem Fq {y : Str} {i : Nat} {py spos : Pos} (hx : mS X EE) (hst : gc X) (S : bV X.env.scope X.N scope xs ks) (how : Own X scope xs ks tg ow) (hO : p8 X.K X.mg ow gO) (hc : X.calm = true) (hN : X.N.Nodup) (hl : X.env.scope.names.lookup y = some .local) (ha : QI X EE tg iter mi) (hb : rW X scope xs ifs elt tt te)
  (hsw : swapsWith (.ListComp elt [⟨tg, iter, ifs, 0⟩] scope pos) (some (.Name y py)) spos.line X.env = pure true) (hy : X.N[i]? = some y := by rfl) (hs : lF iter = true := by rfl) :
  QS X EE (.Assign [.Name y py] (.ListComp elt [⟨tg, iter, ifs, 0⟩] scope pos) spos) (bE i (nq gO ks mi tt te)) :=
 PS.mono (Cc (tt := fun σ => liftT X.K X.mg (wj EE σ) tt) (te := fun σ => dw X.K X.mg (wj EE σ) te) hx hst S how hc hN ha hy hl hsw (fun σ cl C pins s0 H0 fp E => hb cl C pins s0 H0 fp E _) (lG hs _)) fun _ _ _ h => Fd (fun _ _ _ h => ua hO h) h
noncomputable def gP (i j : Nat) : pS := fun d τ => match d with
 | .tup [x, y] => some ((τ.set i (some x)).set j (some y))
 | _ => none
theorem Ci {x y : Str} {i j : Nat} {px py : Pos} {k : Nat} (hc : X.calm = true) (hN : X.N.Nodup) (hx : Loc X.env.scope x) (hy : Loc X.env.scope y) (hfx : X.fn x = true ∨ X.env.scope.names.lookup x = some .local) (Qw : X.fn y = true ∨ X.env.scope.names.lookup y = some .local) (hi : X.N[i]? = some x := by rfl) (hj : X.N[j]? = some y := by rfl) :
  QG X (.Tuple [.Name x px, .Name y py] k pos) (gP i j) := by
 intro pins s σ H v u Q I r ⟨τ, ρ, G, d, τ', ab, rd, e, q⟩
 refine Ei (n := 2) hc (mY (nO hN hi hx hfx) (mY (nO hN hj hy Qw) BX)) rfl rfl pins s σ H v u Q I r ?_
 cases d <;> try (cases e; done)
 rename_i ds
 match ds, e with
 | [d1, d2], e =>
  cases e
  unfold Rep at rd
  obtain ⟨a, vs, rfl, sq, rs⟩ := rd
  obtain ⟨v1, v2, rfl, r1, r2⟩ := B7 rs
  exact ⟨a, [v1, v2], rfl, sq, rfl, v1, [v2], rfl, v2, [], rfl, rfl, q _ (Ab.set (Ab.set ab r1) r2)⟩
noncomputable def Qx (K : PySem.W.Frag) (a : Addr) : It :=
 ⟨fun i H => ∃ xs x, mH K H a xs ∧ xs[i]? = some x, fun i H y H' => ∃ x p, (∀ xs, mH K H a xs → xs[i]? = some x) ∧ H p = none ∧ y = .ref p ∧ H' = upd H p (.tup [.int i, x]), fun i H => ∃ xs, mH K H a xs ∧ xs.length ≤ i⟩
theorem DJ {P : Program} {w : World} {K : PySem.W.Frag} {es : List Expr} {k : Nat} {pt : Pos} (l e it : Addr) (hne : e ≠ it) : Turn P w K (.Tuple es k pt) (Qx K l) [e, it] e (fun i h => ∃ old, IsEnum h e it i old ∧ h.IsListIter it l i) where
 mem := by simp
 obj := fun i h ⟨old, st1, st2⟩ b hb => by
  rcases List.mem_cons.mp hb with rfl | hb
  ·exact ⟨_, st1, fun v z => by cases z⟩
  ·have e : b = it := by simpa using hb
   subst e
   obtain ⟨o, e, c, d⟩ := st2
   exact ⟨o, e, fun v z => by rw [d] at z; cases z⟩
 keep := fun i h h' ⟨old, st1, st2⟩ kp => ⟨old, kp e (by simp) _ st1, st2.at fun o q => kp it (by simp) o q⟩
 item := by
  intro X hP hw hK hc i pins s σ H E I hf ⟨old, st1, st2⟩ hg
  subst hP hw hK
  obtain ⟨xs, x, hq, hx⟩ := hg
  obtain ⟨its, rv, p, hz⟩ := I.list hq
  obtain ⟨u, hu, ru⟩ := rv.get hx
  have Qy : e < s.heap.objs.size := Heap.lt_size st1
  have Le : it < s.heap.objs.size := by obtain ⟨o, q, _⟩ := st2; exact Heap.lt_size q
  refine wpAny_pyNext_enum_item st1 st2 p.isList (x := u) (by simpa using hu) hne fun h' hO hL htup hsz kp => ?_
  refine ⟨.ref s.heap.objs.size, rfl, ?_⟩
  have I1 : Inv X pins σ (upd H s.heap.objs.size (.tup [.int i, x])) { s with heap := s.heap.push { cls := .type "tuple", data := .seq #[.int i s.toks, u] } } :=
   I.laid (t' := s.toks) (fun b o q => Heap.get?_push_of_some _ q) (Nat.le_refl _) ⟨by simp [sizeLine_eq], [.int i s.toks, u], .cons ⟨_, rfl⟩ (.cons ru .nil), PyProof.Rows.IsTup.new _ _⟩
  have hfree := I.hok.fresh (Nat.le_refl s.heap.objs.size)
  have hf1 : ∀ b ∈ [e, it], oZ X pins (upd H s.heap.objs.size (.tup [.int i, x])) b := fun b hb => by
   have hlt : b ≠ s.heap.objs.size := by
    rcases List.mem_cons.mp hb with rfl | hb
    ·exact Nat.ne_of_lt Qy
    ·rw [List.mem_singleton.mp hb]; exact Nat.ne_of_lt Le
   exact ⟨by rw [aJ hlt]; exact (hf b hb).1, (hf b hb).2⟩
  unfold letOwnedTupleGo
  refine wpAny_bind (wpAny_load hO ?_)
  dsimp only
  rw [if_pos (by simp)]
  refine wpAny_bind (wpAny_rule ?_)
  unfold updateField
  refine wpAny_bind (wpAny_load hO ?_)
  dsimp only
  rw [if_pos (by simp)]
  refine wpAny_update hO ?_
  have yK : ∀ b, b ≠ e → (h'.update e (Obj.mapFields fun x => x.setIfInBounds 0 Value.none)).get? b = h'.get? b := fun b hb => Heap.get?_update_other _ _ (Ne.symm hb)
  refine ⟨.ref s.heap.objs.size, _, sY (t' := s.toks + 1) (s := { s with heap := s.heap.push { cls := .type "tuple", data := .seq #[.int i s.toks, u] } }) (ch := [e, it]) I1 (fun b o hb q => ?_) hf1, rfl, ⟨x, s.heap.objs.size, fun ys hy => by rw [I.pU hy hq]; exact hx, hfree, rfl, rfl⟩, ⟨u, ?_, ?_⟩, fun b hb => (hf1 b hb).1⟩
  ·have hb1 : b ≠ e := fun z => hb (by simp [z])
   have hb2 : b ≠ it := fun z => hb (by simp [z])
   show (h'.update e _).get? b = some o
   rw [yK b hb1]
   by_cases ND : b = s.heap.objs.size
   ·subst ND
    have := Heap.get?_push_size (o := { cls := .type "tuple", data := .seq #[.int (i : Int) s.toks, u] }) s.heap rfl
    rw [this] at q; cases q
    exact htup
   ·have q' : (s.heap.push { cls := .type "tuple", data := .seq #[.int (i : Int) s.toks, u] }).get? b = some o := q
    refine kp b o hb1 hb2 ?_
    rwa [Heap.get?_push_ne _ _ _ ND] at q'
  ·show (h'.update e _).get? e = _
   rw [Heap.get?_update_self _ hO rfl]
   rfl
  ·exact hL.at fun o q => (yK it (Ne.symm hne)).trans q
 done := by
  intro X hP hw hK hc i pins s σ H E I hf ⟨old, st1, st2⟩ hg
  subst hP hw hK
  obtain ⟨xs, hq, hx⟩ := hg
  obtain ⟨its, rv, p, hz⟩ := I.list hq
  obtain ⟨f0, f1, f2, f3, f4, f5⟩ := hf it (by simp)
  have hl := rv.length
  exact wpAny_pyNext_enum_end (I.ok.hd hc) st1 st2 p.isList (by simp; omega) fun h' eb => ⟨rfl, I.turned (t' := s.toks) (fun b o hb e => eb b o hb e) f0 f1 f3 f4 f5⟩
 self := fun _ _ _ _ _ ⟨old, st1, _⟩ h => wpAny_pyIter_enum st1 h
noncomputable def nt (d : D) : View := fun G i => match aD G d with
 | some (.lst xs) => some (xs[i]?.map fun x => .tup [.int i, x])
 | _ => none
noncomputable def zu (m : DS → M (List D)) : MI := fun τ => (m τ).bind fun ds => match ds with
 | [d] => fun G => match aD G d with
  | some (.lst xs) => .ok (xs.length + 1, nt d) G
  | _ => .stuck
 | _ => M.stop
theorem wz : bootBuiltins "enumerate" = some (.type "enumerate") := by decide +kernel
theorem Ij {K : PySem.W.Frag} {mg : Str → Option Value} {H0 : Hp} {ρ0 : List Addr} {G0 : DH} {d : D} {l : Addr} (r : Rep K mg ρ0 H0 d (.ref l)) (hd : ∃ xs, aD G0 d = some (.lst xs)) : JV K mg (Qx K l) (nt d) H0 ρ0 := by
 intro i H ρ G f hp
 have key : ∀ zs, aD G d = some (.lst zs) → ∃ xs, mH K H l xs ∧ au K mg ρ H zs xs := fun zs q => by
  have r' := Rep.mono f d _ r
  cases d with
  | con ws =>
   cases q
   unfold Rep at r'
   obtain ⟨a, xs, e, sq, rs⟩ := r'
   cases e
   exact ⟨xs, sq.seq, rs⟩
  | obj n =>
   unfold aD at q
   dsimp only at q
   unfold Rep at r'
   obtain ⟨a, e, e1⟩ := r'
   cases e
   cases g : G[n]? with
   | none => rw [g] at q; cases q
   | some o =>
    cases o with
    | dead => first | (rw [q] at ok; exact ok.elim) | (rw [q] at aK; exact aK.elim) | (rw [q] at e; cases e; done) | (rw [g] at ok; exact ok.elim) | (rw [g] at q; cases q; done) | (rw [g] at h; cases h; done) | (rw [g2] at ok; exact ok.elim) | (rw [g1, g2] at ok; exact ok.elim) | (rw [q1] at ok; exact ok.elim) | exact ok.elim
    | dct kv => first | (rw [q] at ok; exact ok.elim) | (rw [q] at aK; exact aK.elim) | (rw [q] at e; cases e; done) | (rw [g] at ok; exact ok.elim) | (rw [g] at q; cases q; done) | (rw [g] at h; cases h; done) | (rw [g2] at ok; exact ok.elim) | (rw [g1, g2] at ok; exact ok.elim) | (rw [q1] at ok; exact ok.elim) | exact ok.elim
    | d8 fz kv => first | (rw [q] at ok; exact ok.elim) | (rw [q] at aK; exact aK.elim) | (rw [q] at e; cases e; done) | (rw [g] at ok; exact ok.elim) | (rw [g] at q; cases q; done) | (rw [g] at h; cases h; done) | (rw [g2] at ok; exact ok.elim) | (rw [g1, g2] at ok; exact ok.elim) | (rw [q1] at ok; exact ok.elim) | exact ok.elim
    | lst ws =>
     rw [g] at q; cases q
     obtain ⟨a', xs, e2, h2, rs⟩ := hp.lst g
     rw [e1] at e2; cases e2
     exact ⟨xs, .of h2, rs⟩
  | tup ws => cases q
  | str z => cases q
  | _ => cases q
 unfold nt
 cases q : aD G d with
 | none => exact ⟨fun e => (by cases e), fun x e => (by cases e)⟩
 | some sk =>
  cases sk with
  | tup zs => exact ⟨fun e => (by cases e), fun x e => (by cases e)⟩
  | str z => exact ⟨fun e => (by cases e), fun x e => (by cases e)⟩
  | lst zs =>
   obtain ⟨xs, sq, rs⟩ := key zs q
   dsimp only
   constructor
   ·intro e
    cases qi : zs[i]? with
    | some z => rw [qi] at e; cases e
    | none => exact ⟨xs, sq, by rw [← rs.length]; exact List.getElem?_eq_none_iff.mp qi⟩
   ·intro dd e
    cases qi : zs[i]? with
    | none => rw [qi] at e; cases e
    | some z =>
     rw [qi] at e; cases e
     obtain ⟨v, ev, rv⟩ := rs.get qi
     refine ⟨⟨xs, v, sq, ev⟩, fun y H' hy => ?_⟩
     obtain ⟨v', p, ev', hp0, rfl, rfl⟩ := hy
     have ev' := ev' xs sq
     rw [ev] at ev'; cases ev'
     refine ⟨zm.new hp0, ?_⟩
     unfold Rep
     refine ⟨p, [.int i, v], rfl, .of bX, .cons (by unfold Rep; rfl) (.cons (Rep.mono (ef hp0 ρ) _ _ rv) .nil)⟩
theorem Ik {es : List Expr} {k : Nat} {pt : Pos} (hm : X.mg "enumerate" = none) (ze : Gl X "enumerate") (ha : QA X EE [a] m) (h : aA [a] = true := by rfl) : QI X EE (.Tuple es k pt) (.Call (.Name "enumerate" p) [a] [] pc) (zu m) := by
 have h' : eB a = true ∧ aA [] = true := by simpa [aA] using h
 intro pins s σ H R I hq
 obtain ⟨τ, ρ, G, ab, ok⟩ := hq
 dsimp only [zu, M.bind] at ok
 refine wpAny_Call_Name_kw (jC I ze hm wz ?_ (by decide) (by decide))
 have hA : p5 X.K X.mg EE m σ H fun vs H1 => ∃ ρ1 G1 ds, Ab X.K X.mg σ H1 τ ρ1 G1 ∧ dh X.K H H1 ρ ρ1 ∧ au X.K X.mg ρ1 H1 ds vs ∧ m τ G = .ok ds G1 := by
  refine ⟨τ, ρ, G, ab, ?_⟩
  cases e : m τ G with
  | stuck => rw [e] at ok; exact ok
  | bY c G' => rw [e] at ok; exact ok
  | ok ds G' => exact fun vs H' ρ' f bH r => ⟨ρ', G', ds, bH, f, r, rfl⟩
 refine PyProof.Rows.callWith_type1 (fT (ha pc pins s σ H _ I hA) fun us s1 DB => ?_) (cP h'.1 _ _) (cK (es := []) rfl)
 obtain ⟨vs, H1, I1, r1, ρ1, G1, ds, mR, f1, rs, em⟩ := DB
 rw [em] at ok
 dsimp only at ok
 match ds, rs, ok with
 | [], _, ok => exact ok.elim
 | _ :: _ :: _, _, ok => exact ok.elim
 | [d], rs, ok =>
  obtain ⟨x, rfl, rx⟩ := jU rs
  obtain ⟨u, rfl, ru⟩ := vals1 r1
  dsimp only at ok
  cases q : aD G1 d with
  | none => rw [q] at ok; exact ok.elim
  | some sk =>
   rw [q] at ok
   cases sk with
   | tup zs => exact ok.elim
   | str z => exact ok.elim
   | lst zs =>
    dsimp only at ok
    obtain ⟨l, ys, rfl, sq, rv⟩ := cJ (pins := pins) (σ0 := σ) (s := s1) mR.hp rx q
    cases ru
    obtain ⟨its, vv, pl, hz⟩ := I1.list sq
    refine call_enumerate_list pl.isList fun h2 hE hL hsz kp => ?_
    refine wpAny_pyIter_enum hE ?_
    have I2 : Inv X pins σ H1 { s1 with heap := h2 } := I1.kept (t' := s1.toks) kp
    refine ⟨s1.heap.objs.size + 1, [s1.heap.objs.size + 1, s1.heap.objs.size], _, Qx X.K l, H1, rfl, I2, DJ l _ _ (Nat.succ_ne_self _), ⟨_, hE, hL⟩, fun b hb => ?_, ok _ H1 ρ1 f1 mR (Ij rx ⟨zs, q⟩)⟩
    rcases List.mem_cons.mp hb with rfl | hb
    ·exact I1.tH (Nat.le_succ _) (I1.hok.fresh (Nat.le_succ _))
    ·rw [List.mem_singleton.mp hb]
     exact I1.tH (Nat.le_refl _) (I1.hok.fresh (Nat.le_refl _))
end
end L3
end
section
set_option Elab.async false
set_option linter.all false
set_option maxRecDepth 100000
namespace L3
open PySem PySem.Spec L2
theorem lz {n : Nat} (h : n ≤ 2000000) : n ≤ sizeLine := by rw [sizeLine_eq]; omega
theorem vg (A : DH) (x : DO) (B : DH) : (A ++ x :: B)[A.length]? = some x := by simp
theorem Uw (A : DH) (x y : DO) (B : DH) : (A ++ x :: y :: B)[A.length + 1]? = some y := by
 rw [List.getElem?_append_right (by omega)]; simp
theorem G5 (A : DH) (x y : DO) (B : DH) : (A ++ x :: B).set A.length y = A ++ y :: B := by
 rw [List.set_append_right _ _ (Nat.le_refl _)]; simp
theorem Ux (A : DH) (x y z : DO) (B : DH) : (A ++ x :: y :: B).set (A.length + 1) z = A ++ x :: z :: B := by
 rw [List.set_append_right _ _ (by omega)]; simp
theorem jB {G E : DH} {n : Nat} {o : DO} (h : G[n]? = some o) : (G ++ E)[n]? = some o := by
 rw [List.getElem?_append_left (List.getElem?_eq_some_iff.mp h).1]; exact h
theorem fM (g : Bool) (i j : Int) (G : DH) : kD g (.int i) (.int j) G = .ok (.bl (g ^^ (i == j))) G := by
 simp [kD, yY, kF, PyData.canLay0, PyData.depth, PyData.eqv]
theorem sZ (g : Bool) (a b : Str) (G : DH) (ha : PyData.strOk a = true) (hb : PyData.strOk b = true) : kD g (.str a) (.str b) G = .ok (.bl (g ^^ (a == b))) G := by
 simp [kD, yY, kF, PyData.canLay0, PyData.depth, PyData.eqv, ha, hb]
theorem rX (G : DH) : ∀ ws : List Str, bR (kF G deep) (ws.map D.str) = some (ws.map PyData.str)
 | [] => rfl
 | w :: ws => by
  have ih := rX G ws
  simp only [List.map_cons, bR, ih]
  rfl
theorem uc (t : Str) (ws : List Str) (G : DH) (h : PyData.strOk t = true) (hw : PyData.canLayAll0 (ws.map PyData.str) = true) : D9 (.str t) (ws.map D.str) G = some (ws.any (· == t)) := by
 have e1 : kF G deep (.str t) = some (.str t) := rfl
 unfold D9
 rw [e1, rX]
 dsimp only
 have c1 : (PyData.str t).canLay0 = true := by simpa [PyData.canLay0] using h
 have c3 : min (PyData.depthAll (ws.map PyData.str)) (PyData.str t).depth ≤ 580 := by
  have : (PyData.str t).depth ≤ 580 := by simp [PyData.depth]
  omega
 rw [if_pos (by rw [c1, hw]; simpa using c3)]
 simp only [List.any_map]
 congr 1
theorem good_add {a b : Str} (ha : PyData.strOk a = true) (hb : PyData.strOk b = true) : PyData.strOk (a ++ b) = true := by
 have e : (a ++ b).cps = a.cps ++ b.cps := rfl
 unfold PyData.strOk at *
 rw [e, Array.all_append, ha, hb]; rfl
theorem tu (a b : Str) : (a ++ b).length = a.length + b.length := by
 show (a.cps ++ b.cps).size = a.cps.size + b.cps.size
 simp
theorem zw {α : Type} {xs : List α} {i : Int} (h0 : 0 ≤ i) (h1 : i < xs.length) : ∃ v, fY xs i = some v ∧ xs[i.toNat]? = some v := by
 have hi : i.toNat < xs.length := by omega
 refine ⟨xs[i.toNat], ?_, List.getElem?_eq_getElem hi⟩
 have := dH (xs := xs) (j := i.toNat) (v := xs[i.toNat]) (List.getElem?_eq_getElem hi)
 rwa [show ((i.toNat : Nat) : Int) = i by omega] at this
theorem Lf (z : Str) (i : Int) (G : DH) (h0 : 0 ≤ i) (h1 : i < z.length) (hz : z.length ≤ 1000) (hok : PyData.strOk z = true) : ∃ s, bQ (.str z) (.int i) G = .ok (.str s) G ∧ PyData.strOk s = true ∧ s.length = 1 := by
 have hs : z.length ≤ sizeLine := lz (by omega)
 have hl : z.length = z.cps.toList.length := by simp [Str.length]
 have hi : i.toNat < z.cps.toList.length := by omega
 obtain ⟨c, e, ec⟩ := zw (xs := z.cps.toList) (i := i) h0 (by omega)
 refine ⟨⟨#[c]⟩, ?_, ?_, rfl⟩
 ·simp only [bQ, aD, if_pos hs, e]
 ·have h2 : z.cps.toList.all (· < 0x110000) = true := by simpa [PyData.strOk] using hok
  have := List.all_eq_true.mp h2 _ (List.mem_of_getElem? ec)
  simpa [PyData.strOk] using this
theorem xO {j : Int} (h0 : 0 ≤ j) (h1 : j < 100000) : xE [.int j] = some ((List.range' 0 j.toNat).map fun (k : Nat) => .int (0 + (k : Int))) := by
 show (if -(2 ^ 62) ≤ j ∧ j < 2 ^ 62 then some ((List.range j.toNat).map fun (k : Nat) => D.int (0 + (k : Int))) else none) = _
 rw [if_pos ⟨by omega, by omega⟩, List.range_eq_range']
end L3
end
section
set_option Elab.async false
set_option linter.all false
set_option maxRecDepth 100000
namespace L3
open PySem PySem.Spec L2
noncomputable def Res.sq (r : Res) (k : MS) : Res := match r with
 | .nx τ G => k τ G
 | r => r
noncomputable def Out.cs (r : Out Bool) (a b : MS) (τ : DS) : Res := match r with
 | .stuck => .stuck
 | .ok c G => if c = true then a τ G else b τ G
 | .bY c G => .xn c τ G
noncomputable def Out.st (r : Out D) (i : Nat) (τ : DS) : Res := match r with
 | .stuck => .stuck
 | .ok d G => .nx (τ.set i (some d)) G
 | .bY c G => .xn c τ G
noncomputable def Out.xp (r : Out D) (τ : DS) : Res := match r with
 | .stuck => .stuck
 | .ok d G => .nx τ G
 | .bY c G => .xn c τ G
noncomputable def Out.rn (r : Out D) (τ : DS) : Res := match r with
 | .stuck => .stuck
 | .ok d G => .rt d G
 | .bY c G => .xn c τ G
noncomputable def Out.bd {α β : Type} (r : Out α) (k : α → M β) : Out β := match r with
 | .stuck => .stuck
 | .ok a G => k a G
 | .bY c G => .bY c G
noncomputable def Out.sb {α : Type} (r : Out α) (τ : DS) (k : α → DH → Res) : Res := match r with
 | .stuck => .stuck
 | .ok a G => k a G
 | .bY c G => .xn c τ G
noncomputable def Res.fn (r : Res) : Out D := match r with
 | .stuck => .stuck
 | .nx _ G' => .ok .cj G'
 | .rt d G' => .ok d G'
 | .bk _ _ => .stuck
 | .ct _ _ => .stuck
 | .xn c _ G' => .bY c G'
noncomputable def Res.lp (r : Res) (k : MS) : Res := match r with
 | .nx τ G => k τ G
 | .ct τ G => k τ G
 | .bk τ G => .nx τ G
 | r => r
noncomputable def Qz (m k : MS) : MS := fun τ G => (m τ G).lp k
section
variable {m k : MS} {t ta tb : DS → M Bool} {a b : MS} {τ : DS} {G : DH} {e ma mb mo : DS → M D} {i n : Nat} {d : D} {c : XD} {α β : Type} {ml : DS → M (List D)} {f : D → D → M D} {fl : List D → M D}
theorem br : bA m k τ G = (m τ G).sq k := by
 unfold bA Res.sq
 cases m τ G <;> rfl
theorem bJ : (Res.nx τ G).sq k = k τ G := Eq.trans rfl rfl
theorem rY : (Res.rt d G).sq k = .rt d G := Eq.trans rfl rfl
theorem Jv : Res.stuck.sq k = .stuck := Eq.trans rfl rfl
theorem Jw : (Res.bk τ G).sq k = .bk τ G := Eq.trans rfl rfl
theorem Jx : (Res.ct τ G).sq k = .ct τ G := Eq.trans rfl rfl
theorem Jy : (Res.xn c τ G).sq k = .xn c τ G := Eq.trans rfl rfl
theorem rZ : ve t a b τ G = (t τ G).cs a b τ := by
 unfold ve bZ Out.cs
 cases t τ G <;> rfl
theorem zx : (Out.ok true G).cs a b τ = a τ G := Eq.trans rfl rfl
theorem zy : (Out.ok false G).cs a b τ = b τ G := Eq.trans rfl rfl
theorem NF : (Out.bY c G).cs a b τ = .xn c τ G := Eq.trans rfl rfl
theorem cC : bE i e τ G = (e τ G).st i τ := by
 unfold bE bZ Out.st
 cases e τ G <;> rfl
theorem dU : (Out.ok d G).st i τ = .nx (τ.set i (some d)) G := Eq.trans rfl rfl
theorem NG : (Out.bY c G).st i τ = .xn c τ G := Eq.trans rfl rfl
theorem xP : mK e τ G = (e τ G).xp τ := by
 unfold mK bZ Out.xp
 cases e τ G <;> rfl
theorem Jz : (Out.ok d G).xp τ = .nx τ G := Eq.trans rfl rfl
theorem NH : (Out.bY c G).xp τ = .xn c τ G := Eq.trans rfl rfl
theorem iD : gb e τ G = (e τ G).rn τ := by
 unfold gb bZ Out.rn
 cases e τ G <;> rfl
theorem kM : (Out.ok d G).rn τ = .rt d G := Eq.trans rfl rfl
theorem NI : (Out.bY c G).rn τ = .xn c τ G := Eq.trans rfl rfl
theorem jW : gW τ G = .nx τ G := Eq.trans rfl rfl
theorem Cj : Nc τ G = .rt .cj G := Eq.trans rfl rfl
theorem fy {x : α} {q : α → M β} : (Out.ok x G).bd q = q x G := Eq.trans rfl rfl
theorem NJ {q : α → M β} : (Out.bY c G).bd q = .bY c G := Eq.trans rfl rfl
theorem NK {q : α → M β} : (Out.stuck (α := α)).bd q = .stuck := Eq.trans rfl rfl
theorem aI {mm : M α} {q : α → M β} : M.bind mm q G = (mm G).bd q := by
 unfold M.bind Out.bd
 cases mm G <;> rfl
theorem nu {x : α} : M.ret x G = .ok x G := Eq.trans rfl rfl
theorem Ft : (M.stop (α := α)) G = .stuck := Eq.trans rfl rfl
theorem cQ : ah i τ G = match τ[i]? with
 | some (some d) => .ok d G
 | _ => .stuck := Eq.trans rfl rfl
theorem rB : eC d τ G = .ok d G := Eq.trans rfl rfl
theorem qh : ay f ma mb τ G = (ma τ G).bd fun x => (mb τ).bind fun y => f x y := aI
theorem iP : az fl ml τ G = (ml τ G).bd fl := aI
theorem jh : aE τ G = .ok [] G := Eq.trans rfl rfl
theorem jo : ai ma ml τ G = (ma τ G).bd fun x => (ml τ).bind fun xs => M.ret (x :: xs) := aI
noncomputable def NL : D → M Bool
 | .bl b => M.ret b
 | _ => M.stop
theorem Ck : je e τ G = (e τ G).bd NL := by
 unfold je
 rw [aI]
 unfold Out.bd
 cases e τ G <;> try rfl
theorem xQ {b : Bool} : NL (.bl b) G = .ok b G := Eq.trans rfl rfl
theorem zz {q : D → M Bool} : q8 q e τ G = (e τ G).bd q := aI
theorem Cm : Na t τ G = (t τ G).bd fun c => M.ret (!c) := aI
theorem Fv : AU ta tb τ G = (ta τ G).bd fun c => if c = true then M.ret true else tb τ := aI
theorem Cn : kI ta tb τ G = (ta τ G).bd fun c => if c = true then tb τ else M.ret false := aI
theorem Fw {y : Ty} : EZ y e τ G = (e τ G).bd (zf y) := aI
theorem Co {mf : List D → M D} : cW n mf ml τ G = (ml τ G).bd fun ds => if ds.length = n then mf ds else M.stop := aI
theorem zA {T : String} {g : D → List D → M D} : gp T g mo ml τ G = (mo τ G).bd fun d G => if m9 T G d = true then (ml τ G).bd (g d) else .stuck := by
 unfold gp
 rw [aI]
 unfold Out.bd
 cases mo τ G with
 | stuck => rfl
 | bY c G => rfl
 | ok d G' => simp only [aI]; rfl
theorem JA : O2 t ma mb τ G = (t τ G).bd fun c => if c = true then ma τ else mb τ := aI
theorem nU {CW : List D → Option (List D)} {g : pS} {body : MS} : lE CW g ml body τ G = (ml τ G).sb τ fun ds G => match CW ds with
  | some xs => bO g body xs τ G
  | none => .stuck := by
 unfold lE bZ Out.sb
 cases ml τ G <;> rfl
theorem jH {g : pS} {body : MS} : lD g e body τ G = (e τ G).sb τ fun d G => match d with
  | .obj n => match G[n]? with
   | some (.lst xs) => rj g body n (xs.length + 1) 0 τ G
   | _ => .stuck
  | .tup xs => bO g body xs τ G
  | .con xs => bO g body xs τ G
  | .str z => bO g body (z.cps.toList.map fun c => .str ⟨#[c]⟩) τ G
  | _ => .stuck := by
 unfold lD bZ Out.sb
 cases e τ G <;> rfl
theorem nV {g : pS} {mi : MI} {body : MS} : qf g mi body τ G = (mi τ G).sb τ fun x G => nj g body x.2 x.1 0 τ G := by
 unfold qf bZ Out.sb
 cases mi τ G <;> rfl
theorem kN {x : α} {q : α → DH → Res} : (Out.ok x G).sb τ q = q x G := Eq.trans rfl rfl
theorem NN {q : α → DH → Res} : (Out.bY c G).sb τ q = .xn c τ G := Eq.trans rfl rfl
theorem tw {gO : D → Option (List D)} {ks : List Bool} {tt : DS → M Bool} {te : DS → M D} : jF gO ks e tt te τ G = (e τ G).bd fun d G => match d with
  | .obj k => match G[k]? with
   | some (.lst xs) => oJ gO ks tt te G.length k (xs.length + 1) 0 τ (G ++ [.lst []])
   | _ => .stuck
  | .tup xs => dI gO ks tt te G.length xs τ (G ++ [.lst []])
  | .con xs => dI gO ks tt te G.length xs τ (G ++ [.lst []])
  | .str z => dI gO ks tt te G.length (z.cps.toList.map fun c => .str ⟨#[c]⟩) τ (G ++ [.lst []])
  | _ => .stuck := aI
theorem zB {CW : List D → Option (List D)} {gO : D → Option (List D)} {ks : List Bool} {tt : DS → M Bool} {te : DS → M D} : K9 CW gO ks ml tt te τ G = (ml τ G).bd fun ds G => match CW ds with
  | some xs => dI gO ks tt te G.length xs τ (G ++ [.lst []])
  | none => .stuck := aI
theorem zC {gO : D → Option (List D)} {ks : List Bool} {mi : MI} {tt : DS → M Bool} {te : DS → M D} : nq gO ks mi tt te τ G = (mi τ G).bd fun x G => nk gO ks tt te G.length x.2 x.1 0 τ (G ++ [.lst []]) := aI
theorem jI {ds : List D} : fq n m ds G = (m (ds.map some ++ List.replicate (n - ds.length) none) G).fn := by
 unfold fq Res.fn
 cases m (ds.map some ++ List.replicate (n - ds.length) none) G <;> rfl
theorem JB : (Res.nx τ G).fn = .ok .cj G := Eq.trans rfl rfl
theorem jJ : (Res.rt d G).fn = .ok d G := Eq.trans rfl rfl
theorem NO : (Res.xn c τ G).fn = .bY c G := Eq.trans rfl rfl
theorem Fx {lo hi : DS → M (Option Int)} : B6 e lo hi τ G = (e τ G).bd fun d => (lo τ).bind fun l => (hi τ).bind fun h => Az d l h := aI
theorem xR : kH τ G = .ok none G := Eq.trans rfl rfl
noncomputable def JC : D → M (Option Int)
 | .int i => M.ret (some i)
 | _ => M.stop
theorem xS : jD e τ G = (e τ G).bd JC := by
 unfold jD
 rw [aI]
 unfold Out.bd
 cases e τ G <;> try rfl
theorem xT {i : Int} : JC (.int i) G = .ok (some i) G := Eq.trans rfl rfl
noncomputable def NP : D → M D
 | .int i => M.ret (.int (-i))
 | _ => M.stop
theorem Ba : EU e τ G = (e τ G).bd NP := by
 unfold EU
 rw [aI]
 unfold Out.bd
 cases e τ G <;> try rfl
theorem Bb {i : Int} : NP (.int i) G = .ok (.int (-i)) G := Eq.trans rfl rfl
theorem Cp : zu ml τ G = (ml τ G).bd fun ds => match ds with
 | [d] => fun G => match aD G d with
  | some (.lst xs) => .ok (xs.length + 1, nt d) G
  | _ => .stuck
 | _ => M.stop := aI
theorem zD {BV : Str → Option (List D → M D)} : Ld i n BV ml τ G = match τ[i]? with
 | some (some (.fn y)) => match BV y with
  | some mf => cW n mf ml τ G
  | none => .stuck
 | _ => .stuck := Eq.trans rfl rfl
theorem Fy : Qz m k τ G = (m τ G).lp k := Eq.trans rfl rfl
theorem ud : (Res.nx τ G).lp k = k τ G := Eq.trans rfl rfl
theorem JD : (Res.ct τ G).lp k = k τ G := Eq.trans rfl rfl
theorem JE : (Res.bk τ G).lp k = .nx τ G := Eq.trans rfl rfl
theorem JF : (Res.rt d G).lp k = .rt d G := Eq.trans rfl rfl
theorem JG : (Res.xn c τ G).lp k = .xn c τ G := Eq.trans rfl rfl
theorem qj : gZ t m (n + 1) τ G = (t τ G).cs (Qz m (gZ t m n)) gW τ := by
 rw [gZ]
 unfold bZ Out.cs
 dsimp only
 cases t τ G with
 | stuck => rfl
 | bY c G => rfl
 | ok b G' =>
  cases b with
  | false => rfl
  | true =>
   simp only [if_true]
   unfold Qz Res.lp
   cases m τ G' <;> rfl
theorem nW {g : pS} {body : MS} {x : D} {r : List D} {τ1 : DS} (h : g x τ = some τ1) : bO g body (x :: r) τ G = (body τ1 G).lp (bO g body r) := by
 rw [bO, h]
 dsimp only
 unfold Res.lp
 cases body τ1 G <;> rfl
end
end L3
end
section
set_option Elab.async false
set_option linter.all false
set_option maxRecDepth 100000
namespace L3
open PySem PySem.Spec L2
end L3
end
section
set_option Elab.async false
set_option linter.all false
set_option maxRecDepth 100000
namespace L3
open PySem PySem.Spec L2
section
variable {m k mb me : MS} {τ : DS} {G : DH} {e : DS → M D} {c : XD} {x : Str} {ml : DS → M (List D)} {d : D}
theorem zE : E6 x ml τ G = (ml τ G).sb τ fun ds G => if ds.length ≤ sizeLine then .xn (.mk x ds) τ G else .stuck := by
 unfold E6 bZ Out.sb
 cases ml τ G <;> rfl
theorem JH {f : D → M D} : Uq f e τ G = (e τ G).bd f := aI
noncomputable def Res.tr (r : Res) (mh : XD → MS) (me : MS) : Res := match r with
 | .nx τ' G' => me τ' G'
 | .xn c τ' G' => mh c τ' G'
 | r => r
end
end L3
end
section
set_option Elab.async false
set_option linter.all false
set_option maxRecDepth 100000
namespace L3
open PySem PySem.Spec L2
mutual
noncomputable def D.closed : D → Bool
 | .tup ds => aU ds
 | .con ds => aU ds
 | .obj _ => false
 | .u6 _ _ => false
 | _ => true
noncomputable def aU : List D → Bool
 | [] => true
 | d :: r => d.closed && aU r
end
mutual
noncomputable def D.beq : D → D → Bool
 | .cj, .cj => true
 | .bl a, .bl b => a == b
 | .int a, .int b => a == b
 | .str a, .str b => a == b
 | .tup a, .tup b => rC a b
 | .con a, .con b => rC a b
 | .obj a, .obj b => a == b
 | .fn a, .fn b => a == b
 | .u6 a x, .u6 b y => a == b && rC x y
 | _, _ => false
noncomputable def rC : List D → List D → Bool
 | [], [] => true
 | a :: r, b :: q => a.beq b && rC r q
 | _, _ => false
end
noncomputable def ue {κ : Type} [DecidableEq κ] : List (κ × D) → List (κ × D) → Bool
 | [], [] => true
 | a :: r, b :: q => decide (a.1 = b.1) && a.2.beq b.2 && ue r q
 | _, _ => false
noncomputable def DO.beq : DO → DO → Bool
 | .lst a, .lst b => rC a b
 | .dead, .dead => true
 | .dct a, .dct b => ue a b
 | .d8 f a, .d8 g b => (f == g) && ue a b
 | _, _ => false
noncomputable def iw : DH → DH → Bool
 | [], [] => true
 | a :: r, b :: q => a.beq b && iw r q
 | _, _ => false
mutual
theorem D.beq_eq : ∀ (a b : D), a.beq b = true → a = b
 | .cj, b, h => by cases b <;> simp_all [D.beq]
 | .bl a, b, h => by cases b <;> simp_all [D.beq]
 | .int a, b, h => by cases b <;> simp_all [D.beq]
 | .str a, b, h => by cases b <;> simp_all [D.beq]
 | .tup a, b, h => by
  cases b <;> try (simp [D.beq] at h; done)
  rename_i y
  rw [qk a y (by simpa [D.beq] using h)]
 | .con a, b, h => by
  cases b <;> try (simp [D.beq] at h; done)
  rename_i y
  rw [qk a y (by simpa [D.beq] using h)]
 | .obj a, b, h => by cases b <;> simp_all [D.beq]
 | .fn a, b, h => by cases b <;> simp_all [D.beq]
 | .u6 c x, b, h => by
  cases b <;> try (simp [D.beq] at h; done)
  rename_i d y
  have h' : c = d ∧ rC x y = true := by simpa [D.beq] using h
  rw [h'.1, qk x y h'.2]
theorem qk : ∀ (a b : List D), rC a b = true → a = b
 | [], b, h => by cases b <;> simp_all [rC]
 | x :: r, b, h => by
  cases b with
  | nil => simp [rC] at h
  | cons y q =>
   have h' : x.beq y = true ∧ rC r q = true := by simpa [rC] using h
   rw [D.beq_eq x y h'.1, qk r q h'.2]
end
mutual
theorem D.zF : ∀ (a : D), a.beq a = true
 | .cj => rfl
 | .bl a => by simp [D.beq]
 | .int a => by simp [D.beq]
 | .str a => by simp [D.beq]
 | .tup a => by simp [D.beq, kO a]
 | .con a => by simp [D.beq, kO a]
 | .obj a => by simp [D.beq]
 | .fn a => by simp [D.beq]
 | .u6 c x => by simp [D.beq, kO x]
theorem kO : ∀ (a : List D), rC a a = true
 | [] => rfl
 | x :: r => by simp [rC, D.zF x, kO r]
end
theorem rE {κ : Type} [DecidableEq κ] : ∀ (a : List (κ × D)), ue a a = true
 | [] => rfl
 | x :: r => by simp [ue, D.zF x.2, rE r]
theorem xU {κ : Type} [DecidableEq κ] : ∀ (a b : List (κ × D)), ue a b = true → a = b
 | [], b, h => by cases b <;> simp_all [ue]
 | x :: r, b, h => by
  cases b with
  | nil => simp [ue] at h
  | cons y q =>
   have h' : (x.1 = y.1 ∧ x.2.beq y.2 = true) ∧ ue r q = true := by simpa [ue] using h
   rw [xU r q h'.2, Prod.ext h'.1.1 (D.beq_eq _ _ h'.1.2)]
theorem gD : ∀ (a : DH), iw a a = true
 | [] => rfl
 | x :: r => by
  cases x with
  | lst a => simp [iw, DO.beq, kO a, gD r]
  | dead => simp [iw, DO.beq, gD r]
  | dct kv => simp [iw, DO.beq, rE kv, gD r]
  | d8 f kv => simp [iw, DO.beq, rE kv, gD r]
theorem jX : ∀ (a b : DH), iw a b = true → a = b
 | [], b, h => by cases b <;> simp_all [iw]
 | x :: r, b, h => by
  cases b with
  | nil => simp [iw] at h
  | cons y q =>
   have h' : x.beq y = true ∧ iw r q = true := by simpa [iw] using h
   rw [jX r q h'.2]
   congr 1
   cases x with
   | lst u =>
    cases y with
    | lst v => rw [qk u v (by simpa [DO.beq] using h'.1)]
    | dead => simp [DO.beq] at h'
    | dct kv => simp [DO.beq] at h'
    | d8 fz kv => simp [DO.beq] at h'
   | dead =>
    cases y with
    | lst v => simp [DO.beq] at h'
    | dead => rfl
    | dct kv => simp [DO.beq] at h'
    | d8 fz kv => simp [DO.beq] at h'
   | dct kv =>
    cases y with
    | lst v => simp [DO.beq] at h'
    | dead => simp [DO.beq] at h'
    | dct v => rw [xU kv v (by simpa [DO.beq] using h'.1)]
    | d8 g v => simp [DO.beq] at h'
   | d8 f kv =>
    cases y with
    | lst v => simp [DO.beq] at h'
    | dead => simp [DO.beq] at h'
    | dct v => simp [DO.beq] at h'
    | d8 g v =>
     have h2 : f = g ∧ ue kv v = true := by simpa [DO.beq] using h'.1
     rw [h2.1, xU kv v h2.2]
section
variable {K : PySem.W.Frag} {mg : Str → Option Value} {H H' : Hp} {ρ ρ' : List Addr} {G G' : DH}
mutual
theorem pC : ∀ (d : D) (v : V), d.closed = true → Rep K mg ρ H d v → Rep K mg ρ' H d v
 | .cj, v, c, h => by unfold Rep at h ⊢; exact h
 | .bl b, v, c, h => by unfold Rep at h ⊢; exact h
 | .int i, v, c, h => by unfold Rep at h ⊢; exact h
 | .str x, v, c, h => by unfold Rep at h ⊢; exact h
 | .tup ds, v, c, h => by
  unfold Rep at h ⊢
  obtain ⟨a, xs, e, s, r⟩ := h
  exact ⟨a, xs, e, s, gE ds xs (by simpa [D.closed] using c) r⟩
 | .con ds, v, c, h => by
  unfold Rep at h ⊢
  obtain ⟨a, xs, e, s, r⟩ := h
  exact ⟨a, xs, e, s, gE ds xs (by simpa [D.closed] using c) r⟩
 | .obj n, v, c, h => by simp [D.closed] at c
 | .fn x, v, c, h => by unfold Rep at h ⊢; exact h
 | .u6 _ _, v, c, h => by simp [D.closed] at c
theorem gE : ∀ (ds : List D) (vs : List V), aU ds = true → au K mg ρ H ds vs → au K mg ρ' H ds vs
 | [], vs, c, h => by unfold au at h ⊢; exact h
 | d :: ds, vs, c, h => by
  have c' : d.closed = true ∧ aU ds = true := by simpa [aU] using c
  unfold au at h ⊢
  obtain ⟨v, r, e, h1, h2⟩ := h
  exact ⟨v, r, e, pC d v c'.1 h1, gE ds r c'.2 h2⟩
end
mutual
theorem Rep.back (p : ∃ r, ρ' = ρ ++ r) : ∀ (d : D) (v0 v : V), Rep K mg ρ H d v0 → Rep K mg ρ' H' d v → Rep K mg ρ H' d v
 | .cj, v0, v, h0, h => by unfold Rep at h ⊢; exact h
 | .bl b, v0, v, h0, h => by unfold Rep at h ⊢; exact h
 | .int i, v0, v, h0, h => by unfold Rep at h ⊢; exact h
 | .str x, v0, v, h0, h => by unfold Rep at h ⊢; exact h
 | .tup ds, v0, v, h0, h => by
  unfold Rep at h0 h ⊢
  obtain ⟨a, xs, e, s, r⟩ := h
  obtain ⟨a0, Bc, e0, s0, r0⟩ := h0
  exact ⟨a, xs, e, s, au.back p ds Bc xs r0 r⟩
 | .con ds, v0, v, h0, h => by
  unfold Rep at h0 h ⊢
  obtain ⟨a, xs, e, s, r⟩ := h
  obtain ⟨a0, Bc, e0, s0, r0⟩ := h0
  exact ⟨a, xs, e, s, au.back p ds Bc xs r0 r⟩
 | .obj n, v0, v, h0, h => by
  unfold Rep at h0 h ⊢
  obtain ⟨a, e, q⟩ := h
  obtain ⟨a0, e0, q0⟩ := h0
  obtain ⟨r, rfl⟩ := p
  rw [List.getElem?_append_left (List.getElem?_eq_some_iff.mp q0).1] at q
  exact ⟨a, e, q⟩
 | .fn x, v0, v, h0, h => by unfold Rep at h ⊢; exact h
 | .u6 c as, v0, v, h0, h => by unfold Rep at h ⊢; exact h
theorem au.back (p : ∃ r, ρ' = ρ ++ r) : ∀ (ds : List D) (QB vs : List V), au K mg ρ H ds QB → au K mg ρ' H' ds vs → au K mg ρ H' ds vs
 | [], QB, vs, h0, h => by unfold au at h ⊢; exact h
 | d :: ds, QB, vs, h0, h => by
  unfold au at h0 h ⊢
  obtain ⟨v, r, e, h1, h2⟩ := h
  obtain ⟨v0, r0, e0, Nz, Uy⟩ := h0
  exact ⟨v, r, e, Rep.back p d v0 v Nz h1, au.back p ds r0 r Uy h2⟩
end
theorem iB.cut (h : iB K mg H ρ G) (p : ∃ r, ρ' = ρ ++ r) (h' : iB K mg H' ρ' G') (e : G'.take G.length = G) : iB K mg H' ρ G := by
 refine ⟨h.hl, h.nd, fun n o q => ?_⟩
 have hn : n < G.length := (List.getElem?_eq_some_iff.mp q).1
 have q' : G'[n]? = some o := by
  rw [← e, List.getElem?_take] at q
  rw [if_pos hn] at q; exact q
 obtain ⟨a0, e0, r0⟩ := h.ob n o q
 obtain ⟨a, e1, r1⟩ := h'.ob n o q'
 have ea : a = a0 := by
  obtain ⟨r, rfl⟩ := p
  rw [List.getElem?_append_left (by rw [h.hl]; exact hn), e0] at e1
  exact (Option.some.inj e1).symm
 subst ea
 refine ⟨a, e0, ?_⟩
 cases o with
 | dead => exact r1
 | dct kv =>
  obtain ⟨xs, e2, rs⟩ := r1
  obtain ⟨Bc, _, Lg⟩ := r0
  exact ⟨xs, e2, au.back p _ Bc xs Lg rs⟩
 | d8 f kv =>
  obtain ⟨xs, e2, rs⟩ := r1
  obtain ⟨Bc, _, Lg⟩ := r0
  exact ⟨xs, e2, au.back p _ Bc xs Lg rs⟩
 | lst ds =>
  obtain ⟨xs, e2, rs⟩ := r1
  obtain ⟨Bc, _, Lg⟩ := r0
  exact ⟨xs, e2, au.back p ds Bc xs Lg rs⟩
theorem tB {a : Addr} {o : Obj} {xs : List V} (e : H a = some (.lst xs)) (ρ : List Addr) : dh K H (upd H a (.jc o (.lst xs))) ρ ρ := by
 refine ⟨fun b zs h => ?_, fun b zs h => ?_, ⟨[], by simp⟩, fun b φ h => h.upd e rfl⟩
 ·exact (by rw [yJ, aJ (gT h e (by intro z; cases z))]; exact h)
 ·rcases h with ⟨q, h⟩ | h
  ·exact .inl ⟨q, by rw [aJ (gT h e (by intro z; cases z))]; exact h⟩
  ·exact .inr h
theorem iB.jc {n : Nat} {a : Addr} {o : Obj} {xs : List V} (h : iB K mg H ρ G) (hn : ρ[n]? = some a) (e : H a = some (.lst xs)) : iB K mg (upd H a (.jc o (.lst xs))) ρ (G.set n .dead) := by
 have f : dh K H (upd H a (.jc o (.lst xs))) ρ ρ := tB e ρ
 refine ⟨by simp [h.hl], h.nd, fun m ob q => ?_⟩
 by_cases hm : n = m
 ·subst hm
  rw [List.getElem?_set, if_pos rfl] at q
  split at q
  ·cases q
   exact ⟨a, hn, _, bX⟩
  ·cases q
 ·rw [List.getElem?_set_ne hm] at q
  obtain ⟨b, e1, r'⟩ := h.ob m ob q
  have hb : b ≠ a := by
   rintro rfl
   obtain ⟨h1, xw⟩ := List.getElem?_eq_some_iff.mp hn
   obtain ⟨h2, D8⟩ := List.getElem?_eq_some_iff.mp e1
   exact hm ((List.getElem_inj h.nd).mp (xw.trans D8.symm))
  exact ⟨b, e1, r'.mono f fun u q => by rw [aJ hb]; exact q⟩
end
section
variable {X : Cx} {EE : fK}
theorem Cq {pins : List (Addr × Obj)} {σ : L2.St} {H : Hp} {s : Shared} {a : Addr} {xs : List V} (I : Inv X pins σ H s) (e : H a = some (.lst xs)) : ∃ o, Inv X pins σ (upd H a (.jc o (.lst xs))) s := by
 obtain ⟨z, its, n, r, hg⟩ := I.hok a _ e
 refine ⟨_, I.un (H' := upd H a (.jc { cls := .type "list", data := .seq its.toArray n } (.lst xs))) (h' := s.heap) (t' := s.toks) ⟨fun b o q _ _ _ => q, fun b o q _ _ _ => ⟨o.slots, q⟩, fun b o q hn _ => ?_, fun b o q _ => ⟨o, q⟩, fun b ys q => ?_, fun b o u q => ?_, fun b ps q => ⟨#[], ?_⟩⟩ fun b u q => ?_⟩
 ·rw [aJ (by rintro rfl; rw [e] at hn; cases hn)]; exact hn
 ·rw [aJ (gT q e (by intro z; cases z))]; exact q
 ·rw [aJ (gT q e (by intro z; cases z))]; exact q
 ·rw [aJ (gT q e (by intro z; cases z)), q]; simp
 ·have ho : ∀ c y, H c = some (.own y) → upd H a (.jc { cls := .type "list", data := .seq its.toArray n } (.lst xs)) c = some (.own y) := fun c y w => by rw [aJ (gT w e (by intro z; cases z))]; exact w
  have ht : ∀ c ys, H c = some (.tup ys) → upd H a (.jc { cls := .type "list", data := .seq its.toArray n } (.lst xs)) c = some (.tup ys) := fun c ys w => by rw [aJ (gT w e (by intro z; cases z))]; exact w
  by_cases hb : b = a
  ·subst hb
   rw [bX] at q; cases q
   exact ⟨hg, (I.hok b _ e).stay (fun _ _ _ w => w) (fun c w => ho c b w) ht⟩
  ·rw [aJ hb] at q
   exact (I.hok b u q).stay (fun _ _ _ w => w) (fun c w => ho c b w) ht
noncomputable def JI (m : DS → M D) : DS → M D := fun τ G => match m τ G with
 | .ok (.obj n) G' => match G'[n]? with
  | some (.lst ds) => .ok (.con ds) (G'.set n .dead)
  | _ => .stuck
 | r => r
noncomputable def eFn (m : DS → M D) : DS → M D := fun τ G => match m τ G with
 | .ok (.obj n) G' => match G'[n]? with
  | some (.lst ds) => if n = G.length ∧ G'.length = n + 1 ∧ iw (G'.take G.length) G = true ∧ aU ds = true then .ok (.con ds) G else .stuck
  | _ => .stuck
 | r => r
theorem Fz {pins : List (Addr × Obj)} {σ : L2.St} {Q Q' : VK} {u : Value} {s : Shared} (h : EP X pins σ Q' u s) (hq : ∀ v H', Q' v H' → Q v H' ∨ ∃ a xs, v = .ref a ∧ H' a = some (.lst xs) ∧ ∀ o, Q v (upd H' a (.jc o (.lst xs)))) : EP X pins σ Q u s := by
 obtain ⟨v, H', I, r, q⟩ := h
 rcases hq v H' q with q | ⟨a, xs, rfl, e, q⟩
 ·exact ⟨v, H', I, r, q⟩
 ·obtain ⟨o, I'⟩ := Cq I e
  exact ⟨_, _, I', r, q o⟩
theorem FA {e : Expr} {m : DS → M D} (ha : QE X EE e m) : QE X EE e (JI m) := by
 intro pins s σ H Q I ⟨τ, ρ, G, ab, ok⟩
 dsimp only [JI] at ok
 cases q : m τ G with
 | stuck => rw [q] at ok; exact ok.elim
 | bY c G' => rw [q] at ok; exact ha pins s σ H Q I ⟨τ, ρ, G, ab, by rw [q]; exact ok⟩
 | ok d G' =>
  rw [q] at ok
  by_cases hd : ∃ n, d = .obj n
  ·obtain ⟨n, rfl⟩ := hd
   dsimp only at ok
   cases g : G'[n]? with
   | none => rw [g] at ok; exact ok.elim
   | some o =>
    rw [g] at ok
    cases o with
    | dead => exact ok.elim
    | dct kv => exact ok.elim
    | d8 fz kv => exact ok.elim
    | lst ds =>
     refine fT (ha pins s σ H (fun v H' => ∃ a xs, v = .ref a ∧ H' a = some (.lst xs) ∧ ∀ o, Q v (upd H' a (.jc o (.lst xs)))) I ⟨τ, ρ, G, ab, ?_⟩) fun u s' h => Fz h fun v H' q => .inr q
     rw [q]
     intro v H' ρ' f bH r
     unfold Rep at r
     obtain ⟨a, rfl, hn⟩ := r
     obtain ⟨a', xs, e1, e2, rs⟩ := bH.hp.lst g
     rw [hn] at e1; cases e1
     refine ⟨a, xs, rfl, e2, fun ob => ?_⟩
     have f2 : dh X.K H' (upd H' a (.jc ob (.lst xs))) ρ' ρ' := tB e2 ρ'
     refine ok _ _ ρ' (f.trans f2) ⟨bH.st.mono f2, bH.hp.jc hn e2⟩ ?_
     unfold Rep
     exact ⟨a, xs, rfl, .inl ⟨ob, bX⟩, rs.mono f2⟩
  ·have ok' : lA X.K X.mg EE H σ τ ρ (.ok d G') Q := by
    cases d <;> first | exact ok | exact absurd ⟨_, rfl⟩ hd
   exact ha pins s σ H Q I ⟨τ, ρ, G, ab, by rw [q]; exact ok'⟩
theorem cR {e : Expr} {m : DS → M D} (ha : QE X EE e m) : QE X EE e (eFn m) := by
 intro pins s σ H Q I ⟨τ, ρ, G, ab, ok⟩
 dsimp only [eFn] at ok
 cases q : m τ G with
 | stuck => rw [q] at ok; exact ok.elim
 | bY c G' => rw [q] at ok; exact ha pins s σ H Q I ⟨τ, ρ, G, ab, by rw [q]; exact ok⟩
 | ok d G' =>
  rw [q] at ok
  by_cases hd : ∃ n, d = .obj n
  ·obtain ⟨n, rfl⟩ := hd
   dsimp only at ok
   cases g : G'[n]? with
   | none => rw [g] at ok; exact ok.elim
   | some o =>
    rw [g] at ok
    cases o with
    | dead => exact ok.elim
    | dct kv => exact ok.elim
    | d8 fz kv => exact ok.elim
    | lst ds =>
     dsimp only at ok
     by_cases hc : n = G.length ∧ G'.length = n + 1 ∧ iw (G'.take G.length) G = true ∧ aU ds = true
     ·rw [if_pos hc] at ok
      obtain ⟨hn0, hl, hb, hcl⟩ := hc
      refine fT (ha pins s σ H (fun v H' => ∃ a xs, v = .ref a ∧ H' a = some (.lst xs) ∧ ∀ o, Q v (upd H' a (.jc o (.lst xs)))) I ⟨τ, ρ, G, ab, ?_⟩) fun u s' h => Fz h fun v H' q => .inr q
      rw [q]
      intro v H' ρ' f bH r
      unfold Rep at r
      obtain ⟨a, rfl, hn⟩ := r
      obtain ⟨a', xs, e1, e2, rs⟩ := bH.hp.lst g
      rw [hn] at e1; cases e1
      refine ⟨a, xs, rfl, e2, fun ob => ?_⟩
      have f2 : dh X.K H' (upd H' a (.jc ob (.lst xs))) ρ' ρ' := tB e2 ρ'
      have f3 : dh X.K H (upd H' a (.jc ob (.lst xs))) ρ ρ := ⟨fun b ys w => f2.tup b ys (f.tup b ys w), fun b ys w => f2.con b ys (f.con b ys w), ⟨[], by simp⟩, fun b φ w => f2.ext b φ (f.ext b φ w)⟩
      have hp2 := bH.hp.jc (o := ob) hn e2
      have vh : iB X.K X.mg (upd H' a (.jc ob (.lst xs))) ρ G := ab.hp.cut f.pre hp2 (by
       rw [List.take_set_of_le (by omega)]
       exact jX _ _ hb)
      refine ok _ _ ρ f3 ⟨ab.st.mono f3, vh⟩ ?_
      unfold Rep
      exact ⟨a, xs, rfl, .inl ⟨ob, bX⟩, gE ds xs hcl (rs.mono f2)⟩
     ·rw [if_neg hc] at ok; exact ok.elim
  ·have ok' : lA X.K X.mg EE H σ τ ρ (.ok d G') Q := by
    cases d <;> first | exact ok | exact absurd ⟨_, rfl⟩ hd
   exact ha pins s σ H Q I ⟨τ, ρ, G, ab, by rw [q]; exact ok'⟩
end
noncomputable def iY (m : List D → M D) : List D → M D := fun ds G => match m ds G with
 | .ok d G' => if iw (G'.take G.length) G = true ∧ d.closed = true then .ok d G else .stuck
 | .bY c G' => if iw (G'.take G.length) G = true then .bY c G else .stuck
 | .stuck => .stuck
noncomputable def xV (m : List D → M D) : List D → M D := fun ds G => match m ds G with
 | .ok (.obj n) G' => match G'[n]? with
  | some (.lst xs) => if iw (G'.take G.length) G = true ∧ G.length ≤ n ∧ aU xs = true then .ok (.obj G.length) (G ++ [.lst xs]) else .stuck
  | _ => .stuck
 | .bY c G' => if iw (G'.take G.length) G = true then .bY c G else .stuck
 | _ => .stuck
section
variable {K : PySem.W.Frag} {mg : Str → Option Value} {n : Nat} {m : List D → M D}
theorem kP {H H' : Hp} {ρ ρ' : List Addr} (f : dh K H H' ρ ρ') : dh K H H' ρ ρ := ⟨f.tup, f.con, ⟨[], by simp⟩, f.ext⟩
theorem gi (vs : List V) (H : Hp) (Q : VK) (E : XK) (h : b7 K mg n (iY m) vs H Q E) : b7 K mg n m vs H Q E := by
 obtain ⟨ds, ρ, G, hl, hp, rs, ok⟩ := h
 refine ⟨ds, ρ, G, hl, hp, rs, ?_⟩
 dsimp only [iY] at ok
 cases q : m ds G with
 | stuck => rw [q] at ok; exact ok
 | ok d G' =>
  rw [q] at ok
  dsimp only at ok
  by_cases hc : iw (G'.take G.length) G = true ∧ d.closed = true
  ·rw [if_pos hc] at ok
   intro v H' ρ' f AA r
   exact ok v H' ρ (kP f) (hp.cut f.pre AA (jX _ _ hc.1)) (pC d v hc.2 r)
  ·rw [if_neg hc] at ok; exact ok.elim
 | bY c G' =>
  rw [q] at ok
  dsimp only at ok
  by_cases hc : iw (G'.take G.length) G = true
  ·rw [if_pos hc] at ok
   intro cls H' ρ' hcl f AA
   exact ok cls H' ρ hcl (kP f) (hp.cut f.pre AA (jX _ _ hc))
  ·rw [if_neg hc] at ok; exact ok.elim
theorem FD (vs : List V) (H : Hp) (Q : VK) (E : XK) (h : b7 K mg n (xV m) vs H Q E) : b7 K mg n m vs H Q E := by
 obtain ⟨ds, ρ, G, hl, hp, rs, ok⟩ := h
 refine ⟨ds, ρ, G, hl, hp, rs, ?_⟩
 dsimp only [xV] at ok
 cases q : m ds G with
 | stuck => rw [q] at ok; exact ok
 | bY c G' =>
  rw [q] at ok
  dsimp only at ok
  by_cases hc : iw (G'.take G.length) G = true
  ·rw [if_pos hc] at ok
   intro cls H' ρ' hcl f AA
   exact ok cls H' ρ hcl (kP f) (hp.cut f.pre AA (jX _ _ hc))
  ·rw [if_neg hc] at ok; exact ok.elim
 | ok d G' =>
  rw [q] at ok
  cases d <;> try exact ok.elim
  rename_i k
  dsimp only at ok
  cases g : G'[k]? with
  | none => rw [g] at ok; exact ok.elim
  | some o =>
   rw [g] at ok
   cases o with
   | dead => exact ok.elim
   | dct kv => exact ok.elim
   | d8 fz kv => exact ok.elim
   | lst xs =>
    dsimp only at ok
    by_cases hc : iw (G'.take G.length) G = true ∧ G.length ≤ k ∧ aU xs = true
    ·rw [if_pos hc] at ok
     intro v H' ρ' f AA r
     unfold Rep at r
     obtain ⟨a, rfl, hn⟩ := r
     obtain ⟨a', ys, e1, e2, rs'⟩ := AA.lst g
     rw [hn] at e1; cases e1
     have hp2 := hp.cut f.pre AA (jX _ _ hc.1)
     have hna : a ∉ ρ := by
      intro hm
      obtain ⟨j, hj, ej⟩ := List.getElem_of_mem hm
      obtain ⟨r, rfl⟩ := f.pre
      obtain ⟨h1, xw⟩ := List.getElem?_eq_some_iff.mp hn
      have hjl : j < (ρ ++ r).length := by simp; omega
      have : (ρ ++ r)[j] = (ρ ++ r)[k] := by rw [xw, List.getElem_append_left hj, ej]
      have := (List.getElem_inj AA.nd).mp this
      have := hp.hl
      omega
     refine ok (.ref a) H' (ρ ++ [a]) ((kP f).trans (eV ρ a)) ?_ (by unfold Rep; exact ⟨a, rfl, by rw [← hp.hl]; simp⟩)
     refine ⟨by simp [hp.hl], ?_, fun j ob e => ?_⟩
     ·rw [List.nodup_append]
      refine ⟨hp.nd, by simp, fun x hx y hy => ?_⟩
      have e : y = a := by simpa using hy
      subst e
      rintro rfl
      exact hna hx
     ·by_cases hj : j < G.length
      ·rw [List.getElem?_append_left hj] at e
       obtain ⟨b, e3, r3⟩ := hp2.ob j ob e
       exact ⟨b, (eV (K := K) (H := H') ρ a).get e3, r3.mono (eV ρ a) fun u q => q⟩
      ·have hl2 : j < (G ++ [DO.lst xs]).length := (List.getElem?_eq_some_iff.mp e).1
       have hj' : j = G.length := by simp at hl2; omega
       subst hj'
       rw [aB] at e
       cases e
       exact ⟨a, by rw [← hp.hl, aB], ys, e2, gE xs ys hc.2.2 rs'⟩
    ·rw [if_neg hc] at ok; exact ok.elim
end
end L3
end
section
set_option Elab.async false
set_option linter.all false
set_option maxRecDepth 100000
namespace L3
open PySem PySem.Spec L2
noncomputable def C3 (K : PySem.W.Frag) (a : Addr) (n : Nat) : It :=
 ⟨fun i H => ∃ xs x, mH K H a xs ∧ xs.length = n ∧ i < n ∧ xs[n - 1 - i]? = some x, fun i H y H' => H' = H ∧ ∀ xs, mH K H a xs → xs[n - 1 - i]? = some y, fun i H => i = n⟩
theorem FE {P : Program} {w : World} {K : PySem.W.Frag} {tg : Expr} (a it : Addr) (n : Nat) : Turn P w K tg (C3 K a n) [it] it (fun i h => h.IsRevIter it a ((n : Int) - 1 - (i : Int))) where
 mem := by simp
 obj := fun i h st b hb => by
  have e : b = it := by simpa using hb
  subst e
  obtain ⟨o, e, c, d⟩ := st
  exact ⟨o, e, fun v z => by rw [d] at z; cases z⟩
 keep := fun i h h' st k => st.at fun o e => k it (by simp) o e
 item := by
  intro X hP hw hK hc i pins s σ H E I hf st hg
  subst hP hw hK
  obtain ⟨xs, x, hq, hn, hi, hx⟩ := hg
  obtain ⟨its, rv, p, hz⟩ := I.list hq
  obtain ⟨u, hu, ru⟩ := rv.get hx
  obtain ⟨f0, f1, f2, f3, f4, f5⟩ := hf it (by simp)
  have e : (n : Int) - 1 - (i : Int) = ((n - 1 - i : Nat) : Int) := by omega
  rw [e] at st
  refine wpAny_pyNext_rev_item st p.isList (x := u) (by simpa using hu) fun h' st' sb => ?_
  have I1 : Inv X pins σ H { s with heap := h' } := I.turned (t' := s.toks) (fun b o hb e => (sb.2 b hb).trans e) f0 f1 f3 f4 f5
  have e2 : ((n - 1 - i : Nat) : Int) - 1 = (n : Int) - 1 - ((i + 1 : Nat) : Int) := by omega
  rw [e2] at st'
  obtain ⟨o, e, c, d⟩ := id st'
  exact ⟨u, rfl, vX (s := { s with heap := h' }) e c d (by decide) ⟨x, H, I1, ru, ⟨rfl, fun ys hy => by rw [I.pU hy hq]; exact hx⟩, st', fun b hb => (hf b hb).1⟩⟩
 done := by
  intro X hP hw hK hc i pins s σ H E I hf st hg
  subst hP hw hK
  have hi : i = n := hg
  subst hi
  obtain ⟨f0, f1, f2, f3, f4, f5⟩ := hf it (by simp)
  rw [show (i : Int) - 1 - (i : Int) = -1 by omega] at st
  exact wpAny_pyNext_rev_end (I.ok.hd hc) st fun h' eb => ⟨rfl, I.turned (t' := s.toks) (fun b o hb e => eb b o hb e) f0 f1 f3 f4 f5⟩
 self := fun _ _ _ _ _ st h => wpAny_pyIter_revIter st h
noncomputable def Bd (d : D) (n : Nat) : View := fun G i => match aD G d with
 | some (.lst xs) => if xs.length = n then (if i = n then some none else if i < n then some xs[n - 1 - i]? else none) else none
 | _ => none
noncomputable def Il (m : DS → M (List D)) : MI := fun τ => (m τ).bind fun ds => match ds with
 | [d] => fun G => match aD G d with
  | some (.lst xs) => .ok (xs.length + 1, Bd d xs.length) G
  | _ => .stuck
 | _ => M.stop
section
variable {X : Cx} {EE : fK} {tg iter a b : Expr} {g : pS} {mi : MI} {ms : MS} {pos p pc : Pos} {m : DS → M (List D)}
theorem FF {H : Hp} {ρ ρ' : List Addr} {H' : Hp} {G' : DH} {d : D} {l : Addr} {ws : List D} (f : dh X.K H H' ρ ρ') (rx : Rep X.K X.mg ρ H d (.ref l)) (hp : iB X.K X.mg H' ρ' G') (q : aD G' d = some (.lst ws)) : ∃ xs, mH X.K H' l xs ∧ au X.K X.mg ρ' H' ws xs := by
 have O8 := rx.mono f
 cases d with
 | con ds =>
  cases q
  unfold Rep at O8
  obtain ⟨a', xs, e, s, r⟩ := O8
  cases e
  exact ⟨xs, s.seq, r⟩
 | obj n =>
  unfold Rep at O8
  obtain ⟨a', e, r⟩ := O8
  cases e
  dsimp only [aD] at q
  cases g : G'[n]? with
  | none => rw [g] at q; cases q
  | some o =>
   cases o with
   | dead => rw [g] at q; cases q
   | dct kv => rw [g] at q; cases q
   | d8 fz kv => rw [g] at q; cases q
   | lst ys =>
    rw [g] at q; cases q
    obtain ⟨a', xs, e1, e2, rs⟩ := hp.lst g
    rw [r] at e1; cases e1
    exact ⟨xs, .inl (.of e2), rs⟩
 | _ => cases q
theorem Lh {H : Hp} {ρ : List Addr} {d : D} {l : Addr} {n : Nat} (rx : Rep X.K X.mg ρ H d (.ref l)) : JV X.K X.mg (C3 X.K l n) (Bd d n) H ρ := by
 intro i H' ρ' G' f hp
 unfold Bd
 cases q : aD G' d with
 | none => exact ⟨fun e => (by cases e), fun x e => (by cases e)⟩
 | some sk =>
  cases sk with
  | tup zs => exact ⟨fun e => (by cases e), fun x e => (by cases e)⟩
  | str z => exact ⟨fun e => (by cases e), fun x e => (by cases e)⟩
  | lst zs =>
   dsimp only
   by_cases hn : zs.length = n
   ·rw [if_pos hn]
    by_cases hi : i = n
    ·rw [if_pos hi]
     exact ⟨fun _ => hi, fun x e => (by cases e)⟩
    ·rw [if_neg hi]
     by_cases hlt : i < n
     ·rw [if_pos hlt]
      obtain ⟨xs, sq, rs⟩ := FF f rx hp q
      refine ⟨fun e => ?_, fun x e => ?_⟩
      ·have := Option.some.inj e
       rw [List.getElem?_eq_none_iff] at this
       omega
      ·have e' := Option.some.inj e
       obtain ⟨v, hv, rv⟩ := rs.get e'
       refine ⟨⟨xs, v, sq, by rw [← rs.length]; exact hn, hlt, hv⟩, fun y H2 hy => ?_⟩
       obtain ⟨rfl, hy⟩ := hy
       have := hy xs sq
       rw [hv] at this; cases this
       exact ⟨⟨.refl, fun _ h => h⟩, rv⟩
     ·rw [if_neg hlt]; exact ⟨fun e => (by cases e), fun x e => (by cases e)⟩
   ·rw [if_neg hn]; exact ⟨fun e => (by cases e), fun x e => (by cases e)⟩
theorem Li (hm : X.mg "reversed" = none) (ze : Gl X "reversed") (ha : QA X EE [a] m) (h : aA [a] = true := by rfl) : QI X EE tg (.Call (.Name "reversed" p) [a] [] pc) (Il m) := by
 have h' : eB a = true ∧ aA [] = true := by simpa [aA] using h
 intro pins s σ H R I hq
 obtain ⟨τ, ρ, G, ab, ok⟩ := hq
 dsimp only [Il, M.bind] at ok
 refine wpAny_Call_Name_kw (jC I ze hm zq ?_ (by decide) (by decide))
 have hA : p5 X.K X.mg EE m σ H fun vs H1 => ∃ ρ1 G1 ds, Ab X.K X.mg σ H1 τ ρ1 G1 ∧ dh X.K H H1 ρ ρ1 ∧ au X.K X.mg ρ1 H1 ds vs ∧ m τ G = .ok ds G1 := by
  refine ⟨τ, ρ, G, ab, ?_⟩
  cases e : m τ G with
  | stuck => rw [e] at ok; exact ok
  | bY c G' => rw [e] at ok; exact ok
  | ok ds G' => exact fun vs H' ρ' f bH r => ⟨ρ', G', ds, bH, f, r, rfl⟩
 refine PyProof.Rows.callWith_type1 (fT (ha pc pins s σ H _ I hA) fun us s1 DB => ?_) (cP h'.1 _ _) (cK (es := []) rfl)
 obtain ⟨vs, H1, I1, r1, ρ1, G1, ds, mR, f1, rs, em⟩ := DB
 rw [em] at ok
 dsimp only at ok
 match ds, rs, ok with
 | [], _, ok => exact ok.elim
 | _ :: _ :: _, _, ok => exact ok.elim
 | [d], rs, ok =>
  obtain ⟨x, rfl, rx⟩ := jU rs
  obtain ⟨u, rfl, ru⟩ := vals1 r1
  dsimp only at ok
  cases q : aD G1 d with
  | none => rw [q] at ok; exact ok.elim
  | some sk =>
   rw [q] at ok
   cases sk with
   | tup zs => exact ok.elim
   | str z => exact ok.elim
   | lst zs =>
    dsimp only at ok
    obtain ⟨l, ys, rfl, sq, rv⟩ := cJ (pins := pins) (σ0 := σ) (s := s1) mR.hp rx q
    cases ru
    obtain ⟨its, vv, pl, hz⟩ := I1.list sq
    refine call_reversed_list pl.isList ?_
    have hst : (s1.heap.push (revObj l ((its.toArray.size : Int) - 1))).IsRevIter s1.heap.objs.size l ((its.toArray.size : Int) - 1) := ⟨_, Heap.get?_push_size _ rfl, rfl, rfl⟩
    refine wpAny_pyIter_revIter (s := { s1 with heap := s1.heap.push (revObj l ((its.toArray.size : Int) - 1)) }) hst ?_
    have I2 : Inv X pins σ H1 { s1 with heap := s1.heap.push (revObj l ((its.toArray.size : Int) - 1)) } := I1.kept (t' := s1.toks) fun b o e => Heap.get?_push_of_some _ e
    have hlen : its.toArray.size = zs.length := by rw [List.size_toArray, ← vv.length, rv.length]
    refine ⟨s1.heap.objs.size, [s1.heap.objs.size], _, C3 X.K l zs.length, H1, rfl, I2, FE l _ _, ?_, fun b hb => ?_, ok _ H1 ρ1 f1 mR (Lh rx)⟩
    ·show (s1.heap.push (revObj l ((its.toArray.size : Int) - 1))).IsRevIter s1.heap.objs.size l ((zs.length : Int) - 1 - ((0 : Nat) : Int))
     rw [← hlen]
     simpa using hst
    ·rw [List.mem_singleton.mp hb]
     exact I1.tH (Nat.le_refl _) (I1.hok.fresh (Nat.le_refl _))
end
end L3
end
section
set_option Elab.async false
set_option linter.all false
set_option maxRecDepth 100000
namespace L3
open PySem PySem.Spec L2
noncomputable def NQ (d e : D) : View := fun G i => match aD G d, aD G e with
 | some (.lst xs), some (.lst ys) => some (match xs[i]?, ys[i]? with
  | some x, some y => some (.tup [x, y])
  | _, _ => none)
 | _, _ => none
noncomputable def QC (m : DS → M (List D)) : MI := fun τ => (m τ).bind fun ds => match ds with
 | [d, e] => fun G => match aD G d, aD G e with
  | some (.lst xs), some (.lst ys) => .ok (min xs.length ys.length + 1, NQ d e) G
  | _, _ => .stuck
 | _ => M.stop
theorem boot_zip : bootBuiltins "zip" = some (.type "zip") := by decide +kernel
section
variable {X : Cx} {EE : fK} {tg iter a b : Expr} {g : pS} {mi : MI} {ms : MS} {pos p pc : Pos} {m : DS → M (List D)}
end
end L3
end
section
set_option Elab.async false
set_option linter.all false
set_option maxRecDepth 100000
namespace L3
open PySem PySem.Spec L2 PyProof.Rows
section
variable {X : Cx} {EE : fK} {a b e : Expr} {ma mb : DS → M D} {pos : Pos}
theorem Im : ly X (binaryOp .Add) (fun x y H Q => ∃ l b xs zs, x = .ref l ∧ y = .ref b ∧ mH X.K H l xs ∧ mH X.K H b zs ∧ xs.length + zs.length ≤ sizeLine ∧ ∀ p, H p = none → Q (.ref p) (upd H p (.lst (xs ++ zs)))) := by
 intro pins s σ H x y v u Q I rx ry h
 obtain ⟨l, b, xs, zs, rfl, rfl, hH, hB, hz, q⟩ := h
 cases rx
 cases ry
 obtain ⟨its, r, ⟨o, n, e, c, dn, d⟩, hl⟩ := I.list hH
 obtain ⟨its2, r2, ⟨o2, n2, e2, c2, R5, d2⟩, hl2⟩ := I.list hB
 obtain ⟨cls, dd, data, sl⟩ := o
 obtain ⟨MO, dd2, data2, sl2⟩ := o2
 simp only at c dn d c2 R5 d2
 subst c dn d c2 R5 d2
 have hlen := r.length
 have hlen2 := r2.length
 have ea : its.toArray ++ its2.toArray = (its ++ its2).toArray := by simp
 refine concat_meets ⟨_, e, rfl⟩ ⟨_, e2, rfl⟩ noFill_list_add seq_list_add PySem.F.slot_list_add PySem.F.entry_list_add (PySem.F.args_list_add_2 _ _) (list_addW l b its.toArray its2.toArray n n2 _ _ sl sl2 (by simp only [List.size_toArray]; omega)) ⟨e, e2, ?_⟩
 rw [ea]
 exact ⟨.ref _, _, I.MV (t' := s.toks) (r.append r2) (by rw [List.length_append]; omega), rfl, q _ I.fresh⟩
theorem Io : ly X (binaryOp .Add) (fun x y H Q => ∃ a b ys, x = .ref a ∧ y = .ref b ∧ n9 X.K H a [] ∧ n9 X.K H b ys ∧ Q (.ref b) H) := by
 intro pins s σ H x y v u Q I rx ry h
 obtain ⟨a, b, ys, rfl, rfl, ha, hb, q⟩ := h
 cases rx
 cases ry
 obtain ⟨its, r1, p1, _⟩ := I.tuple ha
 obtain ⟨its2, r2, p2, _⟩ := I.tuple hb
 have e0 : its = [] := by cases r1; rfl
 subst e0
 obtain ⟨⟨cls, dd, data, sl⟩, ho, hc, n, hd⟩ := id p1
 obtain ⟨⟨MO, dd2, data2, sl2⟩, ho2, hc2, n2, hd2⟩ := id p2
 simp only at hc hd hc2 hd2
 subst hc hd hc2 hd2
 exact concat_meets ⟨_, ho, rfl⟩ ⟨_, ho2, rfl⟩ noFill_tuple_add seq_tuple_add PySem.F.slot_tuple_add PySem.F.entry_tuple_add (PySem.F.args_tuple_add_2 _ _)
   (tuple_addW0 a b _ _ n n2 dd dd2 sl sl2 (by simp)) ⟨ho, ho2, ⟨.ref b, H, I, rfl, q⟩⟩
noncomputable def uf (G : DH) : D → Option (List D)
 | .con xs => some xs
 | .obj n => match G[n]? with
  | some (.lst xs) => some xs
  | _ => none
 | _ => none
theorem zG {G : DH} {d : D} {xs : List D} (h : uf G d = some xs) : aD G d = some (.lst xs) := by
 cases d with
 | con ys => cases h; rfl
 | obj n =>
  dsimp only [uf] at h
  dsimp only [aD]
  cases g : G[n]? with
  | none => rw [g] at h; cases h
  | some o =>
   cases o with
   | dead => rw [g] at h; cases h
   | dct kv => rw [g] at h; cases h
   | d8 fz kv => rw [g] at h; cases h
   | lst ys => rw [g] at h; cases h; rfl
 | _ => cases h
noncomputable def aL (d e : D) : M D := fun G => match d, e with
 | .int i, .int j => .ok (.int (i + j)) G
 | .str i, .str j => if i.length + j.length ≤ sizeLine then .ok (.str (i ++ j)) G else .stuck
 | .tup [], .tup ys => .ok (.tup ys) G
 | .tup (x :: xs), .tup ys => kE (x :: xs ++ ys) G
 | d, e => match uf G d, uf G e with
  | some xs, some ys => bU (xs ++ ys) G
  | _, _ => .stuck
theorem Ip : ly X (binaryOp .Add) (rD X EE aL) := by
 intro pins s σ0 H x y v u Q I rx ry ⟨σ, τ, ρ, G, d, e, ab, r1, r2, ok⟩
 have lists : ∀ xs ys, uf G d = some xs → uf G e = some ys → lA X.K X.mg EE H σ τ ρ (bU (xs ++ ys) G) Q → wpAny (model X.prog X.w) X.A (binaryOp .Add v u) (EP X pins σ0 Q) X.xe s := fun xs ys h1 h2 ok => by
  obtain ⟨l, vs, rfl, s1, t1⟩ := cJ (pins := pins) (σ0 := σ0) (s := s) ab.hp r1 (zG h1)
  obtain ⟨l2, ws, rfl, s2, t2⟩ := cJ (pins := pins) (σ0 := σ0) (s := s) ab.hp r2 (zG h2)
  obtain ⟨hl, q1⟩ := o9 ab (t1.append t2) ok
  rw [List.length_append] at hl
  exact Im pins s σ0 H _ _ v u Q I rx ry ⟨l, l2, vs, ws, rfl, rfl, s1, s2, hl, q1⟩
 have rest : (lA X.K X.mg EE H σ τ ρ (match uf G d, uf G e with
  | some xs, some ys => bU (xs ++ ys) G
  | _, _ => .stuck) Q) → wpAny (model X.prog X.w) X.A (binaryOp .Add v u) (EP X pins σ0 Q) X.xe s := fun ok => by
  cases h1 : uf G d with
  | none => rw [h1] at ok; exact ok.elim
  | some xs =>
   cases h2 : uf G e with
   | none => rw [h1, h2] at ok; exact ok.elim
   | some ys => rw [h1, h2] at ok; exact lists xs ys h1 h2 ok
 cases d with
 | int i =>
  cases e with
  | int j =>
   unfold Rep at r1 r2; subst r1 r2
   exact Kh pins s σ0 H _ _ v u Q I rx ry ⟨i, j, rfl, rfl, ok _ H ρ .refl ab (by unfold Rep; rfl)⟩
  | _ => exact rest ok
 | str i =>
  cases e with
  | str j =>
   unfold Rep at r1 r2; subst r1 r2
   dsimp only [aL] at ok
   by_cases h : i.length + j.length ≤ sizeLine
   ·rw [if_pos h] at ok
    exact AJ pins s σ0 H _ _ v u Q I rx ry ⟨i, j, rfl, rfl, h, ok _ H ρ .refl ab (by unfold Rep; rfl)⟩
   ·rw [if_neg h] at ok; exact ok.elim
  | _ => exact rest ok
 | tup xs =>
  cases e with
  | tup ys =>
   have r2' := r2
   unfold Rep at r1 r2
   obtain ⟨p, vs, rfl, s1, t1⟩ := r1
   obtain ⟨q, ws, rfl, s2, t2⟩ := r2
   cases xs with
   | nil =>
    have hv : vs = [] := by have := t1.length; cases vs with | nil => rfl | cons _ _ => simp at this
    subst hv
    exact Io pins s σ0 H _ _ v u Q I rx ry ⟨p, q, ws, rfl, rfl, s1, s2, ok _ H ρ .refl ab r2'⟩
   | cons x xs =>
    have ok' : lA X.K X.mg EE H σ τ ρ (kE (x :: xs ++ ys) G) Q := ok
    have Uz := t1.append t2
    obtain ⟨hl, q1⟩ := xA ab Uz ok'
    rw [List.length_append] at hl
    have hv : vs ≠ [] := by
     intro z; subst z
     have := t1.length
     simp at this
    refine Hw pins s σ0 H _ _ v u Q I rx ry ⟨p, q, vs, ws, rfl, rfl, s1, s2, hv, hl, fun z => ?_, fun z p hp => q1 p hp⟩
    subst z
    have hy : ys = [] := by
     have := t2.length
     cases ys with
     | nil => rfl
     | cons _ _ => simp at this
    subst hy
    unfold kE at ok'
    split at ok'
    ·exact ok' _ H ρ .refl ab (by rw [List.append_nil]; unfold Rep; exact ⟨p, vs, rfl, s1, t1⟩)
    ·exact ok'.elim
  | _ => cases xs <;> exact rest ok
 | _ => exact rest (by cases e <;> exact ok)
theorem aY (ha : QE X EE a ma) (hb : QE X EE b mb) : QE X EE (.BinOp a .Add b pos) (ay aL ma mb) := tP Ip m8 ha hb
theorem Lj {pins : List (Addr × Obj)} {Dd D' : Ends} {f : Flow} {s : Shared} (h : SP X pins D' f s) (hb : D'.bk = Dd.bk) (hc : D'.ct = Dd.ct) (hr : D'.rt = Dd.rt)
  (hq : ∀ σ H, D'.nx σ H → Dd.nx σ H ∨ ∃ a xs, H a = some (.lst xs) ∧ ∀ o, Dd.nx σ (upd H a (.jc o (.lst xs)))) : SP X pins Dd f s := by
 obtain ⟨nx, bk, ct, rt⟩ := D'
 subst hb hc hr
 cases f with
 | next =>
  obtain ⟨σ', H', I, q⟩ := h
  rcases hq σ' H' q with q | ⟨a, xs, e, q⟩
  ·exact ⟨σ', H', I, q⟩
  ·obtain ⟨o, I'⟩ := Cq I e
   exact ⟨σ', _, I', q o⟩
 | _ => exact h
theorem FG {st : Stmt} {i : Nat} {m : DS → M D} (hs : QS X EE st (bE i m)) : QS X EE st (bE i (eFn m)) := by
 intro pins s σ H Dd I ⟨τ, ρ, G, ab, ok⟩
 dsimp only [bE, bZ, eFn] at ok
 cases q : m τ G with
 | stuck => rw [q] at ok; exact ok.elim
 | bY c G' => rw [q] at ok; exact hs pins s σ H Dd I ⟨τ, ρ, G, ab, by dsimp only [bE, bZ]; rw [q]; exact ok⟩
 | ok d G' =>
  rw [q] at ok
  by_cases hd : ∃ n, d = .obj n
  ·obtain ⟨n, rfl⟩ := hd
   dsimp only at ok
   cases g : G'[n]? with
   | none => rw [g] at ok; exact ok.elim
   | some o =>
    rw [g] at ok
    cases o with
    | dead => exact ok.elim
    | dct kv => exact ok.elim
    | d8 fz kv => exact ok.elim
    | lst ds =>
     dsimp only at ok
     by_cases hc : n = G.length ∧ G'.length = n + 1 ∧ iw (G'.take G.length) G = true ∧ aU ds = true
     ·rw [if_pos hc] at ok
      obtain ⟨hn0, hl, hb, hcl⟩ := hc
      refine fT (hs pins s σ H { Dd with nx := fun σ' H' => ∃ a xs, H' a = some (.lst xs) ∧ ∀ o, Dd.nx σ' (upd H' a (.jc o (.lst xs))) } I ⟨τ, ρ, G, ab, ?_⟩) fun u s' h => Lj h rfl rfl rfl fun σ' H' q => .inr q
      dsimp only [bE, bZ]
      rw [q]
      intro σ' H' ρ' f bH
      obtain ⟨a, xs, e1, e2, rs⟩ := bH.hp.lst g
      refine ⟨a, xs, e2, fun ob => ?_⟩
      have f2 : dh X.K H' (upd H' a (.jc ob (.lst xs))) ρ' ρ' := tB e2 ρ'
      have f3 : dh X.K H (upd H' a (.jc ob (.lst xs))) ρ ρ := ⟨fun b ys w => f2.tup b ys (f.tup b ys w), fun b ys w => f2.con b ys (f.con b ys w), ⟨[], by simp⟩, fun b φ w => f2.ext b φ (f.ext b φ w)⟩
      have vh : iB X.K X.mg (upd H' a (.jc ob (.lst xs))) ρ G := ab.hp.cut f.pre (bH.hp.jc (o := ob) e1 e2) (by
       rw [List.take_set_of_le (by omega)]
       exact jX _ _ hb)
      refine ok σ' _ ρ f3 ⟨⟨by rw [bH.st.1]; simp, fun j dj ej => ?_⟩, vh⟩
      by_cases hij : i = j
      ·subst hij
       by_cases hi : i < τ.length
       ·rw [List.getElem?_set, if_pos rfl, if_pos hi] at ej
        cases ej
        obtain ⟨vv, ev, rv⟩ := bH.st.2 i (.obj n) (by rw [List.getElem?_set, if_pos rfl, if_pos hi])
        unfold Rep at rv
        obtain ⟨a', rfl, hn'⟩ := rv
        rw [e1] at hn'; cases hn'
        refine ⟨_, ev, ?_⟩
        unfold Rep
        exact ⟨a, xs, rfl, .inl ⟨ob, bX⟩, gE ds xs hcl (rs.mono f2)⟩
       ·rw [List.getElem?_set, if_pos rfl, if_neg hi] at ej; cases ej
      ·have V6 := ej
       rw [List.getElem?_set_ne hij] at ej
       obtain ⟨v', ev', UA⟩ := bH.st.2 j dj (by rw [List.getElem?_set_ne hij]; exact ej)
       obtain ⟨v0, V7, UB⟩ := ab.st.2 j dj ej
       exact ⟨v', ev', Rep.back f.pre dj v0 v' UB (UA.mono f2)⟩
     ·rw [if_neg hc] at ok; exact ok.elim
  ·have ok' : u9 X.K X.mg EE H ρ Dd (.nx (τ.set i (some d)) G') := by
    cases d <;> first | exact ok | exact absurd ⟨_, rfl⟩ hd
   exact hs pins s σ H Dd I ⟨τ, ρ, G, ab, by dsimp only [bE, bZ]; rw [q]; exact ok'⟩
end
end L3
end
section
set_option Elab.async false
set_option linter.all false
set_option maxRecDepth 100000
namespace L3
open PySem PySem.Spec L2 PyProof.Rows
noncomputable def Iq (lo hi c : Int) : Nat := if lo < hi then ((hi - lo - 1) / c + 1).toNat else 0
noncomputable def NR (lo c : Int) (n : Nat) : View := fun _ i => some (if i < n then some (.int (lo + (i : Int) * c)) else none)
noncomputable def ints3 : List D → Option (Int × Int × Int)
 | [.int lo, .int hi, .int c] => some (lo, hi, c)
 | _ => none
noncomputable def NS (m : DS → M (List D)) : MI := fun τ => (m τ).bind fun ds => match ints3 ds with
 | some (lo, hi, c) => fun G => if -(2 ^ 30) ≤ lo ∧ lo < 2 ^ 30 ∧ -(2 ^ 30) ≤ hi ∧ hi < 2 ^ 30 ∧ 0 < c ∧ c < 2 ^ 30 then .ok (Iq lo hi c + 1, NR lo c (Iq lo hi c)) G else .stuck
 | none => M.stop
section
variable {X : Cx} {EE : fK} {tg iter a b c : Expr} {pos p pc : Pos} {m : DS → M (List D)}
end
end L3
end
section
set_option Elab.async false
set_option linter.all false
set_option maxRecDepth 100000
namespace L3
open PySem PySem.Spec L2
noncomputable def xW : D → Option Key
 | .int i => some (Sum.inl i)
 | .str x => some (Sum.inr x)
 | _ => none
noncomputable def vj {κ : Type} [DecidableEq κ] (kvs : List (κ × D)) (k : κ) : Option D := (kvs.find? fun kv => decide (kv.1 = k)).map (·.2)
noncomputable def zH {κ : Type} [DecidableEq κ] (kvs : List (κ × D)) (k : κ) (v : D) : List (κ × D) :=
 if (kvs.any fun kv => decide (kv.1 = k)) = true then kvs.map (fun kv => if kv.1 = k then (kv.1, v) else kv) else kvs ++ [(k, v)]
section
variable {K : PySem.W.Frag} {mg : Str → Option Value} {H : Hp} {ρ : List Addr} {G : DH}
theorem zI {κ : Type} [DecidableEq κ] (k : κ) : ∀ {kvs : List (κ × D)} {xs : List V}, au K mg ρ H (kvs.map (·.2)) xs →
  (vj kvs k = none ∧ oh ((kvs.map (·.1)).zip xs) k = none) ∨ ∃ d v, vj kvs k = some d ∧ oh ((kvs.map (·.1)).zip xs) k = some v ∧ Rep K mg ρ H d v
 | [], xs, r => .inl ⟨rfl, rfl⟩
 | p :: q, xs, r => by
  unfold au at r
  obtain ⟨v, r', rfl, h1, h2⟩ := r
  by_cases e : p.1 = k
  ·exact .inr ⟨p.2, v, by simp [vj, e], by simp [oh, e], h1⟩
  ·have ih := zI k h2
   have e1 : vj (p :: q) k = vj q k := by simp [vj, e]
   have e2 : oh (((p :: q).map (·.1)).zip (v :: r')) k = oh ((q.map (·.1)).zip r') k := pZ (p := (p.1, v)) e
   rw [e1, e2]; exact ih
theorem Cr {κ : Type} [DecidableEq κ] (k : κ) : ∀ {kvs : List (κ × D)} {xs : List V}, kvs.length = xs.length → (((kvs.map (·.1)).zip xs).any fun kv => decide (kv.1 = k)) = (kvs.any fun kv => decide (kv.1 = k))
 | [], xs, h => by simp
 | p :: q, [], h => by simp at h
 | p :: q, x :: xs, h => by
  have := Cr k (kvs := q) (xs := xs) (by simpa using h)
  simp [this]
theorem zJ {κ : Type} [DecidableEq κ] (k : κ) {d : D} {v : V} (rv : Rep K mg ρ H d v) : ∀ {kvs : List (κ × D)} {xs : List V}, au K mg ρ H (kvs.map (·.2)) xs →
  ∃ ys, (((kvs.map (·.1)).zip xs).map fun kv => if kv.1 = k then (kv.1, v) else kv) = ((kvs.map fun kv => if kv.1 = k then (kv.1, d) else kv).map (·.1)).zip ys ∧ au K mg ρ H ((kvs.map fun kv => if kv.1 = k then (kv.1, d) else kv).map (·.2)) ys
 | [], xs, r => ⟨[], by simp, by simpa using au.nil⟩
 | p :: q, xs, r => by
  unfold au at r
  obtain ⟨x, r', rfl, h1, h2⟩ := r
  obtain ⟨ys, e, rs⟩ := zJ k rv h2
  by_cases hk : p.1 = k
  ·refine ⟨v :: ys, ?_, ?_⟩
   ·simp only [List.map_cons, List.zip_cons_cons, if_pos hk, e]
   ·simp only [List.map_cons, if_pos hk]; exact .cons rv rs
  ·refine ⟨x :: ys, ?_, ?_⟩
   ·simp only [List.map_cons, List.zip_cons_cons, if_neg hk, e]
   ·simp only [List.map_cons, if_neg hk]; exact .cons h1 rs
theorem zK {α β : Type} : ∀ {a : List α} {b : List β} (x : α) (y : β), a.length = b.length → (a ++ [x]).zip (b ++ [y]) = a.zip b ++ [(x, y)]
 | [], [], x, y, _ => rfl
 | [], _ :: _, _, _, h => by simp at h
 | _ :: _, [], _, _, h => by simp at h
 | p :: a, q :: b, x, y, h => by simp [zK (a := a) (b := b) x y (by simpa using h)]
theorem FH {κ : Type} [DecidableEq κ] (k : κ) {d : D} {v : V} (rv : Rep K mg ρ H d v) {kvs : List (κ × D)} {xs : List V} (r : au K mg ρ H (kvs.map (·.2)) xs) :
  ∃ ys, putK ((kvs.map (·.1)).zip xs) k v = ((zH kvs k d).map (·.1)).zip ys ∧ au K mg ρ H ((zH kvs k d).map (·.2)) ys := by
 have hl : kvs.length = xs.length := by simpa using r.length
 unfold putK zH
 rw [Cr k hl]
 by_cases e : (kvs.any fun kv => decide (kv.1 = k)) = true
 ·rw [if_pos e, if_pos e]; exact zJ k rv r
 ·rw [if_neg e, if_neg e]
  refine ⟨xs ++ [v], ?_, ?_⟩
  ·rw [List.map_append, List.map_cons, List.map_nil, zK _ _ (by simpa using hl)]
  ·rw [List.map_append]; exact r.append (.cons rv .nil)
theorem iB.dct {n : Nat} {kvs : List (Key × D)} (h : iB K mg H ρ G) (e : G[n]? = some (.dct kvs)) : ∃ a xs, ρ[n]? = some a ∧ H a = some (.dK ((kvs.map (·.1)).zip xs)) ∧ au K mg ρ H (kvs.map (·.2)) xs := by
 obtain ⟨a, e1, xs, e2, r⟩ := h.ob n _ e
 exact ⟨a, xs, e1, e2, r⟩
theorem Ir {d : D} {v : V} {k : Key} (r : Rep K mg ρ H d v) (e : xW d = some k) : v = kV k := by
 cases d <;> simp [xW] at e
 ·subst e; unfold Rep at r; exact r
 ·subst e; unfold Rep at r; exact r
end
section
variable {X : Cx} {EE : fK} {e f o i a : Expr} {pos apos cpos tpos : Pos} {mo me mf mv mi : DS → M D}
noncomputable def NT : DS → M D := fun _ G => .ok (.obj G.length) (G ++ [.dct []])
noncomputable def JJ (G : DH) : D → Bool
 | .obj n => match G[n]? with
  | some (.dct _) => true
  | _ => false
 | _ => false
noncomputable def JK (d k x : D) : M D := fun G => match d, xW k with
 | .obj n, some y => match G[n]? with
  | some (.dct kvs) => .ok ((vj kvs y).getD x) G
  | _ => .stuck
 | _, _ => .stuck
noncomputable def FI (mo me mf : DS → M D) : DS → M D := fun τ => (mo τ).bind fun d G => if JJ G d = true then ((me τ).bind fun k => (mf τ).bind fun x => JK d k x) G else .stuck
noncomputable def FJ (v d k : D) : M D := fun G => match d, xW k with
 | .obj n, some y => match G[n]? with
  | some (.dct kvs) => if kvs.length < sizeLine then .ok .cj (G.set n (.dct (zH kvs y v))) else .stuck
  | _ => .stuck
 | _, _ => .stuck
noncomputable def B4 (mv mo mi : DS → M D) : MS := fun τ => bZ ((mv τ).bind fun v => (mo τ).bind fun o => (mi τ).bind fun i => FJ v o i) (fun _ G => .nx τ G) fun c G => .xn c τ G
end
end L3
end
section
set_option Elab.async false
set_option linter.all false
set_option maxRecDepth 100000
namespace L3
open PySem PySem.Spec L2 PyProof.Rows
section
variable {X : Cx} {EE : fK} {e : Expr} {m : DS → M (List D)} {p p2 pos pos2 : Pos}
end
end L3
end
section
set_option Elab.async false
set_option linter.all false
set_option maxRecDepth 100000
namespace L3
open PySem PySem.Spec L2
section
variable {prog : Program} {w : World} {A : Around} {E : Value → Shared → Prop} {s : Shared}
theorem mL {it t : Addr} {i : Nat} {items : Array Value} {x : Value} {Q : Value → Shared → Prop} (hit : s.heap.IsTupleIter it t i)
  (ht : s.heap.IsTuple t items) (hx : items[i]? = some x)
  (hQ : ∀ h', h'.IsTupleIter it t (i + 1) → Heap.SameBut it s.heap h' → Q x { s with heap := h' }) :
  wpAny (model prog w) A (Builtin.SmallTypes.nextOf (.ref it)) Q E s := by
 obtain ⟨o, ho, hc, hd⟩ := id hit
 obtain ⟨ol, L7, _, nl, hdl⟩ := ht
 unfold Builtin.SmallTypes.nextOf
 refine wpAny_bind (wpAny_callSpecial?_slot (name := Str.ofString "__next__") hit.typeIs F.slot_tuple_iterator_next
  (wpAny_call_entry F.slot_tuple_iterator_next hit.typeIs F.entry_tuple_iterator_next ?_ (F.args_tuple_iterator_next_1 _)))
 show wpAny _ _ (field (.ref it) 0 >>= _) _ _ s
 refine wpAny_bind (wpAny_field ho hd (x := .ref t) rfl ?_)
 show wpAny _ _ (if (Value.ref t == Value.none) = true then _ else _) _ _ s
 rw [if_neg (show ¬ ((Value.ref t == Value.none) = true) from Bool.false_ne_true)]
 show wpAny _ _ (field (.ref it) 1 >>= _) _ _ s
 refine wpAny_bind (wpAny_field ho hd (x := .int i 0) rfl ?_)
 show wpAny _ _ (seqItems? (.ref t) >>= _) _ _ s
 refine wpAny_bind (wpAny_seqItems L7 hdl ?_)
 simp only [Int.toNat_natCast, hx]
 refine wpAny_bind (wpAny_setField ho hd (by simp) (wpAny_pure ⟨x, rfl, wpAny_pure (hQ _ ?_ (Heap.SameBut.update ..))⟩))
 exact ⟨_, Heap.get?_update_self _ ho (Obj.isFreed_of_fields (Obj.data_mapFields hd _)), (Obj.cls_mapFields ..).trans hc, by
  rw [Obj.data_mapFields hd]; simp [rawInt]⟩
theorem nv {it t : Addr} {i : Nat} {items : Array Value} {Q : Value → Shared → Prop} (hh : A.handled = none)
  (hit : s.heap.IsTupleIter it t i) (ht : s.heap.IsTuple t items) (hx : items[i]? = none)
  (hE : ∀ h' e, Heap.ExtBut it s.heap h' → (∃ o, h'.get? e = some o ∧ o.cls = .type "StopIteration") → E (.ref e) { s with heap := h' }) :
  wpAny (model prog w) A (Builtin.SmallTypes.nextOf (.ref it)) Q E s := by
 obtain ⟨o, ho, hc, hd⟩ := id hit
 obtain ⟨ol, L7, _, nl, hdl⟩ := ht
 unfold Builtin.SmallTypes.nextOf
 refine wpAny_bind (wpAny_callSpecial?_slot (name := Str.ofString "__next__") hit.typeIs F.slot_tuple_iterator_next
  (wpAny_call_entry F.slot_tuple_iterator_next hit.typeIs F.entry_tuple_iterator_next ?_ (F.args_tuple_iterator_next_1 _)))
 show wpAny _ _ (field (.ref it) 0 >>= _) _ _ s
 refine wpAny_bind (wpAny_field ho hd (x := .ref t) rfl ?_)
 show wpAny _ _ (if (Value.ref t == Value.none) = true then _ else _) _ _ s
 rw [if_neg (show ¬ ((Value.ref t == Value.none) = true) from Bool.false_ne_true)]
 show wpAny _ _ (field (.ref it) 1 >>= _) _ _ s
 refine wpAny_bind (wpAny_field ho hd (x := .int i 0) rfl ?_)
 show wpAny _ _ (seqItems? (.ref t) >>= _) _ _ s
 refine wpAny_bind (wpAny_seqItems L7 hdl ?_)
 simp only [Int.toNat_natCast, hx]
 refine wpAny_bind (wpAny_rule (wpAny_bind (wpAny_setField ho hd (by simp) ?_)))
 show wpAny _ _ (newExc (.type "StopIteration") [] >>= _) _ _ _
 refine wpAny_bind ?_
 simp only [newExc, newTuple]
 refine wpAny_bind (wpAny_newObj_type ?_ (by size_fits))
 refine wpAny_bind (m := firstArgMember _ _) (wpAny_of_eq (a := Value.none) (by first | rfl | (simp only [firstArgMember]; rfl)) ?_)
 refine wpAny_newObj_type ?_ (by size_fits)
 simp only [raiseNew]
 refine wpAny_bind (wpAny_handled ?_)
 first | rw [show A.in1.handled = none from hh] | rw [hh]
 refine wpAny_bind (wpAny_pure (wpAny_throw ?_))
 exact hE _ _ (((Heap.SameBut.update ..).extBut.push _).push _) ⟨_, Heap.get?_push_size _ rfl, rfl⟩
end
theorem wA {prog : Program} {w : World} {A : Around} (hh : A.handled = none) (it l : Addr) (hne : l ≠ it) (items : Array Value) :
  Draws prog w A it [it, l] items.size (fun i v => items[i]? = some v) (fun i h => h.IsTupleIter it l i ∧ h.IsTuple l items) where
 live := fun _ _ st => let ⟨o, ho, _⟩ := st.1; ⟨o, ho⟩
 frame := fun _ _ _ st hk => ⟨st.1.at fun o e => hk it (by simp) o e, st.2.at fun o e => hk l (by simp) o e⟩
 item := fun i s Q E hi st hQ => by
  refine mL st.1 st.2 (x := items[i]) (by simp [hi]) fun h' Iu hs' => ?_
  exact hQ _ h' s.toks (by simp [hi]) ⟨Iu, st.2.extBut hs'.extBut hne⟩ hs'
 done := fun s Q E st hE => nv hh st.1 st.2 (by simp) hE
theorem zL (l : Addr) (items : Array Value) (n : Nat) (dct : Option Addr) (sl : Array (Option Value)) :
  Meets (Builtin.«enumerate.__new__» ⟨[.type "enumerate", .ref l], []⟩) (fun _ R s => s.heap.get? l = some { cls := .type "tuple", dict := dct, data := .seq items n, slots := sl } ∧
   R (.ok (.ret (.ref (s.heap.push { cls := .type "tuple_iterator", data := .fields #[.ref l, .int 0 0] }).objs.size)))
    { s with heap := (s.heap.push { cls := .type "tuple_iterator", data := .fields #[.ref l, .int 0 0] }).push { cls := .type "enumerate", data := .fields #[.none, .bool false, .ref s.heap.objs.size, rawInt 0, .none, .none] } }) :=
 .of_wp fun prog w A R s h => by
  obtain ⟨hp, g, d, tk, os⟩ := s; obtain ⟨hl, h⟩ := h
  have hsub := sub_enumerate
  have hL : Heap.IsTuple (Shared.heap ⟨hp, g, d, tk, os⟩) l items := ⟨_, hl, rfl, n, rfl⟩
  wp_walk using AutoSeq1.wpAny_loadPart' hl
  refine wpAny_stack_any fun st => wpAny_pure ?_
  split
  ·rename_i c _ _ _ _ _
   cases (c == Value.type "enumerate")
   ·wp_walk using AutoSeq1.wpAny_loadPart' hl, wpAny_pyIter_tuple hL
    exact ⟨_, rfl, h⟩
   ·wp_walk using AutoSeq1.wpAny_loadPart' hl, wpAny_pyIter_tuple hL
    exact ⟨_, rfl, h⟩
  ·wp_walk using AutoSeq1.wpAny_loadPart' hl, wpAny_pyIter_tuple hL
   exact ⟨_, rfl, h⟩
theorem vm {prog : Program} {w : World} {A : Around} {E : Value → Shared → Prop} {s : Shared} {l : Addr} {items : Array Value} {Q : Value → Shared → Prop} (hL : s.heap.IsTuple l items)
  (h : ∀ h', IsEnum h' (s.heap.objs.size + 1) s.heap.objs.size 0 .none → h'.IsTupleIter s.heap.objs.size l 0 → h'.objs.size = s.heap.objs.size + 2 →
   (∀ b o, s.heap.get? b = some o → h'.get? b = some o) → Q (.ref (s.heap.objs.size + 1)) { s with heap := h' }) :
  wpAny (model prog w) A (call (.type "enumerate") [.ref l]) Q E s := by
 obtain ⟨⟨c, dct, dt, sl⟩, hl, hc, n, hd⟩ := hL
 replace hc : c = .type "tuple" := hc
 replace hd : dt = .seq items n := hd
 subst hc hd
 refine callType_new F.called_enumerate (by decide) (F.typeCall_enumerate_1 _) (F.newCall_enumerate_1 _) (fun obj => F.args_object_init_2 obj _) F.entry_enumerate_new
  (zL l items n dct sl) ⟨hl, ?_⟩
 have hz : (s.heap.push { cls := .type "tuple_iterator", data := .fields #[.ref l, .int 0 0] }).objs.size = s.heap.objs.size + 1 := Heap.size_push ..
 show _ ∧ _
 rw [hz]
 have he : IsEnum ((s.heap.push { cls := .type "tuple_iterator", data := .fields #[.ref l, .int 0 0] }).push
   { cls := .type "enumerate", data := .fields #[.none, .bool false, .ref s.heap.objs.size, rawInt 0, .none, .none] }) (s.heap.objs.size + 1) s.heap.objs.size 0 .none := by
  have := Heap.get?_push_size (s.heap.push { cls := .type "tuple_iterator", data := .fields #[.ref l, .int 0 0] })
   (o := { cls := .type "enumerate", data := .fields #[.none, .bool false, .ref s.heap.objs.size, rawInt 0, .none, .none] }) rfl
  rw [hz] at this; exact this
 refine ⟨⟨_, he, rfl⟩, h _ he ⟨_, Heap.get?_push_of_some _ (Heap.get?_push_size _ rfl), rfl, rfl⟩ (by rw [Heap.size_push, hz]) fun b o x => Heap.get?_push_of_some _ (Heap.get?_push_of_some _ x)⟩
noncomputable def Lk (K : PySem.W.Frag) (a : Addr) : It :=
 ⟨fun i H => ∃ xs x, n9 K H a xs ∧ xs[i]? = some x, fun i H y H' => ∃ x p, (∀ xs, n9 K H a xs → xs[i]? = some x) ∧ H p = none ∧ y = .ref p ∧ H' = upd H p (.tup [.int i, x]), fun i H => ∃ xs, n9 K H a xs ∧ xs.length = i⟩
theorem Be {P : Program} {w : World} {K : PySem.W.Frag} {es : List Expr} {k : Nat} {pt : Pos} (l e it : Addr) (hne : e ≠ it) (hle : l ≠ e) (hli : l ≠ it) : Turn P w K (.Tuple es k pt) (Lk K l) [e, it] e (fun i h => ∃ old, IsEnum h e it i old ∧ h.IsTupleIter it l i) where
 mem := by simp
 obj := fun i h ⟨old, st1, st2⟩ b hb => by
  rcases List.mem_cons.mp hb with rfl | hb
  ·exact ⟨_, st1, fun v z => by cases z⟩
  ·have e : b = it := by simpa using hb
   subst e
   obtain ⟨o, e, c, d⟩ := st2
   exact ⟨o, e, fun v z => by rw [d] at z; cases z⟩
 keep := fun i h h' ⟨old, st1, st2⟩ kp => ⟨old, kp e (by simp) _ st1, st2.at fun o q => kp it (by simp) o q⟩
 item := by
  intro X hP hw hK hc i pins s σ H E I hf ⟨old, st1, st2⟩ hg
  subst hP hw hK
  obtain ⟨xs, x, hq, hx⟩ := hg
  obtain ⟨its, rv, p, hz⟩ := I.tuple hq
  obtain ⟨u, hu, ru⟩ := rv.get hx
  have Qy : e < s.heap.objs.size := Heap.lt_size st1
  have Le : it < s.heap.objs.size := by obtain ⟨o, q, _⟩ := st2; exact Heap.lt_size q
  have hlen : i < its.length := (List.getElem?_eq_some_iff.mp hu).1
  refine wpAny_pyNext_enum_itemD (wA (show X.A.in1.handled = none from I.ok.hd hc) it l hli its.toArray) st1 ⟨st2, p⟩ (by simpa using hlen) hne (by simp [hne, Ne.symm hle]) fun x' h' tk hx' hO hst htup hsz kp => ?_
  have UC : x' = u := by
   have e : its.toArray[i]? = some x' := hx'
   rw [List.getElem?_toArray, hu] at e
   exact (Option.some.inj e).symm
  subst UC
  have hL := hst.1
  refine ⟨.ref s.heap.objs.size, rfl, ?_⟩
  have I1 : Inv X pins σ (upd H s.heap.objs.size (.tup [.int i, x])) { s with heap := s.heap.push { cls := .type "tuple", data := .seq #[.int i tk, x'] } } :=
   I.laid (t' := s.toks) (fun b o q => Heap.get?_push_of_some _ q) (Nat.le_refl _) ⟨by simp [sizeLine_eq], [.int i tk, x'], .cons ⟨_, rfl⟩ (.cons ru .nil), PyProof.Rows.IsTup.new _ _⟩
  have hfree := I.hok.fresh (Nat.le_refl s.heap.objs.size)
  have hf1 : ∀ b ∈ [e, it], oZ X pins (upd H s.heap.objs.size (.tup [.int i, x])) b := fun b hb => by
   have hlt : b ≠ s.heap.objs.size := by
    rcases List.mem_cons.mp hb with rfl | hb
    ·exact Nat.ne_of_lt Qy
    ·rw [List.mem_singleton.mp hb]; exact Nat.ne_of_lt Le
   exact ⟨by rw [aJ hlt]; exact (hf b hb).1, (hf b hb).2⟩
  unfold letOwnedTupleGo
  refine wpAny_bind (wpAny_load hO ?_)
  dsimp only
  rw [if_pos (by simp)]
  refine wpAny_bind (wpAny_rule ?_)
  unfold updateField
  refine wpAny_bind (wpAny_load hO ?_)
  dsimp only
  rw [if_pos (by simp)]
  refine wpAny_update hO ?_
  have yK : ∀ b, b ≠ e → (h'.update e (Obj.mapFields fun x => x.setIfInBounds 0 Value.none)).get? b = h'.get? b := fun b hb => Heap.get?_update_other _ _ (Ne.symm hb)
  refine ⟨.ref s.heap.objs.size, _, sY (t' := tk + 1) (s := { s with heap := s.heap.push { cls := .type "tuple", data := .seq #[.int i tk, x'] } }) (ch := [e, it]) I1 (fun b o hb q => ?_) hf1, rfl, ⟨x, s.heap.objs.size, fun ys hy => by rw [I.qX hy hq]; exact hx, hfree, rfl, rfl⟩, ⟨x', ?_, ?_⟩, fun b hb => (hf1 b hb).1⟩
  ·have hb1 : b ≠ e := fun z => hb (by simp [z])
   have hb2 : b ≠ it := fun z => hb (by simp [z])
   show (h'.update e _).get? b = some o
   rw [yK b hb1]
   by_cases ND : b = s.heap.objs.size
   ·subst ND
    have := Heap.get?_push_size (o := { cls := .type "tuple", data := .seq #[.int (i : Int) tk, x'] }) s.heap rfl
    rw [this] at q; cases q
    exact htup
   ·have q' : (s.heap.push { cls := .type "tuple", data := .seq #[.int (i : Int) tk, x'] }).get? b = some o := q
    refine kp b o hb1 hb2 ?_
    rwa [Heap.get?_push_ne _ _ _ ND] at q'
  ·show (h'.update e _).get? e = _
   rw [Heap.get?_update_self _ hO rfl]
   rfl
  ·exact hL.at fun o q => (yK it (Ne.symm hne)).trans q
 done := by
  intro X hP hw hK hc i pins s σ H E I hf ⟨old, st1, st2⟩ hg
  subst hP hw hK
  obtain ⟨xs, hq, hx⟩ := hg
  obtain ⟨its, rv, p, hz⟩ := I.tuple hq
  obtain ⟨f0, f1, f2, f3, f4, f5⟩ := hf it (by simp)
  have hl := rv.length
  have hi : i = its.toArray.size := by simp; omega
  subst hi
  exact wpAny_pyNext_enum_endD (wA (show X.A.in1.handled = none from I.ok.hd hc) it l hli its.toArray) st1 ⟨st2, p⟩ fun h' eb => ⟨rfl, I.turned (t' := s.toks) (fun b o hb e => eb b o hb e) f0 f1 f3 f4 f5⟩
 self := fun _ _ _ _ _ ⟨old, st1, _⟩ h => wpAny_pyIter_enum st1 h
noncomputable def jK (xs : List D) : View := fun _ i => if i ≤ xs.length then some (xs[i]?.map fun x => .tup [.int i, x]) else none
noncomputable def lK (m : DS → M (List D)) : MI := fun τ => (m τ).bind fun ds => match ds with
 | [d] => fun G => match aD G d with
  | some (.lst xs) => .ok (xs.length + 1, nt d) G
  | some (.tup xs) => .ok (xs.length + 1, jK xs) G
  | _ => .stuck
 | _ => M.stop
theorem FL {K : PySem.W.Frag} {mg : Str → Option Value} {H0 : Hp} {ρ0 : List Addr} {zs : List D} {l : Addr} {Bc : List V} (UD : yJ H0 l Bc) (Lg : au K mg ρ0 H0 zs Bc) : JV K mg (Lk K l) (jK zs) H0 ρ0 := by
 intro i H ρ G f hp
 have sq := yJ.t (K := K) (f.tup _ _ UD)
 have rs := Lg.mono f
 unfold jK
 constructor
 ·intro e
  by_cases hi : i ≤ zs.length
  ·rw [if_pos hi] at e
   cases qi : zs[i]? with
   | some z => rw [qi] at e; cases e
   | none =>
    have := List.getElem?_eq_none_iff.mp qi
    exact ⟨Bc, sq, by rw [← rs.length]; omega⟩
  ·rw [if_neg hi] at e; cases e
 ·intro dd e
  by_cases hi : i ≤ zs.length
  ·rw [if_pos hi] at e
   cases qi : zs[i]? with
   | none => rw [qi] at e; cases e
   | some z =>
    rw [qi] at e; cases e
    obtain ⟨v, ev, rv⟩ := rs.get qi
    refine ⟨⟨Bc, v, sq, ev⟩, fun y H' hy => ?_⟩
    obtain ⟨v', p, ev', hp0, rfl, rfl⟩ := hy
    have ev' := ev' Bc sq
    rw [ev] at ev'; cases ev'
    refine ⟨zm.new hp0, ?_⟩
    unfold Rep
    refine ⟨p, [.int i, v], rfl, .of bX, .cons (by unfold Rep; rfl) (.cons (Rep.mono (ef hp0 ρ) _ _ rv) .nil)⟩
  ·rw [if_neg hi] at e; cases e
section
variable {X : Cx} {EE : fK} {a : Expr} {p pc : Pos} {m : DS → M (List D)}
theorem ug {es : List Expr} {k : Nat} {pt : Pos} (hm : X.mg "enumerate" = none) (ze : Gl X "enumerate") (ha : QA X EE [a] m) (h : aA [a] = true := by rfl) : QI X EE (.Tuple es k pt) (.Call (.Name "enumerate" p) [a] [] pc) (lK m) := by
 have h' : eB a = true ∧ aA [] = true := by simpa [aA] using h
 intro pins s σ H R I hq
 obtain ⟨τ, ρ, G, ab, ok⟩ := hq
 by_cases hT : ∃ d G1 zs, m τ G = .ok [d] G1 ∧ aD G1 d = some (.tup zs)
 ·obtain ⟨d, G1, zs, em, q⟩ := hT
  dsimp only [lK, M.bind] at ok
  rw [em] at ok
  dsimp only at ok
  rw [q] at ok
  dsimp only at ok
  refine wpAny_Call_Name_kw (jC I ze hm wz ?_ (by decide) (by decide))
  have hA : p5 X.K X.mg EE m σ H fun vs H1 => ∃ ρ1, Ab X.K X.mg σ H1 τ ρ1 G1 ∧ dh X.K H H1 ρ ρ1 ∧ au X.K X.mg ρ1 H1 [d] vs := by
   refine ⟨τ, ρ, G, ab, ?_⟩
   rw [em]
   exact fun vs H' ρ' f bH r => ⟨ρ', bH, f, r⟩
  refine PyProof.Rows.callWith_type1 (fT (ha pc pins s σ H _ I hA) fun us s1 DB => ?_) (cP h'.1 _ _) (cK (es := []) rfl)
  obtain ⟨vs, H1, I1, r1, ρ1, mR, f1, rs⟩ := DB
  obtain ⟨x, rfl, rx⟩ := jU rs
  obtain ⟨u, rfl, ru⟩ := vals1 r1
  obtain ⟨l, ys, rfl, sq, rv⟩ := tR rx q
  cases ru
  obtain ⟨its, vv, pl, hz⟩ := I1.tuple sq.t
  have hlt : l < s1.heap.objs.size := by obtain ⟨_, e, _⟩ := pl; exact Heap.lt_size e
  refine vm pl fun h2 hE hL hsz kp => ?_
  refine wpAny_pyIter_enum hE ?_
  have I2 : Inv X pins σ H1 { s1 with heap := h2 } := I1.kept (t' := s1.toks) kp
  refine ⟨s1.heap.objs.size + 1, [s1.heap.objs.size + 1, s1.heap.objs.size], _, Lk X.K l, H1, rfl, I2, Be l _ _ (Nat.succ_ne_self _) (Nat.ne_of_lt (Nat.lt_succ_of_lt hlt)) (Nat.ne_of_lt hlt), ⟨_, hE, hL⟩, fun b hb => ?_, ok _ H1 ρ1 f1 mR (FL sq rv)⟩
  rcases List.mem_cons.mp hb with rfl | hb
  ·exact I1.tH (Nat.le_succ _) (I1.hok.fresh (Nat.le_succ _))
  ·rw [List.mem_singleton.mp hb]
   exact I1.tH (Nat.le_refl _) (I1.hok.fresh (Nat.le_refl _))
 ·refine Ik hm ze ha h pins s σ H R I ⟨τ, ρ, G, ab, ?_⟩
  have e : zu m τ G = lK m τ G := by
   dsimp only [lK, zu, M.bind]
   cases em : m τ G with
   | stuck => rfl
   | bY c G' => rfl
   | ok ds G' =>
    dsimp only
    match ds with
    | [] => rfl
    | _ :: _ :: _ => rfl
    | [d] =>
     dsimp only
     cases q : aD G' d with
     | none => rfl
     | some sk =>
      cases sk with
      | lst _ => rfl
      | str _ => rfl
      | tup zs => exact absurd ⟨d, G', zs, em, q⟩ hT
  rw [e]; exact ok
end
noncomputable abbrev DN (s : Str) : Prop := (s == ("__debug__" : Str)) = false ∧ (s == ("__classdict__" : Str)) = false
noncomputable abbrev LK (f : Scope) (s : Str) (k : NameKind) : Prop := f.names.lookup s = some k
end L3
end
section
set_option Elab.async false
set_option linter.all false
set_option maxRecDepth 100000
namespace L3
open PySem PySem.Spec L2
noncomputable def Out.fw (r : Out D) (G : DH) : Out D := match r with
 | .ok (.obj n) G' => match G'[n]? with
  | some (.lst ds) => if n = G.length ∧ G'.length = n + 1 ∧ iw (G'.take G.length) G = true ∧ aU ds = true then .ok (.con ds) G else .stuck
  | _ => .stuck
 | r => r
noncomputable def Out.fz (r : Out D) : Out D := match r with
 | .ok (.obj n) G' => match G'[n]? with
  | some (.lst ds) => .ok (.con ds) (G'.set n .dead)
  | _ => .stuck
 | r => r
section
variable {τ : DS} {G G' A B R : DH} {e ma mb mc : DS → M D} {n i : Nat} {d : D} {c : XD} {ml : DS → M (List D)} {ds xs ys : List D} {m : List D → M D}
theorem cX : eFn e τ G = (e τ G).fw G := Eq.trans rfl rfl
theorem Cs : JI e τ G = (e τ G).fz := Eq.trans rfl rfl
theorem FN : (Out.ok (.tup xs) G').fw G = .ok (.tup xs) G' := Eq.trans rfl rfl
theorem FO : (Out.ok (.con xs) G').fw G = .ok (.con xs) G' := Eq.trans rfl rfl
theorem FP {z : Str} : (Out.ok (.str z) G').fw G = .ok (.str z) G' := Eq.trans rfl rfl
theorem FQ {j : Int} : (Out.ok (.int j) G').fw G = .ok (.int j) G' := Eq.trans rfl rfl
theorem ji (h : aU ds = true) : (Out.ok (.obj G.length) (G ++ [.lst ds])).fw G = .ok (.con ds) G := by
 simp [Out.fw, h, gD]
theorem g6 (hz : ds.length ≤ sizeLine) (h : aU ds = true) : (bU ds G).fw G = .ok (.con ds) G := by
 rw [bU, if_pos hz, ji h]
theorem FT : (Out.ok (.obj A.length) (A ++ .lst ds :: B)).fz = .ok (.con ds) (A ++ .dead :: B) := by
 simp [Out.fz, G5]
theorem FU {o : DO} : (Out.ok (.obj (A.length + 1)) (A ++ o :: .lst ds :: B)).fz = .ok (.con ds) (A ++ o :: .dead :: B) := by
 simp [Out.fz, Ux, Uw]
theorem jY {d : D} (h : m ds G = .ok d (G ++ R)) (hc : d.closed = true) : iY m ds G = .ok d G := by
 simp [iY, h, hc, gD]
theorem iZ {d : D} (h : m ds G = .ok d G) (hc : d.closed = true) : iY m ds G = .ok d G := jY (R := []) (by simpa using h) hc
theorem Bf : Il ml τ G = (ml τ G).bd fun ds => match ds with
 | [d] => fun G => match aD G d with
  | some (.lst xs) => .ok (xs.length + 1, Bd d xs.length) G
  | _ => .stuck
 | _ => M.stop := aI
theorem FW : QC ml τ G = (ml τ G).bd fun ds => match ds with
 | [d, e] => fun G => match aD G d, aD G e with
  | some (.lst xs), some (.lst ys) => .ok (min xs.length ys.length + 1, NQ d e) G
  | _, _ => .stuck
 | _ => M.stop := aI
theorem uh : lK ml τ G = (ml τ G).bd fun ds => match ds with
 | [d] => fun G => match aD G d with
  | some (.lst xs) => .ok (xs.length + 1, nt d) G
  | some (.tup xs) => .ok (xs.length + 1, jK xs) G
  | _ => .stuck
 | _ => M.stop := aI
theorem Ct : NS ml τ G = (ml τ G).bd fun ds => match ints3 ds with
 | some (lo, hi, c) => fun G => if -(2 ^ 30) ≤ lo ∧ lo < 2 ^ 30 ∧ -(2 ^ 30) ≤ hi ∧ hi < 2 ^ 30 ∧ 0 < c ∧ c < 2 ^ 30 then .ok (Iq lo hi c + 1, NR lo c (Iq lo hi c)) G else .stuck
 | none => M.stop := aI
theorem Cu : NT τ G = .ok (.obj G.length) (G ++ [.dct []]) := Eq.trans rfl rfl
theorem zM : FI ma mb mc τ G = (ma τ G).bd fun d G => if JJ G d = true then (mb τ G).bd (fun k => (mc τ).bind fun x => JK d k x) else .stuck := by
 unfold FI
 rw [aI]
 unfold Out.bd
 cases ma τ G with
 | stuck => rfl
 | bY c G => rfl
 | ok d G' => simp only [aI]; rfl
theorem Cv : B4 ma mb mc τ G = ((ma τ G).bd fun v => (mb τ).bind fun o => (mc τ).bind fun i => FJ v o i).xp τ := by
 unfold B4 bZ Out.xp
 rw [aI]
 cases ((ma τ G).bd fun v => (mb τ).bind fun o => (mc τ).bind fun i => FJ v o i) <;> rfl
theorem ny {g : pS} {body : MS} {vw : View} (hv : ∀ G i, i ≤ xs.length → vw G i = some xs[i]?) : ∀ (fuel i : Nat) (τ : DS) (G : DH), i ≤ xs.length → xs.length < fuel + i → nj g body vw fuel i τ G = bO g body (xs.drop i) τ G
 | 0, i, τ, G, h1, h2 => by omega
 | fuel + 1, i, τ, G, h1, h2 => by
  rw [nj]
  dsimp only
  rw [hv G i h1]
  by_cases hi : i < xs.length
  ·rw [List.getElem?_eq_getElem hi, List.drop_eq_getElem_cons hi, bO]
   dsimp only
   cases g xs[i] τ with
   | none => rfl
   | some τ1 =>
    dsimp only
    cases body τ1 G with
    | nx τ2 G2 => exact ny hv fuel (i + 1) τ2 G2 (by omega) (by omega)
    | ct τ2 G2 => exact ny hv fuel (i + 1) τ2 G2 (by omega) (by omega)
    | _ => rfl
  ·rw [List.getElem?_eq_none (by omega), List.drop_eq_nil_of_le (by omega), bO]
theorem rF {gO : D → Option (List D)} {ks : List Bool} {tt : DS → M Bool} {te : DS → M D} {vw : View} (hv : ∀ G i, i ≤ xs.length → vw G i = some xs[i]?) : ∀ (fuel i : Nat) (τ : DS) (G : DH), i ≤ xs.length → xs.length < fuel + i → nk gO ks tt te n vw fuel i τ G = dI gO ks tt te n (xs.drop i) τ G
 | 0, i, τ, G, h1, h2 => by omega
 | fuel + 1, i, τ, G, h1, h2 => by
  rw [nk]
  rw [hv G i h1]
  by_cases hi : i < xs.length
  ·rw [List.getElem?_eq_getElem hi, List.drop_eq_getElem_cons hi, dI]
   dsimp only
   cases eg gO ks tt te n xs[i] τ G with
   | ok u G2 => exact rF hv fuel (i + 1) τ G2 (by omega) (by omega)
   | _ => rfl
  ·rw [List.getElem?_eq_none (by omega), List.drop_eq_nil_of_le (by omega), dI]
theorem Iv {g : pS} {body : MS} : nj g body (Bd (.con xs) xs.length) (xs.length + 1) 0 τ G = bO g body xs.reverse τ G := by
 have := ny (g := g) (body := body) (xs := xs.reverse) (vw := Bd (.con xs) xs.length) (fun G i h => by
  simp only [List.length_reverse] at h
  simp only [Bd, aD, if_true]
  by_cases hi : i = xs.length
  ·rw [if_pos hi, List.getElem?_eq_none (by simp; omega)]
  ·rw [if_neg hi, if_pos (by omega), List.getElem?_reverse (by omega)]) (xs.length + 1) 0 τ G (by simp) (by simp)
 simpa using this
theorem Bg {gO : D → Option (List D)} {ks : List Bool} {tt : DS → M Bool} {te : DS → M D} : nk gO ks tt te n (jK xs) (xs.length + 1) 0 τ G = dI gO ks tt te n (xs.mapIdx fun i x => .tup [.int i, x]) τ G := by
 have := rF (n := n) (gO := gO) (ks := ks) (tt := tt) (te := te) (xs := xs.mapIdx fun i x => D.tup [.int i, x]) (vw := jK xs) (fun G i h => by
  simp only [List.length_mapIdx] at h
  simp only [jK, if_pos h, List.getElem?_mapIdx]) (xs.length + 1) 0 τ G (by simp) (by simp)
 simpa using this
theorem Bh {gO : D → Option (List D)} {ks : List Bool} {te : DS → M D} {x v : D} {os acc : List D} (h1 : gO x = some os) (h2 : te (os.map some ++ mask ks τ) (G ++ [.lst acc]) = .ok v (G ++ [.lst acc])) (hz : acc.length < sizeLine) :
  eg gO ks p9 te G.length x τ (G ++ [.lst acc]) = .ok () (G ++ [.lst (acc ++ [v])]) := by
 simp only [eg, h1, p9, M.ret, h2, vg, if_pos hz, G5]
theorem iE {gO : D → Option (List D)} {ks : List Bool} {te : DS → M D} {own : D → List D} {f : D → D} : ∀ (xs acc : List D), acc.length + xs.length ≤ 1000000 → (∀ x ∈ xs, gO x = some (own x)) → (∀ x ∈ xs, ∀ acc, te ((own x).map some ++ mask ks τ) (G ++ [.lst acc]) = .ok (f x) (G ++ [.lst acc])) →
  dI gO ks p9 te G.length xs τ (G ++ [.lst acc]) = .ok (.obj G.length) (G ++ [.lst (acc ++ xs.map f)])
 | [], acc, _, _, _ => by simp [dI]
 | x :: xs, acc, hl, h1, h2 => by
  have hz : acc.length < sizeLine := Nat.lt_of_lt_of_le (by simp at hl; omega) (lz (n := 1000001) (by omega))
  rw [dI, Bh (h1 x (by simp)) (h2 x (by simp) acc) hz]
  dsimp only
  rw [iE xs (acc ++ [f x]) (by simp at hl ⊢; omega) (fun y hy => h1 y (by simp [hy])) (fun y hy => h2 y (by simp [hy]))]
  simp
end
theorem um : ∀ {xs : List D}, (∀ x ∈ xs, x.closed = true) → aU xs = true
 | [], _ => rfl
 | x :: xs, h => by rw [aU, h x (by simp), um fun y hy => h y (by simp [hy])]; rfl
theorem bx {α : Type} {f : α → D} {l : List α} (h : ∀ x, (f x).closed = true) : aU (l.map f) = true := um (by
 intro x hx
 obtain ⟨a, _, rfl⟩ := List.mem_map.mp hx
 exact h a)
theorem jL {xs : List D} : (D.con xs).closed = aU xs := by rw [D.closed]
theorem pD {xs : List D} : (D.tup xs).closed = aU xs := by rw [D.closed]
theorem eE {i : Int} : (D.int i).closed = true := by rw [D.closed] <;> simp
theorem bB {i : Str} : (D.str i).closed = true := by rw [D.closed] <;> simp
theorem gF {i : Bool} : (D.bl i).closed = true := by rw [D.closed] <;> simp
theorem lM : D.cj.closed = true := by rw [D.closed] <;> simp
theorem cY : aU [] = true := rfl
theorem cu {x : D} {xs : List D} : aU (x :: xs) = (x.closed && aU xs) := by rw [aU]
mutual
noncomputable def D.pd : D → PyData
 | .bl b => .bool b
 | .int i => .int i
 | .str x => .str x
 | .tup ds => .tuple (zN ds)
 | .con ds => .list (zN ds)
 | _ => .none
noncomputable def zN : List D → List PyData
 | [] => []
 | d :: r => d.pd :: zN r
end
mutual
noncomputable def D.plain : D → Bool
 | .tup ds => gq ds
 | .con ds => gq ds
 | .str x => PyData.strOk x
 | .obj _ => false
 | .u6 _ _ => false
 | .fn _ => false
 | _ => true
noncomputable def gq : List D → Bool
 | [] => true
 | d :: r => d.plain && gq r
end
mutual
noncomputable def D.dp : D → Nat
 | .tup ds => AB ds + 1
 | .con ds => AB ds + 1
 | _ => 0
noncomputable def AB : List D → Nat
 | [] => 0
 | d :: r => max d.dp (AB r)
end
mutual
theorem uo (G : DH) : ∀ (d : D) (n : Nat), d.plain = true → d.dp < n → kF G n d = some d.pd
 | .cj, n + 1, _, _ => by simp [kF, D.pd]
 | .bl b, n + 1, _, _ => by simp [kF, D.pd]
 | .int b, n + 1, _, _ => by simp [kF, D.pd]
 | .str b, n + 1, _, _ => by simp [kF, D.pd]
 | .tup ds, n + 1, h, hn => by
  rw [kF, nX G ds n (by simpa [D.plain] using h) (by rw [D.dp] at hn; omega), D.pd]; rfl
 | .con ds, n + 1, h, hn => by
  rw [kF, nX G ds n (by simpa [D.plain] using h) (by rw [D.dp] at hn; omega), D.pd]; rfl
 | .obj k, n + 1, h, _ => by simp [D.plain] at h
 | .u6 _ _, n + 1, h, _ => by simp [D.plain] at h
 | .fn _, n + 1, h, _ => by simp [D.plain] at h
theorem nX (G : DH) : ∀ (ds : List D) (n : Nat), gq ds = true → AB ds < n → bR (kF G n) ds = some (zN ds)
 | [], n, _, _ => by simp [bR, zN]
 | d :: ds, n, h, hn => by
  have h' : d.plain = true ∧ gq ds = true := by simpa [gq] using h
  rw [AB] at hn
  rw [bR, uo G d n h'.1 (by omega), nX G ds n h'.2 (by omega), zN]
end
mutual
theorem lay_of : ∀ (d : D), d.plain = true → d.pd.canLay0 = true
 | .cj, _ => by simp [D.pd, PyData.canLay0]
 | .bl b, _ => by simp [D.pd, PyData.canLay0]
 | .int b, _ => by simp [D.pd, PyData.canLay0]
 | .str b, h => by simpa [D.pd, PyData.canLay0, D.plain] using h
 | .tup ds, h => by
  rw [D.pd, PyData.canLay0]; exact xX ds (by simpa [D.plain] using h)
 | .con ds, h => by
  rw [D.pd, PyData.canLay0]; exact xX ds (by simpa [D.plain] using h)
 | .obj k, h => by simp [D.plain] at h
 | .u6 _ _, h => by simp [D.plain] at h
 | .fn _, h => by simp [D.plain] at h
theorem xX : ∀ (ds : List D), gq ds = true → PyData.canLayAll0 (zN ds) = true
 | [], _ => by simp [zN, PyData.canLayAll0]
 | d :: ds, h => by
  have h' : d.plain = true ∧ gq ds = true := by simpa [gq] using h
  rw [zN, PyData.canLayAll0, lay_of d h'.1, xX ds h'.2]; rfl
end
mutual
theorem wB : ∀ (d : D), d.pd.depth ≤ d.dp
 | .cj => by simp [D.pd, PyData.depth]
 | .bl b => by simp [D.pd, PyData.depth]
 | .int b => by simp [D.pd, PyData.depth]
 | .str b => by simp [D.pd, PyData.depth]
 | .tup ds => by rw [D.pd, PyData.depth, D.dp]; exact Nat.succ_le_succ (uq ds)
 | .con ds => by rw [D.pd, PyData.depth, D.dp]; exact Nat.succ_le_succ (uq ds)
 | .obj k => by simp [D.pd, PyData.depth]
 | .u6 _ _ => by simp [D.pd, PyData.depth]
 | .fn _ => by simp [D.pd, PyData.depth]
theorem uq : ∀ (ds : List D), PyData.depthAll (zN ds) ≤ AB ds
 | [] => by simp [zN, PyData.depthAll]
 | d :: ds => by
  rw [zN, PyData.depthAll, AB]
  have := wB d
  have := uq ds
  omega
end
mutual
theorem ql : ∀ (d : D), PyData.eqv d.pd d.pd = true
 | .cj => by simp [D.pd, PyData.eqv]
 | .bl b => by simp [D.pd, PyData.eqv]
 | .int b => by simp [D.pd, PyData.eqv]
 | .str b => by simp [D.pd, PyData.eqv]
 | .tup ds => by rw [D.pd, PyData.eqv]; exact rG ds
 | .con ds => by rw [D.pd, PyData.eqv]; exact rG ds
 | .obj k => by simp [D.pd, PyData.eqv]
 | .u6 _ _ => by simp [D.pd, PyData.eqv]
 | .fn _ => by simp [D.pd, PyData.eqv]
theorem rG : ∀ (ds : List D), PyData.eqvAll (zN ds) (zN ds) = true
 | [] => by simp [zN, PyData.eqvAll]
 | d :: ds => by rw [zN, PyData.eqvAll, ql d, rG ds]; rfl
end
theorem FY (g : Bool) (d : D) (G : DH) (h : d.plain = true) (hn : d.dp ≤ 580) : kD g d d G = .ok (.bl (g ^^ true)) G := by
 have hd := wB d
 unfold kD yY
 rw [uo G d deep h (by show d.dp < 600; omega)]
 dsimp only
 rw [if_pos (by rw [lay_of d h]; simp; omega), ql]
theorem Iw (g : Bool) (ds : List D) (k : Nat) (G : DH) (hk : G[k]? = some (.lst ds)) (h : gq ds = true) (hn : AB ds ≤ 570) : kD g (.obj k) (.con ds) G = .ok (.bl (g ^^ true)) G := by
 have hd := uq ds
 have e1 : kF G deep (.obj k) = some (D.con ds).pd := by
  show (match G[k]? with
   | some (.lst ds) => (bR (kF G 599) ds).map PyData.list
   | _ => none) = _
  rw [hk]
  dsimp only
  rw [nX G ds 599 h (by omega), D.pd]; rfl
 have hp : (D.con ds).plain = true := by rw [D.plain]; exact h
 have R6 : (D.con ds).dp ≤ 580 := by rw [D.dp]; omega
 have := wB (.con ds)
 unfold kD yY
 rw [e1, uo G (.con ds) deep hp (by show (D.con ds).dp < 600; omega)]
 dsimp only
 rw [if_pos (by rw [lay_of _ hp]; simp; omega), ql]
theorem rH : ∀ {xs : List D}, (∀ x ∈ xs, x.plain = true) → gq xs = true
 | [], _ => rfl
 | x :: xs, h => by rw [gq, h x (by simp), rH fun y hy => h y (by simp [hy])]; rfl
theorem Bj {n : Nat} : ∀ {xs : List D}, (∀ x ∈ xs, x.dp ≤ n) → AB xs ≤ n
 | [], _ => Nat.zero_le _
 | x :: xs, h => by
  rw [AB]
  have := h x (by simp)
  have := Bj (xs := xs) fun y hy => h y (by simp [hy])
  omega
end L3
end
section
set_option Elab.async false
set_option linter.all false
set_option maxRecDepth 100000
namespace L3
open PySem PySem.Spec L2
section
variable {prog : Program} {w : World} {A : Around} {E : Value → Shared → Prop} {s : Shared}
theorem ur {it d : Addr} {i ep : Nat} {o : Obj} {es : Array DictEntry} {e : DictEntry} {Q : Option Value → Shared → Prop} (hit : s.heap.IsKeyIter it d i es.size ep)
  (ho : s.heap.get? d = some o) (hx : o.ExactDict) (hd : o.data = .dict es ep) (he : es[i]? = some e)
  (hQ : ∀ h', h'.IsKeyIter it d (i + 1) es.size ep → Heap.SameBut it s.heap h' → Q (some e.key) { s with heap := h' }) :
  wpAny (model prog w) A (pyNext (.ref it)) Q E s := by
 obtain ⟨oi, Ma, R7, hdi⟩ := id hit
 unfold pyNext
 refine wpAny_bind (wpAny_attempt (wpAny_callSpecial?_slot (name := Str.ofString "__next__") hit.typeIs F.slot_dict_keyiterator_next (wpAny_call_entry F.slot_dict_keyiterator_next hit.typeIs F.entry_dict_keyiterator_next ?_ (F.args_dict_keyiterator_next_1 _))))
 refine wpAny_bind (wpAny_bind (wpAny_pure (wpAny_pure ?_)))
 refine wpAny_bind ?_
 refine wpAny_bind (wpAny_bind (wpAny_typeNameOfWhole_keyiter hit.typeIs (wpAny_pure ?_)))
 refine wpAny_bind (wpAny_fieldsOf Ma hdi ?_)
 rw [show Builtin.Dict_items.ownsTuple "dict_keyiterator" = false from by decide]
 show wpAny _ _ (if (Value.ref d == Value.none) = true then _ else _) _ _ s
 rw [if_neg (show ¬ ((Value.ref d == Value.none) = true) from Bool.false_ne_true)]
 refine wpAny_bind (wpAny_pure ?_)
 refine wpAny_bind (wpAny_dictEntries ho hd ?_)
 dsimp only
 rw [if_neg (by simp)]
 refine wpAny_bind (wpAny_pure ?_)
 refine wpAny_bind (wpAny_dictEpoch ho hd ?_)
 rw [if_neg (by simp)]
 refine wpAny_pure ?_
 dsimp only
 rw [if_neg (by omega), Int.toNat_natCast, he]
 dsimp only
 refine wpAny_bind (wpAny_bind (wpAny_typeNameOfWhole_keyiter hit.typeIs (wpAny_pure ?_)))
 refine wpAny_bind (wpAny_isOneOf_keyiter hit.typeIs ?_)
 rw [show Builtin.Dict_items.ownsTuple "dict_keyiterator" = false from by decide]
 refine wpAny_bind (wpAny_setField Ma hdi (by simp) ?_)
 refine wpAny_bind (wpAny_holding ?_)
 simp only [Bool.false_eq_true, if_false]
 rw [if_neg (by decide)]
 have Iu : Heap.IsKeyIter (s.heap.update it (Obj.mapFields fun x => x.setIfInBounds (0 + 1) (rawInt (↑i + 1)))) it d (i + 1) es.size ep :=
  ⟨_, Heap.get?_update_self _ Ma (Obj.isFreed_of_fields (Obj.data_mapFields hdi _)), (Obj.cls_mapFields ..).trans R7, by
   rw [Obj.data_mapFields hdi]; simp [rawInt]⟩
 refine wpAny_bind (wpAny_isOneOf_keyiter Iu.typeIs ?_)
 rw [if_pos (by decide)]
 exact wpAny_pure (wpAny_pure ⟨_, rfl, wpAny_pure (hQ _ Iu (Heap.SameBut.update ..))⟩)
theorem vn {it d : Addr} {i ep : Nat} {o : Obj} {es : Array DictEntry} {Q : Option Value → Shared → Prop} (hh : A.handled = none) (hit : s.heap.IsKeyIter it d i es.size ep)
  (ho : s.heap.get? d = some o) (hx : o.ExactDict) (hd : o.data = .dict es ep) (he : es[i]? = none)
  (hQ : ∀ h', Heap.ExtBut it s.heap h' → Q none { s with heap := h' }) :
  wpAny (model prog w) A (pyNext (.ref it)) Q E s := by
 obtain ⟨oi, Ma, R7, hdi⟩ := id hit
 unfold pyNext
 refine wpAny_bind (wpAny_attempt (wpAny_callSpecial?_slot (name := Str.ofString "__next__") hit.typeIs F.slot_dict_keyiterator_next (wpAny_call_entry F.slot_dict_keyiterator_next hit.typeIs F.entry_dict_keyiterator_next ?_ (F.args_dict_keyiterator_next_1 _))))
 refine wpAny_bind (wpAny_bind (wpAny_pure (wpAny_pure ?_)))
 refine wpAny_bind ?_
 refine wpAny_bind (wpAny_bind (wpAny_typeNameOfWhole_keyiter hit.typeIs (wpAny_pure ?_)))
 refine wpAny_bind (wpAny_fieldsOf Ma hdi ?_)
 rw [show Builtin.Dict_items.ownsTuple "dict_keyiterator" = false from by decide]
 show wpAny _ _ (if (Value.ref d == Value.none) = true then _ else _) _ _ s
 rw [if_neg (show ¬ ((Value.ref d == Value.none) = true) from Bool.false_ne_true)]
 refine wpAny_bind (wpAny_pure ?_)
 refine wpAny_bind (wpAny_dictEntries ho hd ?_)
 dsimp only
 rw [if_neg (by simp)]
 refine wpAny_bind (wpAny_pure ?_)
 refine wpAny_bind (wpAny_dictEpoch ho hd ?_)
 rw [if_neg (by simp)]
 refine wpAny_pure ?_
 dsimp only
 rw [if_neg (by omega), Int.toNat_natCast, he]
 dsimp only
 refine wpAny_bind (wpAny_bind (wpAny_typeNameOfWhole_keyiter hit.typeIs (wpAny_pure ?_)))
 rw [show Builtin.Dict_items.ownsTuple "dict_keyiterator" = false from by decide]
 refine wpAny_bind (wpAny_setField Ma hdi (by simp) ?_)
 refine wpAny_bind ?_
 simp only [newExc, newTuple]
 refine wpAny_bind (wpAny_newObj_type ?_ (by size_fits))
 refine wpAny_bind (m := firstArgMember _ _) (wpAny_of_eq (a := Value.none) (by first | rfl | (simp only [firstArgMember]; rfl)) ?_)
 refine wpAny_newObj_type ?_ (by size_fits)
 simp only [raiseNew]
 refine wpAny_bind (wpAny_handled ?_)
 first | rw [show A.in1.handled = none from hh] | rw [hh]
 refine wpAny_bind (wpAny_pure (wpAny_throw ?_))
 refine wpAny_bind (wpAny_isInstance (T := "StopIteration") (v := .ref _) ?_ isSubtype_stop ?_)
 ·exact ⟨_, Heap.get?_push_size _ rfl, rfl⟩
 rw [if_pos rfl]
 exact wpAny_pure (hQ _ (((Heap.SameBut.update ..).extBut.push _).push _))
theorem DK {d : Addr} {ep : Nat} {o : Obj} {es : Array DictEntry} {Q : Value → Shared → Prop} (hne : (d == sysModules) = false)
  (ho : s.heap.get? d = some o) (hx : o.ExactDict) (hd : o.data = .dict es ep)
  (hQ : Q (.ref s.heap.objs.size) { s with heap := s.heap.push { cls := .type "dict_keyiterator", data := .fields #[.ref d, .int 0 0, .int es.size 0, .int ep 0] } }) :
  wpAny (model prog w) A (pyIter (.ref d)) Q E s := by
 have ht : s.TypeIs (.ref d) "dict" := ⟨_, ho, hx.1⟩
 refine wpAny_pyIter_slot ht F.slot_dict_iter (wpAny_call_entry F.slot_dict_iter ht F.entry_dict_iter ?_ (F.args_dict_iter_1 _))
 refine wpAny_bind (wpAny_bind (wpAny_notOrdered_dict ht ?_))
 refine wpAny_bind (wpAny_pure (wpAny_pure ?_))
 refine wpAny_bind (wpAny_pure ?_)
 refine wpAny_bind (m := Builtin.Dict.showsAll _) ?_
 unfold Builtin.Dict.showsAll
 rw [if_neg (by rw [hne]; exact Bool.false_ne_true)]
 refine wpAny_pure ?_
 refine wpAny_bind (wpAny_dictEntries ho hd ?_)
 refine wpAny_bind (wpAny_dictEpoch ho hd ?_)
 refine wpAny_bind (wpAny_newObj_type ?_ (by size_fits))
 exact wpAny_pure ⟨_, rfl, "dict_keyiterator", _, ⟨_, Heap.get?_push_size _ rfl, rfl⟩, F.slot_dict_keyiterator_next.lookup, hQ⟩
end
end L3
end
section
set_option Elab.async false
set_option linter.all false
set_option maxRecDepth 100000
namespace L3
open PySem PySem.Spec L2
noncomputable def r6 (tp : Bool) (h : Heap) (it l : Addr) (i : Nat) : Prop := if tp = true then h.IsTupleIter it l i else h.IsListIter it l i
noncomputable def uY (tp : Bool) (h : Heap) (l : Addr) (xs : Array Value) : Prop := if tp = true then h.IsTuple l xs else h.IsList l xs
theorem r6.at {tp : Bool} {h h' : Heap} {it l : Addr} {i : Nat} (x : r6 tp h it l i) (k : ∀ o, h.get? it = some o → h'.get? it = some o) : r6 tp h' it l i := by
 cases tp
 ·exact Heap.IsListIter.at (show h.IsListIter it l i from x) k
 ·exact Heap.IsTupleIter.at (show h.IsTupleIter it l i from x) k
theorem uY.at {tp : Bool} {h h' : Heap} {l : Addr} {xs : Array Value} (x : uY tp h l xs) (k : ∀ o, h.get? l = some o → h'.get? l = some o) : uY tp h' l xs := by
 cases tp
 ·obtain ⟨o, e, r⟩ := (show h.IsList l xs from x)
  exact (⟨o, k o e, r⟩ : h'.IsList l xs)
 ·exact Heap.IsTuple.at (show h.IsTuple l xs from x) k
theorem r6.get {tp : Bool} {h : Heap} {it l : Addr} {i : Nat} (x : r6 tp h it l i) : ∃ o, h.get? it = some o ∧ ∀ v, o.data ≠ .cell v := by
 cases tp
 ·obtain ⟨o, e, c, d⟩ := (show h.IsListIter it l i from x)
  exact ⟨o, e, fun v q => by rw [d] at q; cases q⟩
 ·obtain ⟨o, e, c, d⟩ := (show h.IsTupleIter it l i from x)
  exact ⟨o, e, fun v q => by rw [d] at q; cases q⟩
section
variable {prog : Program} {w : World} {A : Around} {E : Value → Shared → Prop} {s : Shared}
theorem pF {tp : Bool} {it l : Addr} {i : Nat} {items : Array Value} {x : Value} {Q : Value → Shared → Prop} (hit : r6 tp s.heap it l i)
  (ht : uY tp s.heap l items) (hx : items[i]? = some x)
  (hQ : ∀ h', r6 tp h' it l (i + 1) → Heap.SameBut it s.heap h' → Q x { s with heap := h' }) :
  wpAny (model prog w) A (Builtin.SmallTypes.nextOf (.ref it)) Q E s := by
 cases tp
 ·exact wpAny_nextOf_list_item (show s.heap.IsListIter it l i from hit) (show s.heap.IsList l items from ht) hx hQ
 ·exact mL (show s.heap.IsTupleIter it l i from hit) (show s.heap.IsTuple l items from ht) hx hQ
theorem DL {t1 t2 : Bool} {z TI TO i1 i2 l1 l2 : Addr} {k : Nat} {a b x y : Value} {xs ys : Array Value} {Q : Value → Shared → Prop} (D : ZipApart z TI TO i1 i2 l1 l2) (hz : IsZip s.heap z TI TO Value.none) (hTI : IsPair s.heap TI (.ref i1) (.ref i2)) (hTO : IsPair s.heap TO a b)
  (h1 : r6 t1 s.heap i1 l1 k) (h2 : r6 t2 s.heap i2 l2 k) (p1 : uY t1 s.heap l1 xs) (p2 : uY t2 s.heap l2 ys) (hx : xs[k]? = some x) (hy : ys[k]? = some y)
  (hQ : ∀ h', IsZip h' z TI TO (rawInt s.heap.objs.size) → IsPair h' TO x y → r6 t1 h' i1 l1 (k + 1) → r6 t2 h' i2 l2 (k + 1) → IsPair h' s.heap.objs.size x y → h'.objs.size = s.heap.objs.size + 1 →
   (∀ c o, c ≠ z → c ≠ TO → c ≠ i1 → c ≠ i2 → s.heap.get? c = some o → h'.get? c = some o) → Q (.ref s.heap.objs.size) { s with heap := h' }) :
  wpAny (model prog w) A (Builtin.«zip.__next__» { pos := [Value.ref z] }) (fun fin s' => ∃ v, fin = Fin.done (Flow.ret v) ∧ Q v s') E s := by
 unfold «Builtin».«zip.__next__»
 refine wpAny_bind (wpAny_pure ?_)
 dsimp only
 refine wpAny_bind (wpAny_field hz rfl (x := .bool false) rfl ?_)
 refine wpAny_bind (wpAny_field hz rfl (x := .ref TI) rfl ?_)
 refine wpAny_bind (wpAny_seqItems hTI rfl ?_)
 dsimp only
 rw [if_neg (by simp)]
 refine wpAny_bind ?_
 unfold Builtin.SmallTypes.ownedTupleIsFree
 refine wpAny_bind (wpAny_field hz rfl (x := .none) rfl ?_)
 dsimp only
 refine wpAny_pure ?_
 rw [if_pos rfl]
 refine wpAny_bind (wpAny_rule ?_)
 refine wpAny_bind (wpAny_field hz rfl (x := .ref TO) rfl ?_)
 dsimp only
 refine wpAny_bind (wpAny_setField_rec hz (by simp) fun NU z1 s1 => ?_)
 have k1 : ∀ c o, c ≠ z → s.heap.get? c = some o → NU.get? c = some o := fun c o hc q => (s1.2 c hc).trans q
 refine wpAny_bind ?_
 rw [show [Value.ref i1, Value.ref i2].zipIdx = [(.ref i1, 0), (.ref i2, 1)] from rfl, List.forIn_cons]
 refine wpAny_bind ?_
 dsimp only
 refine wpAny_bind (wpAny_onRaise ?_)
 refine wpAny_bind (pF (h1.at fun o q => k1 _ _ D.i1z q) (p1.at fun o q => k1 _ _ D.l1z q) hx fun h2' m1 s2 => wpAny_pure ?_)
 have k2 : ∀ c o, c ≠ z → c ≠ i1 → s.heap.get? c = some o → h2'.get? c = some o := fun c o hc hd q => (s2.2 c hd).trans (k1 c o hc q)
 dsimp only
 have NV : IsPair h2' TO a b := k2 _ _ D.TOz D.TOi1 hTO
 refine wpAny_bind (wpAny_seqItems NV rfl ?_)
 dsimp only
 refine wpAny_bind (wpAny_updateSeq_pair NV fun h3' e3 s3 => ?_)
 refine wpAny_bind (wpAny_letGo (wpAny_pure ?_))
 have k3 : ∀ c o, c ≠ z → c ≠ i1 → c ≠ TO → s.heap.get? c = some o → h3'.get? c = some o := fun c o hc hd he q => (s3.2 c he).trans (k2 c o hc hd q)
 have UE : IsPair h3' TO x b := e3
 dsimp only
 rw [List.forIn_cons]
 refine wpAny_bind ?_
 dsimp only
 refine wpAny_bind (wpAny_onRaise ?_)
 refine wpAny_bind (pF (h2.at fun o q => k3 _ _ D.i2z D.i12.symm D.TOi2.symm q) (p2.at fun o q => k3 _ _ D.l2z D.l2i1 D.l2TO q) hy fun R8 m2 s4 => wpAny_pure ?_)
 dsimp only
 have R9 : IsPair R8 TO x b := (s4.2 _ D.TOi2).trans UE
 refine wpAny_bind (wpAny_seqItems R9 rfl ?_)
 dsimp only
 refine wpAny_bind (wpAny_updateSeq_pair R9 fun Ll e5 s5 => ?_)
 refine wpAny_bind (wpAny_letGo (wpAny_pure ?_))
 have k5 : ∀ c o, c ≠ z → c ≠ i1 → c ≠ TO → c ≠ i2 → s.heap.get? c = some o → Ll.get? c = some o := fun c o hc hd he hf q => (s5.2 c he).trans ((s4.2 c hf).trans (k3 c o hc hd he q))
 have Sa : IsPair Ll TO x y := e5
 dsimp only
 rw [List.forIn_nil]
 refine wpAny_pure ?_
 dsimp only
 refine wpAny_bind (wpAny_seqItems Sa rfl ?_)
 dsimp only
 refine wpAny_bind (wpAny_newTuple ?_)
 refine wpAny_bind ?_
 unfold Builtin.SmallTypes.ownedTupleHandOut
 dsimp only
 have hsz : Ll.objs.size = s.heap.objs.size := by
  have a1 := s1.1; have a2 := s2.1; have a3 := s3.1; have a4 := s4.1; have a5 := s5.1
  dsimp only at a2 a3 a4 a5
  omega
 have z5 := (s5.2 z D.TOz.symm).trans ((s4.2 z D.i2z.symm).trans ((s3.2 z D.TOz.symm).trans ((s2.2 z D.i1z.symm).trans z1)))
 have zn : z ≠ s.heap.objs.size := Nat.ne_of_lt (Heap.lt_size hz)
 rw [hsz]
 refine wpAny_bind (wpAny_setField_rec (Heap.get?_push_of_some _ z5) (by simp) fun V8 z6 s6 => ?_)
 refine wpAny_setField_rec z6 (by simp) fun Lm z7 s7 => ?_
 refine wpAny_pure ⟨_, rfl, ?_⟩
 have k7 : ∀ c, c ≠ z → Lm.get? c = (Ll.push { cls := .type "tuple", data := .seq #[x, y] }).get? c := fun c hc => (s7.2 c hc).trans (s6.2 c hc)
 have k8 : ∀ c o, c ≠ z → Ll.get? c = some o → Lm.get? c = some o := fun c o hc q => (k7 c hc).trans (Heap.get?_push_of_some _ q)
 refine hQ Lm z7 (k8 _ _ D.TOz Sa) (m1.at fun o q => ?_) (m2.at fun o q => ?_) ?_ ?_ (fun c o c1 c2 c3 c4 q => k8 c o c1 (k5 c o c1 c3 c2 c4 q))
 ·exact k8 _ _ D.i1z ((s5.2 _ D.TOi1.symm).trans ((s4.2 _ D.i12).trans ((s3.2 _ D.TOi1.symm).trans q)))
 ·exact k8 _ _ D.i2z ((s5.2 _ D.TOi2.symm).trans q)
 ·refine (k7 _ zn.symm).trans ?_
  rw [← hsz]; exact Heap.get?_push_size _ rfl
 ·have a6 := s6.1; have a7 := s7.1
  have a8 := Heap.size_push Ll { cls := .type "tuple", data := .seq #[x, y] }
  dsimp only at a6 a7
  omega
end
end L3
namespace L3
open PySem PySem.Spec L2
section
variable {prog : Program} {w : World} {A : Around} {E : Value → Shared → Prop} {s : Shared}
theorem wC {tp : Bool} {it l : Addr} {i : Nat} {items : Array Value} {Q : Value → Shared → Prop} (hh : A.handled = none) (hit : r6 tp s.heap it l i)
  (ht : uY tp s.heap l items) (hx : items[i]? = none)
  (hE : ∀ h' e, Heap.ExtBut it s.heap h' → (∃ o, h'.get? e = some o ∧ o.cls = .type "StopIteration") → E (.ref e) { s with heap := h' }) :
  wpAny (model prog w) A (Builtin.SmallTypes.nextOf (.ref it)) Q E s := by
 cases tp
 ·exact wpAny_nextOf_list_end hh (show s.heap.IsListIter it l i from hit) (show s.heap.IsList l items from ht) hx hE
 ·exact nv hh (show s.heap.IsTupleIter it l i from hit) (show s.heap.IsTuple l items from ht) hx hE
theorem FZ {t1 t2 : Bool} {z TI TO i1 i2 l1 l2 : Addr} {k : Nat} {a b : Value} {xs ys : Array Value} {Q : PySem.Fin → Shared → Prop} (hh : A.handled = none) (D : ZipApart z TI TO i1 i2 l1 l2) (hz : IsZip s.heap z TI TO Value.none) (hTI : IsPair s.heap TI (.ref i1) (.ref i2)) (hTO : IsPair s.heap TO a b)
  (h1 : r6 t1 s.heap i1 l1 k) (h2 : r6 t2 s.heap i2 l2 k) (p1 : uY t1 s.heap l1 xs) (p2 : uY t2 s.heap l2 ys) (hx : xs[k]? = none ∨ ys[k]? = none)
  (hE : ∀ h' e, (∀ c o, c ≠ z → c ≠ TO → c ≠ i1 → c ≠ i2 → s.heap.get? c = some o → h'.get? c = some o) → (∃ o, h'.get? e = some o ∧ o.cls = .type "StopIteration") → E (.ref e) { s with heap := h' }) :
  wpAny (model prog w) A (Builtin.«zip.__next__» { pos := [Value.ref z] }) Q E s := by
 unfold «Builtin».«zip.__next__»
 refine wpAny_bind (wpAny_pure ?_)
 dsimp only
 refine wpAny_bind (wpAny_field hz rfl (x := .bool false) rfl ?_)
 refine wpAny_bind (wpAny_field hz rfl (x := .ref TI) rfl ?_)
 refine wpAny_bind (wpAny_seqItems hTI rfl ?_)
 dsimp only
 rw [if_neg (by simp)]
 refine wpAny_bind ?_
 unfold Builtin.SmallTypes.ownedTupleIsFree
 refine wpAny_bind (wpAny_field hz rfl (x := .none) rfl ?_)
 dsimp only
 refine wpAny_pure ?_
 rw [if_pos rfl]
 refine wpAny_bind (wpAny_rule ?_)
 refine wpAny_bind (wpAny_field hz rfl (x := .ref TO) rfl ?_)
 dsimp only
 refine wpAny_bind (wpAny_setField_rec hz (by simp) fun NU z1 s1 => ?_)
 have k1 : ∀ c o, c ≠ z → s.heap.get? c = some o → NU.get? c = some o := fun c o hc q => (s1.2 c hc).trans q
 refine wpAny_bind ?_
 rw [show [Value.ref i1, Value.ref i2].zipIdx = [(.ref i1, 0), (.ref i2, 1)] from rfl, List.forIn_cons]
 refine wpAny_bind ?_
 dsimp only
 refine wpAny_bind (wpAny_onRaise ?_)
 cases Iz : xs[k]? with
 | none =>
  refine wpAny_bind (wC hh (h1.at fun o q => k1 _ _ D.i1z q) (p1.at fun o q => k1 _ _ D.l1z q) Iz fun h2' e s2 he => ?_)
  obtain ⟨oe, ge, ce⟩ := he
  have z2 := s2 _ _ D.i1z.symm z1
  have QD : e ≠ z := by
   rintro rfl
   rw [z2] at ge; cases ge; exact absurd (show Value.type "zip" = Value.type "StopIteration" from ce) (by decide)
  refine wpAny_setField_rec z2 (by simp) fun h3' z3 s3 => ?_
  exact hE _ _ (fun c o c1 c2 c3 c4 q => (s3.2 c c1).trans (s2 _ _ c3 (k1 c o c1 q))) ⟨oe, (s3.2 e QD).trans ge, ce⟩
 | some x =>
 refine wpAny_bind (pF (h1.at fun o q => k1 _ _ D.i1z q) (p1.at fun o q => k1 _ _ D.l1z q) Iz fun h2' m1 s2 => wpAny_pure ?_)
 have hy : ys[k]? = none := by
  rcases hx with hx | hx
  ·rw [Iz] at hx; cases hx
  ·exact hx
 have k2 : ∀ c o, c ≠ z → c ≠ i1 → s.heap.get? c = some o → h2'.get? c = some o := fun c o hc hd q => (s2.2 c hd).trans (k1 c o hc q)
 dsimp only
 have NV : IsPair h2' TO a b := k2 _ _ D.TOz D.TOi1 hTO
 refine wpAny_bind (wpAny_seqItems NV rfl ?_)
 dsimp only
 refine wpAny_bind (wpAny_updateSeq_pair NV fun h3' e3 s3 => ?_)
 refine wpAny_bind (wpAny_letGo (wpAny_pure ?_))
 have k3 : ∀ c o, c ≠ z → c ≠ i1 → c ≠ TO → s.heap.get? c = some o → h3'.get? c = some o := fun c o hc hd he q => (s3.2 c he).trans (k2 c o hc hd q)
 dsimp only
 rw [List.forIn_cons]
 refine wpAny_bind ?_
 dsimp only
 refine wpAny_bind (wpAny_onRaise ?_)
 refine wpAny_bind (wC hh (h2.at fun o q => k3 _ _ D.i2z D.i12.symm D.TOi2.symm q) (p2.at fun o q => k3 _ _ D.l2z D.l2i1 D.l2TO q) hy fun R8 e s4 he => ?_)
 obtain ⟨oe, ge, ce⟩ := he
 have z4 := s4 _ _ D.i2z.symm ((s3.2 z D.TOz.symm).trans ((s2.2 z D.i1z.symm).trans z1))
 have QD : e ≠ z := by
  rintro rfl
  rw [z4] at ge; cases ge; exact absurd (show Value.type "zip" = Value.type "StopIteration" from ce) (by decide)
 refine wpAny_setField_rec z4 (by simp) fun Ll z5 s5 => ?_
 exact hE _ _ (fun c o c1 c2 c3 c4 q => (s5.2 c c1).trans (s4 _ _ c4 (k3 c o c1 c3 c2 q))) ⟨oe, (s5.2 e QD).trans ge, ce⟩
end
end L3
end
section
set_option Elab.async false
set_option linter.all false
set_option maxRecDepth 100000
namespace L3
open PySem PySem.Spec L2
section
variable {prog : Program} {w : World} {A : Around} {E : Value → Shared → Prop} {s : Shared}
theorem vp {t1 t2 : Bool} {z TI TO i1 i2 l1 l2 : Addr} {k : Nat} {a b x y : Value} {xs ys : Array Value} {Q : Option Value → Shared → Prop} (D : ZipApart z TI TO i1 i2 l1 l2) (hz : IsZip s.heap z TI TO Value.none) (hTI : IsPair s.heap TI (.ref i1) (.ref i2)) (hTO : IsPair s.heap TO a b)
  (h1 : r6 t1 s.heap i1 l1 k) (h2 : r6 t2 s.heap i2 l2 k) (p1 : uY t1 s.heap l1 xs) (p2 : uY t2 s.heap l2 ys) (hx : xs[k]? = some x) (hy : ys[k]? = some y)
  (hQ : ∀ h', IsZip h' z TI TO (rawInt s.heap.objs.size) → IsPair h' TO x y → r6 t1 h' i1 l1 (k + 1) → r6 t2 h' i2 l2 (k + 1) → IsPair h' s.heap.objs.size x y → h'.objs.size = s.heap.objs.size + 1 →
   (∀ c o, c ≠ z → c ≠ TO → c ≠ i1 → c ≠ i2 → s.heap.get? c = some o → h'.get? c = some o) → Q (some (.ref s.heap.objs.size)) { s with heap := h' }) :
  wpAny (model prog w) A (pyNext (.ref z)) Q E s := by
 have ht : s.TypeIs (.ref z) "zip" := ⟨_, hz, rfl⟩
 unfold pyNext
 refine wpAny_bind (wpAny_attempt (wpAny_callSpecial?_slot (name := Str.ofString "__next__") ht F.slot_zip_next (wpAny_call_entry F.slot_zip_next ht F.entry_zip_next ?_ (F.args_zip_next_1 _))))
 exact DL D hz hTI hTO h1 h2 p1 p2 hx hy fun h' a1 a2 a3 a4 a5 a6 a7 => wpAny_pure (hQ h' a1 a2 a3 a4 a5 a6 a7)
theorem xY {t1 t2 : Bool} {z TI TO i1 i2 l1 l2 : Addr} {k : Nat} {a b : Value} {xs ys : Array Value} {Q : Option Value → Shared → Prop} (hh : A.handled = none) (D : ZipApart z TI TO i1 i2 l1 l2) (hz : IsZip s.heap z TI TO Value.none) (hTI : IsPair s.heap TI (.ref i1) (.ref i2)) (hTO : IsPair s.heap TO a b)
  (h1 : r6 t1 s.heap i1 l1 k) (h2 : r6 t2 s.heap i2 l2 k) (p1 : uY t1 s.heap l1 xs) (p2 : uY t2 s.heap l2 ys) (hx : xs[k]? = none ∨ ys[k]? = none)
  (hQ : ∀ h', (∀ c o, c ≠ z → c ≠ TO → c ≠ i1 → c ≠ i2 → s.heap.get? c = some o → h'.get? c = some o) → Q none { s with heap := h' }) :
  wpAny (model prog w) A (pyNext (.ref z)) Q E s := by
 have ht : s.TypeIs (.ref z) "zip" := ⟨_, hz, rfl⟩
 unfold pyNext
 refine wpAny_bind (wpAny_attempt (wpAny_callSpecial?_slot (name := Str.ofString "__next__") ht F.slot_zip_next (wpAny_call_entry F.slot_zip_next ht F.entry_zip_next ?_ (F.args_zip_next_1 _))))
 refine FZ hh D hz hTI hTO h1 h2 p1 p2 hx fun h' e hk he => ?_
 refine wpAny_bind (wpAny_isInstance (T := "StopIteration") (v := .ref e) he isSubtype_stop ?_)
 rw [if_pos rfl]
 exact wpAny_pure (hQ _ hk)
noncomputable def Mb (tp : Bool) (l : Addr) : Obj := { cls := .type (if tp = true then "tuple_iterator" else "list_iterator"), data := .fields #[.ref l, .int 0 0] }
theorem Ga {tp : Bool} {l : Addr} {xs : Array Value} {Q : Value → Shared → Prop} (h : uY tp s.heap l xs) (hQ : Q (.ref s.heap.objs.size) { s with heap := s.heap.push (Mb tp l) }) : wpAny (model prog w) A (pyIter (.ref l)) Q E s := by
 cases tp
 ·exact wpAny_pyIter_list (show s.heap.IsList l xs from h) hQ
 ·exact wpAny_pyIter_tuple (show s.heap.IsTuple l xs from h) hQ
end
noncomputable abbrev Mc (t1 : Bool) (h : Heap) (l1 : Addr) : Heap := h.push (Mb t1 l1)
noncomputable abbrev Ln (t1 t2 : Bool) (h : Heap) (l1 l2 : Addr) : Heap := (Mc t1 h l1).push (Mb t2 l2)
noncomputable abbrev Lo (t1 t2 : Bool) (h : Heap) (l1 l2 : Addr) : Heap := (Ln t1 t2 h l1 l2).push { cls := .type "tuple", data := .seq #[.ref h.objs.size, .ref (Mc t1 h l1).objs.size] }
noncomputable abbrev Me (t1 t2 : Bool) (h : Heap) (l1 l2 : Addr) : Heap := (Lo t1 t2 h l1 l2).push { cls := .type "tuple", data := .seq #[.none, .none] }
noncomputable abbrev O9 (t1 t2 : Bool) (h : Heap) (l1 l2 : Addr) : Heap := (Me t1 t2 h l1 l2).push { cls := .type "zip", data := .fields #[.none, .bool false, .bool false, .ref (Ln t1 t2 h l1 l2).objs.size, .ref (Lo t1 t2 h l1 l2).objs.size] }
theorem Bk (t1 t2 : Bool) (l1 l2 : Addr) (xs ys : Array Value) :
  Meets (Builtin.«zip.__new__» ⟨[.type "zip", .ref l1, .ref l2], []⟩) (fun _ R s => uY t1 s.heap l1 xs ∧ uY t2 s.heap l2 ys ∧
   R (.ok (.ret (.ref (Me t1 t2 s.heap l1 l2).objs.size))) { s with heap := O9 t1 t2 s.heap l1 l2 }) :=
 .of_wp fun prog w A R s h => by
  obtain ⟨h1, h2, h⟩ := h
  have hsub := sub_zip
  have h2' : uY t2 (s.heap.push (Mb t1 l1)) l2 ys := h2.at fun o q => Heap.get?_push_of_some _ q
  unfold «Builtin».«zip.__new__»
  refine wpAny_bind ?_
  unfold Builtin.SmallTypes.newClass
  dsimp only
  refine wpAny_bind (wpAny_pure ?_)
  rw [if_neg (by decide), hsub]
  refine wpAny_bind (wpAny_pure ?_)
  rw [if_neg (by decide)]
  refine wpAny_pure ?_
  dsimp only
  rw [if_neg (by simp)]
  refine wpAny_bind ?_
  unfold Builtin.SmallTypes.iterAll
  dsimp only
  refine wpAny_bind ?_
  rw [List.forIn_cons]
  refine wpAny_bind (wpAny_bind (wpAny_holding (Ga h1 (wpAny_pure ?_))))
  dsimp only
  rw [List.forIn_cons]
  refine wpAny_bind (wpAny_bind (wpAny_holding (Ga h2' (wpAny_pure ?_))))
  dsimp only
  rw [List.forIn_nil]
  refine wpAny_pure (wpAny_pure ?_)
  refine wpAny_bind (wpAny_newTuple ?_ (by simp [sizeLine_eq]))
  refine wpAny_bind (wpAny_newTuple ?_ (by simp [sizeLine_eq]))
  refine wpAny_bind ?_
  unfold Builtin.SmallTypes.newRecord
  dsimp only
  exact wpAny_newObj_type (wpAny_pure ⟨_, rfl, h⟩) (by simp [sizeOk, sizeLine_eq, Builtin.SmallTypes.ownedTupleFields])
theorem DM {prog : Program} {w : World} {A : Around} {E : Value → Shared → Prop} {s : Shared} {t1 t2 : Bool} {l1 l2 : Addr} {xs ys : Array Value} {Q : Value → Shared → Prop} (h1 : uY t1 s.heap l1 xs) (h2 : uY t2 s.heap l2 ys)
  (h : ∀ h', IsZip h' (s.heap.objs.size + 4) (s.heap.objs.size + 2) (s.heap.objs.size + 3) .none → IsPair h' (s.heap.objs.size + 2) (.ref s.heap.objs.size) (.ref (s.heap.objs.size + 1)) → IsPair h' (s.heap.objs.size + 3) .none .none →
   r6 t1 h' s.heap.objs.size l1 0 → r6 t2 h' (s.heap.objs.size + 1) l2 0 → h'.objs.size = s.heap.objs.size + 5 → (∀ c o, s.heap.get? c = some o → h'.get? c = some o) → Q (.ref (s.heap.objs.size + 4)) { s with heap := h' }) :
  wpAny (model prog w) A (call (.type "zip") [.ref l1, .ref l2]) Q E s := by
 refine callType_new F.called_zip (by decide) (F.typeCall_zip_2 _ _) (F.newCall_zip_2 _ _) (fun obj => F.args_object_init_3 obj _ _) F.entry_zip_new
  (Bk t1 t2 l1 l2 xs ys) ⟨h1, h2, ?_⟩
 have n1 : (Mc t1 s.heap l1).objs.size = s.heap.objs.size + 1 := Heap.size_push ..
 have n2 : (Ln t1 t2 s.heap l1 l2).objs.size = s.heap.objs.size + 2 := by rw [Ln, Heap.size_push, n1]
 have n3 : (Lo t1 t2 s.heap l1 l2).objs.size = s.heap.objs.size + 3 := by rw [Lo, Heap.size_push, n2]
 have n4 : (Me t1 t2 s.heap l1 l2).objs.size = s.heap.objs.size + 4 := by rw [Me, Heap.size_push, n3]
 have n5 : (O9 t1 t2 s.heap l1 l2).objs.size = s.heap.objs.size + 5 := by rw [O9, Heap.size_push, n4]
 have gz := Heap.get?_push_size (Me t1 t2 s.heap l1 l2) (o := { cls := .type "zip", data := .fields #[.none, .bool false, .bool false, .ref (Ln t1 t2 s.heap l1 l2).objs.size, .ref (Lo t1 t2 s.heap l1 l2).objs.size] }) rfl
 have gO := Heap.get?_push_size (Lo t1 t2 s.heap l1 l2) (o := { cls := .type "tuple", data := .seq #[.none, .none] }) rfl
 have gI := Heap.get?_push_size (Ln t1 t2 s.heap l1 l2) (o := { cls := .type "tuple", data := .seq #[.ref s.heap.objs.size, .ref (Mc t1 s.heap l1).objs.size] }) rfl
 have g2 : r6 t2 (Ln t1 t2 s.heap l1 l2) (s.heap.objs.size + 1) l2 0 := by
  have := Heap.get?_push_size (Mc t1 s.heap l1) (o := Mb t2 l2) rfl
  rw [n1] at this
  cases t2 <;> exact ⟨_, this, rfl, rfl⟩
 have g1 : r6 t1 (Mc t1 s.heap l1) s.heap.objs.size l1 0 := by
  have := Heap.get?_push_size s.heap (o := Mb t1 l1) rfl
  cases t1 <;> exact ⟨_, this, rfl, rfl⟩
 replace gz : IsZip (O9 t1 t2 s.heap l1 l2) (s.heap.objs.size + 4) (s.heap.objs.size + 2) (s.heap.objs.size + 3) .none := by rw [IsZip, ← n4, ← n2, ← n3]; exact gz
 replace gO : IsPair (Me t1 t2 s.heap l1 l2) (s.heap.objs.size + 3) .none .none := by rw [IsPair, ← n3]; exact gO
 replace gI : IsPair (Lo t1 t2 s.heap l1 l2) (s.heap.objs.size + 2) (.ref s.heap.objs.size) (.ref (s.heap.objs.size + 1)) := by rw [IsPair, ← n2, ← n1]; exact gI
 have kp : ∀ {h : Heap} {o' : Obj} {c : Addr} {o : Obj}, h.get? c = some o → (h.push o').get? c = some o := fun q => Heap.get?_push_of_some _ q
 refine ⟨?_, ?_⟩
 ·rw [n4]; exact ⟨_, gz, rfl⟩
 ·rw [n4]
  exact h _ gz (kp (kp gI)) (kp gO) (g1.at fun o q => kp (kp (kp (kp q)))) (g2.at fun o q => kp (kp (kp q))) n5 fun c o q => kp (kp (kp (kp (kp q))))
end L3
end
section
set_option Elab.async false
set_option linter.all false
set_option maxRecDepth 100000
namespace L3
open PySem PySem.Spec L2
noncomputable def Gb (t : Bool) (K : PySem.W.Frag) (H : Hp) (a : Addr) (xs : List V) : Prop := if t = true then n9 K H a xs else mH K H a xs
section
variable {X : Cx} {pins : List (Addr × Obj)} {σ : L2.St} {H : Hp} {s : Shared} {a : Addr} {xs ys : List V} {t : Bool}
theorem _root_.L2.Inv.Bl (I : Inv X pins σ H s) (h : Gb t X.K H a xs) : ∃ its : List Value, Vals xs its ∧ uY t s.heap a its.toArray := by
 cases t
 ·obtain ⟨its, r, p, _⟩ := I.list (show mH X.K H a xs from h)
  exact ⟨its, r, p.isList⟩
 ·obtain ⟨its, r, p, _⟩ := I.tuple (show n9 X.K H a xs from h)
  exact ⟨its, r, p⟩
theorem _root_.L2.Inv.zO (I : Inv X pins σ H s) (h : Gb t X.K H a xs) (h' : Gb t X.K H a ys) : xs = ys := by
 cases t
 ·exact I.pU (show mH X.K H a xs from h) (show mH X.K H a ys from h')
 ·exact I.qX (show n9 X.K H a xs from h) (show n9 X.K H a ys from h')
theorem uY.lt {h : Heap} {its : Array Value} (p : uY t h a its) : a < h.objs.size := by
 cases t
 ·obtain ⟨o, e, _⟩ := (show h.IsList a its from p); exact Heap.lt_size e
 ·obtain ⟨o, e, _⟩ := (show h.IsTuple a its from p); exact Heap.lt_size e
end
noncomputable def Lp (K : PySem.W.Frag) (t1 t2 : Bool) (a b : Addr) : It :=
 ⟨fun i H => ∃ xs ys x y, Gb t1 K H a xs ∧ Gb t2 K H b ys ∧ xs[i]? = some x ∧ ys[i]? = some y, fun i H v H' => ∃ x y p, (∀ xs, Gb t1 K H a xs → xs[i]? = some x) ∧ (∀ ys, Gb t2 K H b ys → ys[i]? = some y) ∧ H p = none ∧ v = .ref p ∧ H' = upd H p (.tup [x, y]), fun i H => ∃ xs ys, Gb t1 K H a xs ∧ Gb t2 K H b ys ∧ (xs.length ≤ i ∨ ys.length ≤ i)⟩
theorem DP {P : Program} {w : World} {K : PySem.W.Frag} {es : List Expr} {k : Nat} {pt : Pos} (t1 t2 : Bool) (l1 l2 z TI TO i1 i2 : Addr) (D : ZipApart z TI TO i1 i2 l1 l2) : Turn P w K (.Tuple es k pt) (Lp K t1 t2 l1 l2) [z, TI, TO, i1, i2] z
  (fun i h => IsZip h z TI TO .none ∧ IsPair h TI (.ref i1) (.ref i2) ∧ (∃ a b, IsPair h TO a b) ∧ r6 t1 h i1 l1 i ∧ r6 t2 h i2 l2 i) where
 mem := by simp
 obj := fun i h ⟨hz, hTI, ⟨a, b, hTO⟩, h1, h2⟩ c hc => by
  simp only [List.mem_cons, List.not_mem_nil, or_false] at hc
  rcases hc with rfl | rfl | rfl | rfl | rfl
  ·exact ⟨_, hz, fun v e => by cases e⟩
  ·exact ⟨_, hTI, fun v e => by cases e⟩
  ·exact ⟨_, hTO, fun v e => by cases e⟩
  ·exact h1.get
  ·exact h2.get
 keep := fun i h h' ⟨hz, hTI, ⟨a, b, hTO⟩, h1, h2⟩ kp => ⟨kp z (by simp) _ hz, kp TI (by simp) _ hTI, ⟨a, b, kp TO (by simp) _ hTO⟩, h1.at fun o q => kp i1 (by simp) o q, h2.at fun o q => kp i2 (by simp) o q⟩
 item := by
  intro X hP hw hK hc i pins s σ H E I hf ⟨hz, hTI, ⟨a, b, hTO⟩, h1, h2⟩ hg
  subst hP hw hK
  obtain ⟨xs, ys, x, y, hq1, hq2, hx, hy⟩ := hg
  obtain ⟨QF, NW, p1⟩ := I.Bl hq1
  obtain ⟨its2, Mf, p2⟩ := I.Bl hq2
  obtain ⟨u1, hu1, UG⟩ := NW.get hx
  obtain ⟨u2, UH, QH⟩ := Mf.get hy
  have lt : ∀ {c o}, s.heap.get? c = some o → c ≠ s.heap.objs.size := fun e => Nat.ne_of_lt (Heap.lt_size e)
  have QJ : i1 ≠ s.heap.objs.size := by obtain ⟨o, q, _⟩ := h1.get; exact lt q
  have QK : i2 ≠ s.heap.objs.size := by obtain ⟨o, q, _⟩ := h2.get; exact lt q
  refine vp D hz hTI hTO h1 h2 p1 p2 (x := u1) (y := u2) (by simpa using hu1) (by simpa using UH) fun h' a1 a2 a3 a4 a5 a6 hk => ?_
  refine ⟨.ref s.heap.objs.size, rfl, ?_⟩
  have I1 : Inv X pins σ (upd H s.heap.objs.size (.tup [x, y])) { s with heap := s.heap.push { cls := .type "tuple", data := .seq #[u1, u2] } } :=
   I.laid (t' := s.toks) (fun b o q => Heap.get?_push_of_some _ q) (Nat.le_refl _) ⟨by simp [sizeLine_eq], [u1, u2], .cons UG (.cons QH .nil), PyProof.Rows.IsTup.new _ _⟩
  have hfree := I.hok.fresh (Nat.le_refl s.heap.objs.size)
  have hne : ∀ c ∈ [z, TI, TO, i1, i2], c ≠ s.heap.objs.size := fun c hc => by
   simp only [List.mem_cons, List.not_mem_nil, or_false] at hc
   rcases hc with rfl | rfl | rfl | rfl | rfl
   ·exact lt hz
   ·exact lt hTI
   ·exact lt hTO
   ·exact QJ
   ·exact QK
  have hf1 : ∀ c ∈ [z, TI, TO, i1, i2], oZ X pins (upd H s.heap.objs.size (.tup [x, y])) c := fun c hc => ⟨by rw [aJ (hne c hc)]; exact (hf c hc).1, (hf c hc).2⟩
  refine wpAny_letOwnedTupleGo_zip (s := { s with heap := h' }) a1 fun h2' hz' hs' => ?_
  have QL : IsPair h' TI (.ref i1) (.ref i2) := hk _ _ D.TIz D.TITO D.TIi1 D.TIi2 hTI
  refine ⟨.ref s.heap.objs.size, _, sY (t' := s.toks) (s := { s with heap := s.heap.push { cls := .type "tuple", data := .seq #[u1, u2] } }) (ch := [z, TI, TO, i1, i2]) I1 (fun c o hc q => ?_) hf1, rfl, ⟨x, y, s.heap.objs.size, fun zs hz => by rw [I.zO hz hq1]; exact hx, fun zs hz => by rw [I.zO hz hq2]; exact hy, hfree, rfl, rfl⟩, ⟨hz', hs'.extBut _ _ D.TIz QL, ⟨_, _, hs'.extBut _ _ D.TOz a2⟩, a3.at fun o q => hs'.extBut _ _ D.i1z q, a4.at fun o q => hs'.extBut _ _ D.i2z q⟩, fun c hc => (hf1 c hc).1⟩
  have c1 : c ≠ z := fun q => hc (by simp [q])
  have c2 : c ≠ TO := fun q => hc (by simp [q])
  have c3 : c ≠ i1 := fun q => hc (by simp [q])
  have c4 : c ≠ i2 := fun q => hc (by simp [q])
  refine hs'.extBut _ _ c1 ?_
  by_cases hcs : c = s.heap.objs.size
  ·subst hcs
   have := Heap.get?_push_size (o := { cls := .type "tuple", data := .seq #[u1, u2] }) s.heap rfl
   rw [this] at q; cases q
   exact a5
  ·have q' : (s.heap.push { cls := .type "tuple", data := .seq #[u1, u2] }).get? c = some o := q
   refine hk c o c1 c2 c3 c4 ?_
   rwa [Heap.get?_push_ne _ _ _ hcs] at q'
 done := by
  intro X hP hw hK hc i pins s σ H E I hf ⟨hz, hTI, ⟨a, b, hTO⟩, h1, h2⟩ hg
  subst hP hw hK
  obtain ⟨xs, ys, hq1, hq2, hx⟩ := hg
  obtain ⟨QF, NW, p1⟩ := I.Bl hq1
  obtain ⟨its2, Mf, p2⟩ := I.Bl hq2
  have hl1 := NW.length
  have hl2 := Mf.length
  refine xY (I.ok.hd hc) D hz hTI hTO h1 h2 p1 p2 (by
   rcases hx with hx | hx
   ·left; simp; omega
   ·right; simp; omega) fun h' hk => ⟨rfl, sY (t' := s.toks) (ch := [z, TI, TO, i1, i2]) I (fun c o hc q => hk c o (fun e => hc (by simp [e])) (fun e => hc (by simp [e])) (fun e => hc (by simp [e])) (fun e => hc (by simp [e])) q) hf⟩
 self := fun _ _ _ _ _ ⟨hz, _⟩ h => wpAny_pyIter_zip hz h
noncomputable def cS (G : DH) (d : D) : Option (Bool × List D) := match aD G d with
 | some (.lst xs) => some (false, xs)
 | some (.tup xs) => some (true, xs)
 | _ => none
noncomputable def uu (d e : D) : View := fun G i => match cS G d, cS G e with
 | some (_, xs), some (_, ys) => some (match xs[i]?, ys[i]? with
  | some x, some y => some (.tup [x, y])
  | _, _ => none)
 | _, _ => none
noncomputable def Cw (m : DS → M (List D)) : MI := fun τ => (m τ).bind fun ds => match ds with
 | [d, e] => fun G => match cS G d, cS G e with
  | some (_, xs), some (_, ys) => .ok (min xs.length ys.length + 1, uu d e) G
  | _, _ => .stuck
 | _ => M.stop
section
variable {X : Cx} {EE : fK} {tg iter a b : Expr} {g : pS} {mi : MI} {ms : MS} {pos p pc : Pos} {m : DS → M (List D)}
theorem uv {pins : List (Addr × Obj)} {σ0 : L2.St} {H : Hp} {s : Shared} {ρ : List Addr} {G : DH} {d : D} {ds : List D} {x : V} {t : Bool} (h : iB X.K X.mg H ρ G) (r : Rep X.K X.mg ρ H d x) (e : cS G d = some (t, ds)) :
  ∃ p xs, x = .ref p ∧ Gb t X.K H p xs ∧ au X.K X.mg ρ H ds xs := by
 unfold cS at e
 cases q : aD G d with
 | none => rw [q] at e; cases e
 | some k =>
  rw [q] at e
  cases k with
  | lst zs =>
   cases e
   obtain ⟨p, xs, h1, h2, h3⟩ := cJ (pins := pins) (σ0 := σ0) (s := s) h r q
   exact ⟨p, xs, h1, h2, h3⟩
  | tup zs =>
   cases e
   obtain ⟨p, xs, h1, h2, h3⟩ := fL r q
   exact ⟨p, xs, h1, h2, h3⟩
  | str z => cases e
theorem Cy {H : Hp} {ρ : List Addr} {G : DH} {d : D} {ds : List D} {x : V} {t : Bool} (r : Rep X.K X.mg ρ H d x) (h : iB X.K X.mg H ρ G) (e : cS G d = some (t, ds)) :
  ∃ p xs, x = .ref p ∧ Gb t X.K H p xs ∧ au X.K X.mg ρ H ds xs := by
 unfold cS at e
 cases q : aD G d with
 | none => rw [q] at e; cases e
 | some k =>
  rw [q] at e
  cases k with
  | lst zs =>
   cases e
   cases d with
   | con ds =>
    cases q
    unfold Rep at r
    obtain ⟨a', xs, e, s, r⟩ := r
    exact ⟨a', xs, e, s.seq, r⟩
   | obj n =>
    obtain ⟨a', rfl, e⟩ := (show ∃ a, x = .ref a ∧ ρ[n]? = some a by unfold Rep at r; exact r)
    obtain ⟨xs, h1, h2⟩ := FF dh.refl r h q
    exact ⟨a', xs, rfl, h1, h2⟩
   | _ => cases q
  | tup zs =>
   cases e
   obtain ⟨p, xs, h1, h2, h3⟩ := fL r q
   exact ⟨p, xs, h1, h2, h3⟩
  | str z => cases e
theorem wD {H H' : Hp} {ρ ρ' : List Addr} {G G' : DH} {d : D} {l : Addr} {t t' : Bool} {ds ds' : List D} (q : cS G d = some (t, ds)) (q' : cS G' d = some (t', ds')) : t = t' := by
 unfold cS at q q'
 cases d with
 | tup xs => cases q; cases q'; rfl
 | con xs => cases q; cases q'; rfl
 | obj n =>
  dsimp only [aD] at q q'
  have f : ∀ {G : DH} {t : Bool} {ds : List D}, (match (match G[n]? with | some (.lst xs) => some (M8.lst xs) | _ => none) with | some (.lst xs) => some (false, xs) | some (.tup xs) => some (true, xs) | _ => none) = some (t, ds) → t = false := by
   intro G t ds h
   cases g : G[n]? with
   | none => rw [g] at h; cases h
   | some o => cases o <;> (rw [g] at h; cases h) <;> rfl
  exact (f q).trans (f q').symm
 | _ => cases q
theorem IA {H : Hp} {ρ : List Addr} {G : DH} {d e : D} {l1 l2 : Addr} {t1 t2 : Bool} {ds es : List D} (r1 : Rep X.K X.mg ρ H d (.ref l1)) (r2 : Rep X.K X.mg ρ H e (.ref l2)) (k1 : cS G d = some (t1, ds)) (k2 : cS G e = some (t2, es)) : JV X.K X.mg (Lp X.K t1 t2 l1 l2) (uu d e) H ρ := by
 intro i H' ρ' G' f hp
 unfold uu
 cases q1 : cS G' d with
 | none => exact ⟨fun e => (by cases e), fun x e => (by cases e)⟩
 | some s1 =>
  cases q2 : cS G' e with
  | none => exact ⟨fun e => (by cases e), fun x e => (by cases e)⟩
  | some s2 =>
     obtain ⟨u1, zs⟩ := s1
     obtain ⟨u2, ws⟩ := s2
     have e1 := wD (H := H) (H' := H') (ρ := ρ) (ρ' := ρ') (l := l1) k1 q1
     have e2 := wD (H := H) (H' := H') (ρ := ρ) (ρ' := ρ') (l := l2) k2 q2
     subst e1 e2
     dsimp only
     obtain ⟨p1, xs, y1, Pa, Sb⟩ := Cy (r1.mono f) hp q1
     obtain ⟨p2, ys, y2, Mg, Sd⟩ := Cy (r2.mono f) hp q2
     cases y1; cases y2
     have V9 := Sb.length
     have Wa := Sd.length
     cases h1 : zs[i]? with
     | none =>
      refine ⟨fun _ => ⟨xs, ys, Pa, Mg, .inl ?_⟩, fun x e => (by cases e)⟩
      rw [List.getElem?_eq_none_iff] at h1; omega
     | some x =>
      cases h2 : ws[i]? with
      | none =>
       refine ⟨fun _ => ⟨xs, ys, Pa, Mg, .inr ?_⟩, fun x e => (by cases e)⟩
       rw [List.getElem?_eq_none_iff] at h2; omega
      | some y =>
       refine ⟨fun e => (by cases e), fun t e => ?_⟩
       cases e
       obtain ⟨v1, hv1, NW⟩ := Sb.get h1
       obtain ⟨v2, hv2, Mf⟩ := Sd.get h2
       refine ⟨⟨xs, ys, v1, v2, Pa, Mg, hv1, hv2⟩, fun v H2 hy => ?_⟩
       obtain ⟨x', y', pp, hx', hy', hfree, rfl, rfl⟩ := hy
       have e1 := hx' xs Pa
       rw [hv1] at e1; cases e1
       have e2 := hy' ys Mg
       rw [hv2] at e2; cases e2
       have ff : dh X.K H' (upd H' pp (.tup [v1, v2])) ρ' ρ' := ef hfree ρ'
       refine ⟨⟨ff, fun G hG => hG.new hfree⟩, ?_⟩
       unfold Rep
       exact ⟨pp, [v1, v2], rfl, .of bX, .cons (NW.mono ff) (.cons (Mf.mono ff) .nil)⟩
theorem IB {es : List Expr} {k : Nat} {pt : Pos} (hm : X.mg "zip" = none) (ze : Gl X "zip") (ha : QA X EE [a, b] m) (h : aA [a, b] = true := by rfl) : QI X EE (.Tuple es k pt) (.Call (.Name "zip" p) [a, b] [] pc) (Cw m) := by
 have h' : eB a = true ∧ aA [b] = true := by simpa [aA] using h
 intro pins s σ H R I hq
 obtain ⟨τ, ρ, G, ab, ok⟩ := hq
 dsimp only [Cw, M.bind] at ok
 refine wpAny_Call_Name_kw (jC I ze hm boot_zip ?_ (by decide) (by decide))
 have hA : p5 X.K X.mg EE m σ H fun vs H1 => ∃ ρ1 G1 ds, Ab X.K X.mg σ H1 τ ρ1 G1 ∧ dh X.K H H1 ρ ρ1 ∧ au X.K X.mg ρ1 H1 ds vs ∧ m τ G = .ok ds G1 := by
  refine ⟨τ, ρ, G, ab, ?_⟩
  cases e : m τ G with
  | stuck => rw [e] at ok; exact ok
  | bY c G' => rw [e] at ok; exact ok
  | ok ds G' => exact fun vs H' ρ' f bH r => ⟨ρ', G', ds, bH, f, r, rfl⟩
 refine PyProof.Rows.callWith_type1 (fT (ha pc pins s σ H _ I hA) fun us s1 DB => ?_) (cP h'.1 _ _) (cK h'.2)
 obtain ⟨vs, H1, I1, r1, ρ1, G1, ds, mR, f1, rs, em⟩ := DB
 rw [em] at ok
 dsimp only at ok
 match ds, rs, ok with
 | [], _, ok => exact ok.elim
 | [_], _, ok => exact ok.elim
 | _ :: _ :: _ :: _, _, ok => exact ok.elim
 | [d, e], rs, ok =>
  unfold au at rs
  obtain ⟨x, rest, rfl, rx, rs⟩ := rs
  obtain ⟨y, rfl, ry⟩ := jU rs
  cases r1 with
  | cons ru rr =>
  rename_i u us'
  obtain ⟨u2, rfl, QH⟩ := vals1 rr
  dsimp only at ok
  cases q : cS G1 d with
  | none => rw [q] at ok; exact ok.elim
  | some sk =>
   cases q2 : cS G1 e with
   | none => rw [q, q2] at ok; exact ok.elim
   | some UI =>
      rw [q, q2] at ok
      dsimp only at ok
      obtain ⟨t1, zs⟩ := sk
      obtain ⟨t2, ws⟩ := UI
      obtain ⟨l, ys, rfl, sq, rv⟩ := uv (pins := pins) (σ0 := σ) (s := s1) mR.hp rx q
      obtain ⟨l2, Wb, rfl, Mg, Mf⟩ := uv (pins := pins) (σ0 := σ) (s := s1) mR.hp ry q2
      cases ru
      cases QH
      obtain ⟨its, vv, pl⟩ := I1.Bl sq
      obtain ⟨its2, Wc, Se⟩ := I1.Bl Mg
      refine DM pl Se fun h2 b1 b2 b3 b4 b5 hsz kp => ?_
      refine wpAny_pyIter_zip (s := { s1 with heap := h2 }) b1 ?_
      have I2 : Inv X pins σ H1 { s1 with heap := h2 } := I1.kept (t' := s1.toks) kp
      have ll : l < s1.heap.objs.size := pl.lt
      have UJ : l2 < s1.heap.objs.size := Se.lt
      have Wd : (l : Nat) < s1.heap.objs.size := ll
      have UK : (l2 : Nat) < s1.heap.objs.size := UJ
      have D : ZipApart (s1.heap.objs.size + 4) (s1.heap.objs.size + 2) (s1.heap.objs.size + 3) s1.heap.objs.size (s1.heap.objs.size + 1) l l2 := by
       constructor <;> (intro q; simp only [Addr] at *; omega)
      refine ⟨s1.heap.objs.size + 4, _, _, Lp X.K t1 t2 l l2, H1, rfl, I2, DP t1 t2 l l2 _ _ _ _ _ D, ⟨b1, b2, ⟨_, _, b3⟩, b4, b5⟩, fun c hc => ?_, ok _ H1 ρ1 f1 mR (IA rx ry q q2)⟩
      have hge : s1.heap.objs.size ≤ c := by
       simp only [List.mem_cons, List.not_mem_nil, or_false] at hc
       rcases hc with rfl | rfl | rfl | rfl | rfl <;> omega
      exact I1.tH hge (I1.hok.fresh hge)
end
end L3
end
section
set_option Elab.async false
set_option linter.all false
set_option maxRecDepth 100000
namespace L3
open PySem PySem.Spec L2
noncomputable def uw : D → Option (List Key)
 | .tup ds => bR xW ds
 | _ => none
noncomputable def Bm : Key → D
 | .inl i => .int i
 | .inr x => .str x
section
variable {K : PySem.W.Frag} {mg : Str → Option Value} {H : Hp} {ρ : List Addr} {G : DH}
theorem zP : ∀ {ds : List D} {xs : List V} {ks : List Key}, au K mg ρ H ds xs → bR xW ds = some ks → xs = ks.map kV
 | [], xs, ks, r, e => by
  unfold au at r; subst r
  cases e; rfl
 | d :: ds, xs, ks, r, e => by
  unfold au at r
  obtain ⟨v, vs, rfl, h1, h2⟩ := r
  unfold bR at e
  cases q1 : xW d with
  | none => rw [q1] at e; cases e
  | some k =>
   cases q2 : bR xW ds with
   | none => rw [q1, q2] at e; cases e
   | some r =>
    rw [q1, q2] at e; cases e
    rw [Ir h1 q1, zP h2 q2]; rfl
theorem ux {d : D} {v : V} {ks : List Key} (r : Rep K mg ρ H d v) (e : uw d = some ks) : ∃ b, v = .ref b ∧ H b = some (.tup (ks.map kV)) := by
 cases d with
 | tup ds =>
  unfold Rep at r
  obtain ⟨a, xs, rfl, sq, rs⟩ := r
  exact ⟨a, rfl, by rw [← zP rs e]; exact sq⟩
 | _ => cases e
theorem zQ : ∀ (ks : List Key), au K mg ρ H (ks.map Bm) (ks.map kV)
 | [] => .nil
 | k :: ks => .cons (by cases k <;> (unfold Rep; rfl)) (zQ ks)
noncomputable def IC (fz : Bool) (H : Hp) (a : Addr) (u : List (List Key × V)) : Prop := if fz = true then ∃ o, H a = some (.jc o (.dT u)) else H a = some (.dT u)
theorem IC.rd {fz : Bool} {a : Addr} {u : List (List Key × V)} (h : IC fz H a u) : Rd H a (.dT u) := by
 cases fz
 ·exact .inl h
 ·exact .inr h
theorem iB.d8 {n : Nat} {fz : Bool} {kvs : List (List Key × D)} (h : iB K mg H ρ G) (e : G[n]? = some (.d8 fz kvs)) : ∃ a xs, ρ[n]? = some a ∧ IC fz H a ((kvs.map (·.1)).zip xs) ∧ au K mg ρ H (kvs.map (·.2)) xs := by
 obtain ⟨a, e1, xs, e2, r⟩ := h.ob n _ e
 exact ⟨a, xs, e1, e2, r⟩
theorem qm {p : Addr} {u : List (List Key × V)} {ob : HO} (hp : H p = some (.dT u)) (ρ : List Addr) : dh K H (upd H p ob) ρ ρ := by
 refine ⟨fun a zs h => ?_, fun a zs h => ?_, ⟨[], by simp⟩, fun a φ h => h.upd hp rfl⟩
 ·exact (by rw [yJ, aJ (gT h hp (by intro z; cases z))]; exact h)
 ·rcases h with ⟨q, h⟩ | h
  ·exact .inl ⟨q, by rw [aJ (gT h hp (by intro z; cases z))]; exact h⟩
  ·exact .inr h
theorem iB.JL {p : Addr} (h : iB K mg H ρ G) (hp : H p = none) : iB K mg (upd H p (.dT [])) (ρ ++ [p]) (G ++ [.d8 false []]) := by
 have f : dh K H (upd H p (.dT [])) ρ (ρ ++ [p]) := (ef hp ρ).trans (eV ρ p)
 refine ⟨by simp [h.hl], ?_, fun n ob e => ?_⟩
 ·rw [List.nodup_append]
  refine ⟨h.nd, by simp, fun a ha b hb => ?_⟩
  have e : b = p := by simpa using hb
  subst e
  rintro rfl
  exact h.not_mem hp ha
 ·by_cases hn : n < G.length
  ·rw [List.getElem?_append_left hn] at e
   obtain ⟨a, e1, r'⟩ := h.ob n ob e
   exact ⟨a, f.get e1, r'.mono f fun u q => by rw [aJ (dg q hp)]; exact q⟩
  ·have hl : n < (G ++ [DO.d8 false []]).length := (List.getElem?_eq_some_iff.mp e).1
   have hn' : n = G.length := by simp at hl; omega
   subst hn'
   rw [aB] at e
   cases e
   exact ⟨p, by rw [← h.hl, aB], [], bX, .nil⟩
theorem iB.NX {n : Nat} {a : Addr} {fz : Bool} {es : List (List Key × D)} {u : List (List Key × V)} {ob : HO} {ys : List V} (h : iB K mg H ρ G) (hn : ρ[n]? = some a) (ha : H a = some (.dT u))
  (ho : IC fz (upd H a ob) a ((es.map (·.1)).zip ys)) (r : au K mg ρ H (es.map (·.2)) ys) :
  iB K mg (upd H a ob) ρ (G.set n (.d8 fz es)) := by
 have f : dh K H (upd H a ob) ρ ρ := qm ha ρ
 refine ⟨by simp [h.hl], h.nd, fun m o e => ?_⟩
 by_cases hm : n = m
 ·subst hm
  rw [List.getElem?_set, if_pos rfl] at e
  split at e
  ·cases e
   exact ⟨a, hn, ys, ho, r.mono f⟩
  ·cases e
 ·rw [List.getElem?_set_ne hm] at e
  obtain ⟨b, e1, r'⟩ := h.ob m o e
  have hb : b ≠ a := by
   rintro rfl
   obtain ⟨h1, xw⟩ := List.getElem?_eq_some_iff.mp hn
   obtain ⟨h2, D8⟩ := List.getElem?_eq_some_iff.mp e1
   exact hm ((List.getElem_inj h.nd).mp (xw.trans D8.symm))
  exact ⟨b, e1, r'.mono f fun u q => by rw [aJ hb]; exact q⟩
end
section
variable {X : Cx} {EE : fK} {e f o i a : Expr} {pos apos cpos tpos : Pos} {mo me mf mv mi : DS → M D}
noncomputable def Bo : DS → M D := fun _ G => .ok (.obj G.length) (G ++ [.d8 false []])
theorem Gd : QE X EE (.Dict [] [] pos) Bo := PE.mono EB fun σ H Q ⟨τ, ρ, G, ab, ok⟩ => fun p hp => by
 refine ok (.ref p) _ (ρ ++ [p]) ((ef hp ρ).trans (eV ρ p)) ⟨ab.st.mono ((ef hp ρ).trans (eV ρ p)), ab.hp.JL hp⟩ ?_
 unfold Rep
 exact ⟨p, rfl, by rw [← ab.hp.hl, aB]⟩
noncomputable def Ge (d k : D) : M D := fun G => match d, uw k with
 | .obj n, some y => match G[n]? with
  | some (.d8 _ kvs) => match vj kvs y with
   | some v => .ok v G
   | none => .stuck
  | _ => .stuck
 | _, _ => .stuck
noncomputable def Cz (mo mi : DS → M D) : DS → M D := fun τ => (mo τ).bind fun d => (mi τ).bind fun k => Ge d k
theorem ID (hu : X.A.units + 600 < cLine) (ho : QE X EE o mo) (hi : QE X EE i mi) (hs : KJ i) : QE X EE (.Subscript o i pos) (Cz mo mi) := by
 refine PE.mono (HH (by omega) ho hi hs) fun σ H Q ⟨τ, ρ, G, ab, ok⟩ => ?_
 refine ⟨τ, ρ, G, ab, ?_⟩
 dsimp only [Cz, M.bind] at ok
 cases e1 : mo τ G with
 | stuck => rw [e1] at ok; exact ok
 | bY c G' => rw [e1] at ok; exact ok
 | ok d G1 =>
  rw [e1] at ok
  dsimp only at ok
  intro vd H1 ρ1 f1 mR r1
  refine ⟨τ, ρ1, G1, mR, ?_⟩
  cases e2 : mi τ G1 with
  | stuck => rw [e2] at ok; exact ok
  | bY c G' => rw [e2] at ok; exact fun H' ρ' f bH => ok H' ρ' (f1.trans f) bH
  | ok k G2 =>
   rw [e2] at ok
   dsimp only [Ge] at ok
   intro vk H2 ρ2 f2 dz r2
   cases d with
   | obj n =>
    cases ek : uw k with
    | none => rw [ek] at ok; exact ok.elim
    | some y =>
     rw [ek] at ok
     dsimp only at ok
     cases g : G2[n]? with
     | none => rw [g] at ok; exact ok.elim
     | some ob =>
      cases ob with
      | d8 fz kvs =>
       rw [g] at ok
       dsimp only at ok
       have r1' := r1.mono f2
       unfold Rep at r1'
       obtain ⟨p, rfl, ep⟩ := r1'
       obtain ⟨p', xs, BW, eH, rs⟩ := dz.hp.d8 g
       rw [ep] at BW; cases BW
       obtain ⟨b, rfl, eb⟩ := ux r2 ek
       rcases zI y rs with ⟨z1, z2⟩ | ⟨dv, v, z1, z2, z3⟩
       ·rw [z1] at ok; exact ok.elim
       ·rw [z1] at ok
        exact ⟨p, v, rfl, .inr ⟨_, y, b, eH.rd, rfl, eb, z2.symm⟩, ok v H2 ρ2 (f1.trans f2) dz z3⟩
      | _ => rw [g] at ok; exact ok.elim
   | _ => exact ok.elim
noncomputable def kQ (v d k : D) : M D := fun G => match d, uw k with
 | .obj n, some y => match G[n]? with
  | some (.d8 false kvs) => if kvs.length < sizeLine then .ok .cj (G.set n (.d8 false (zH kvs y v))) else .stuck
  | _ => .stuck
 | _, _ => .stuck
theorem CA {H : Hp} {ρ : List Addr} {G : DH} {σ : L2.St} {τ : DS} {v d k : D} {vv vo vi : V} {S : Hp → Prop} (ab : Ab X.K X.mg σ H τ ρ G) (rv : Rep X.K X.mg ρ H v vv) (ro : Rep X.K X.mg ρ H d vo) (ri : Rep X.K X.mg ρ H k vi)
  (hn : kQ v d k G ≠ .stuck)
  (ok : ∀ r G' H', kQ v d k G = .ok r G' → dh X.K H H' ρ ρ → Ab X.K X.mg σ H' τ ρ G' → S H') : ∃ a H', vo = .ref a ∧ u0 H a vi vv H' ∧ S H' := by
 unfold kQ at hn ok
 cases d with
 | obj n =>
  cases ek : uw k with
  | none => rw [ek] at hn; exact (hn rfl).elim
  | some y =>
   rw [ek] at ok hn
   dsimp only at ok hn
   cases g : G[n]? with
   | none => rw [g] at hn; exact (hn rfl).elim
   | some ob =>
    cases ob with
    | d8 fz kvs =>
     cases fz with
     | true => rw [g] at hn; exact (hn rfl).elim
     | false =>
      rw [g] at ok hn
      dsimp only at ok hn
      unfold Rep at ro
      obtain ⟨p, rfl, ep⟩ := ro
      obtain ⟨p', xs, BW, hp, rs⟩ := ab.hp.d8 g
      rw [ep] at BW; cases BW
      by_cases hl : kvs.length < sizeLine
      ·rw [if_pos hl] at ok
       obtain ⟨b, rfl, eb⟩ := ux ri ek
       obtain ⟨ys, ey, ry⟩ := FH y rv rs
       refine ⟨p, _, rfl, u0.t hp eb ?_, ?_⟩
       ·have := rs.length
        simp at this
        simp [← this]; exact hl
       ·rw [ey]
        exact ok _ _ _ rfl (qm hp ρ) ⟨ab.st.mono (qm hp ρ), ab.hp.NX ep hp bX ry⟩
      ·rw [if_neg hl] at hn; exact (hn rfl).elim
    | _ => rw [g] at hn; exact (hn rfl).elim
 | _ => exact (hn rfl).elim
noncomputable def uy (mv mo mi : DS → M D) : MS := fun τ => bZ ((mv τ).bind fun v => (mo τ).bind fun o => (mi τ).bind fun i => kQ v o i) (fun _ G => .nx τ G) fun c G => .xn c τ G
theorem Gf (hu : X.A.units + 600 < cLine) (hv : QE X EE a mv) (ho : QE X EE o mo) (hi : QE X EE i mi) (h : xH a = true := by rfl) : QS X EE (.Assign [.Subscript o i tpos] a pos) (uy mv mo mi) :=
 PS.mono (HJ (by omega) ho hi hv (xK h _ _ _)) fun Dd σ H ⟨τ, ρ, G, ab, ok⟩ => by
  refine ⟨τ, ρ, G, ab, ?_⟩
  dsimp only [uy, bZ, M.bind] at ok
  cases e1 : mv τ G with
  | stuck => rw [e1] at ok; exact ok
  | bY c G' => rw [e1] at ok; exact fun H' ρ' f bH => ok σ H' ρ' f bH
  | ok v G1 =>
   rw [e1] at ok
   intro vv H1 ρ1 f1 mR r1
   refine ⟨τ, ρ1, G1, mR, ?_⟩
   dsimp only at ok
   cases e2 : mo τ G1 with
   | stuck => rw [e2] at ok; exact ok
   | bY c G' => rw [e2] at ok; exact fun H' ρ' f bH => ok σ H' ρ' (f1.trans f) bH
   | ok ov G2 =>
    rw [e2] at ok
    intro vo H2 ρ2 f2 dz r2
    refine ⟨τ, ρ2, G2, dz, ?_⟩
    dsimp only at ok
    cases e3 : mi τ G2 with
    | stuck => rw [e3] at ok; exact ok
    | bY c G' => rw [e3] at ok; exact fun H' ρ' f bH => ok σ H' ρ' ((f1.trans f2).trans f) bH
    | ok iv G3 =>
     rw [e3] at ok
     intro vi H3 ρ3 f3 AO r3
     dsimp only at ok
     refine CA AO (r1.mono (f2.trans f3)) (r2.mono f3) r3 (fun q => by rw [q] at ok; exact ok.elim) fun r G' H' q f bH => ?_
     rw [q] at ok
     exact ok σ H' ρ3 (((f1.trans f2).trans f3).trans f) bH
end
end L3
end
section
set_option Elab.async false
set_option linter.all false
set_option maxRecDepth 100000
namespace L3
open PySem PySem.Spec L2
section
variable {X : Cx} {EE : fK}
theorem Gg {pins : List (Addr × Obj)} {σ : L2.St} {H : Hp} {s : Shared} {a : Addr} {u : List (List Key × V)} {o : Obj} (I : Inv X pins σ H s) (e : H a = some (.dT u)) (hg : s.heap.get? a = some o) : Inv X pins σ (upd H a (.jc o (.dT u))) s := by
 refine I.un (H' := upd H a (.jc o (.dT u))) (h' := s.heap) (t' := s.toks) ⟨fun b o q _ _ _ => q, fun b o q _ _ _ => ⟨o.slots, q⟩, fun b o q hn _ => ?_, fun b o q _ => ⟨o, q⟩, fun b ys q => ?_, fun b o u q => ?_, fun b ps q => ⟨#[], ?_⟩⟩ fun b u' q => ?_
 ·rw [aJ (by rintro rfl; rw [e] at hn; cases hn)]; exact hn
 ·rw [aJ (gT q e (by intro z; cases z))]; exact q
 ·rw [aJ (gT q e (by intro z; cases z))]; exact q
 ·rw [aJ (gT q e (by intro z; cases z)), q]; simp
 ·have ho : ∀ c y, H c = some (.own y) → upd H a (.jc o (.dT u)) c = some (.own y) := fun c y w => by rw [aJ (gT w e (by intro z; cases z))]; exact w
  have ht : ∀ c ys, H c = some (.tup ys) → upd H a (.jc o (.dT u)) c = some (.tup ys) := fun c ys w => by rw [aJ (gT w e (by intro z; cases z))]; exact w
  by_cases hb : b = a
  ·subst hb
   rw [bX] at q; cases q
   exact ⟨hg, (I.hok b _ e).stay (fun _ _ _ w => w) (fun c w => ho c b w) ht⟩
  ·rw [aJ hb] at q
   exact (I.hok b u' q).stay (fun _ _ _ w => w) (fun c w => ho c b w) ht
end
theorem xZ {X : Cx} {pins : List (Addr × Obj)} {σ : L2.St} {H : Hp} {s : Shared} {a : Addr} {u : List (List Key × V)} {o : Obj} (I : Inv X pins σ H s) (e : H a = some (.jc o (.dT u))) :
  s.heap.get? a = some o ∧ (a == sysModules) = false ∧ o.ExactDict ∧ ∃ es ep, o.data = .dict es ep ∧ es.size = u.length ∧ ∀ (i : Nat) k v, u[i]? = some (k, v) → ∃ en b, es[i]? = some en ∧ en.key = .ref b ∧ H b = some (.tup (k.map kV)) := by
 obtain ⟨h1, z, y, xs, r, o', es, ep, h2, h3, h4, h5, h6⟩ := (show fk X.prog X.w H s.heap a (.jc o (.dT u)) from I.hok a _ e)
 rw [h1] at h2; cases h2
 have hl : u.length = xs.length := Paired.length r
 refine ⟨h1, y, h3, es, ep, h4, ?_, fun i k v hi => ?_⟩
 ·have := congrArg List.length h5
  simp at this; omega
 ·have get : ∀ {l : List (List Key × V)} {m : List (List Key × Addr × Value)}, KT H l m → ∀ (i : Nat) k v, l[i]? = some (k, v) → ∃ q, m[i]? = some q ∧ H q.2.1 = some (.tup (k.map kV)) := by
   intro l m q
   induction q with
   | nil => intro i k v hi; simp at hi
   | @cons p q ps qs hq t ih =>
    intro i k v hi
    cases i with
    | zero => simp at hi; subst hi; exact ⟨q, rfl, hq.2.1⟩
    | succ i => exact ih i k v (by simpa using hi)
  obtain ⟨q, hq, hH⟩ := get r i k v hi
  refine ⟨entryOfKey (tupleKind (dG X.prog X.w)) q, q.2.1, ?_, rfl, hH⟩
  have : es.toList[i]? = some (entryOfKey (tupleKind (dG X.prog X.w)) q) := by rw [h5, List.getElem?_map, hq]; rfl
  simpa using this
noncomputable def NY (o : Obj) (a : Addr) (u : List (List Key × V)) : It :=
 ⟨fun i H => H a = some (.jc o (.dT u)) ∧ i < u.length, fun i H y H' => H' = H ∧ ∃ b k v, y = .ref b ∧ u[i]? = some (k, v) ∧ H b = some (.tup (k.map kV)), fun i H => H a = some (.jc o (.dT u)) ∧ u.length ≤ i⟩
theorem Bp {h h' : Heap} {it a : Addr} {i n ep : Nat} (st : h.IsKeyIter it a i n ep) (k : ∀ o, h.get? it = some o → h'.get? it = some o) : h'.IsKeyIter it a i n ep := let ⟨o, e, r⟩ := st; ⟨o, k o e, r⟩
theorem Bq {P : Program} {w : World} {K : PySem.W.Frag} {tg : Expr} (o : Obj) (u : List (List Key × V)) (a it : Addr) (ep : Nat) (es : Array DictEntry) (hd : o.data = .dict es ep) : Turn P w K tg (NY o a u) [it] it (fun i h => h.IsKeyIter it a i es.size ep) where
 mem := by simp
 obj := fun i h st b hb => by
  have e : b = it := by simpa using hb
  subst e
  obtain ⟨o, e, c, d⟩ := st
  exact ⟨o, e, fun v z => by rw [d] at z; cases z⟩
 keep := fun i h h' st k => Bp st fun o e => k it (by simp) o e
 item := by
  intro X hP hw hK hc i pins s σ H E I hf st hg
  subst hP hw hK
  obtain ⟨eH, hi⟩ := hg
  obtain ⟨h1, _, h2, es', BW, h3, h4, h5⟩ := xZ I eH
  rw [hd] at h3; cases h3
  obtain ⟨en, b, g1, g2, g3⟩ := h5 i _ _ (by rw [List.getElem?_eq_getElem hi])
  obtain ⟨f0, f1, f2, f3, f4, f5⟩ := hf it (by simp)
  refine ur st h1 h2 hd g1 fun h' st' sb => ?_
  have I1 : Inv X pins σ H { s with heap := h' } := I.turned (t' := s.toks) (fun b o hb e => (sb.2 b hb).trans e) f0 f1 f3 f4 f5
  obtain ⟨o, e, c, d⟩ := id st'
  exact ⟨_, rfl, vX (s := { s with heap := h' }) e c d (by decide) ⟨.ref b, H, I1, g2, ⟨rfl, b, _, _, rfl, List.getElem?_eq_getElem hi, g3⟩, st', fun b hb => (hf b hb).1⟩⟩
 done := by
  intro X hP hw hK hc i pins s σ H E I hf st hg
  subst hP hw hK
  obtain ⟨eH, hi⟩ := hg
  obtain ⟨h1, _, h2, es', BW, h3, h4, h5⟩ := xZ I eH
  rw [hd] at h3; cases h3
  obtain ⟨f0, f1, f2, f3, f4, f5⟩ := hf it (by simp)
  exact vn (I.ok.hd hc) st h1 h2 hd (by simp; omega) fun h' eb => ⟨rfl, I.turned (t' := s.toks) (fun b o hb e => eb b o hb e) f0 f1 f3 f4 f5⟩
 self := fun _ _ _ _ _ st h => wpAny_pyIter_keyiter st h
noncomputable def Br (kvs : List (List Key × D)) : View := fun _ i => if i ≤ kvs.length then some ((kvs[i]?).map fun kv => .tup (kv.1.map Bm)) else none
noncomputable def Gh (m : DS → M D) : MI := fun τ => (m τ).bind fun d G => match d with
 | .obj n => match G[n]? with
  | some (.d8 _ kvs) => .ok (kvs.length + 1, Br kvs) (G.set n (.d8 true kvs))
  | _ => .stuck
 | _ => .stuck
theorem IE {K : PySem.W.Frag} {mg : Str → Option Value} {H0 : Hp} {ρ0 : List Addr} {kvs : List (List Key × D)} {xs : List V} {o : Obj} {a : Addr} (hl : kvs.length = xs.length) (e : H0 a = some (.jc o (.dT ((kvs.map (·.1)).zip xs)))) : JV K mg (NY o a ((kvs.map (·.1)).zip xs)) (Br kvs) H0 ρ0 := by
 intro i H ρ G f hp
 have eH := (f.ext a _ ⟨e, rfl⟩).1
 have hz : ((kvs.map (·.1)).zip xs).length = kvs.length := by simp [hl]
 unfold Br
 constructor
 ·intro q
  by_cases hi : i ≤ kvs.length
  ·rw [if_pos hi] at q
   cases g : kvs[i]? with
   | some kv => rw [g] at q; cases q
   | none =>
    have := List.getElem?_eq_none_iff.mp g
    exact ⟨eH, by omega⟩
  ·rw [if_neg hi] at q; cases q
 ·intro d q
  by_cases hi : i ≤ kvs.length
  ·rw [if_pos hi] at q
   cases g : kvs[i]? with
   | none => rw [g] at q; cases q
   | some kv =>
    rw [g] at q; cases q
    obtain ⟨hi', _⟩ := List.getElem?_eq_some_iff.mp g
    refine ⟨⟨eH, by omega⟩, fun y H' hy => ?_⟩
    obtain ⟨rfl, b, k, v, rfl, hk, hb⟩ := hy
    have e1 : k = kv.1 := by
     rw [List.getElem?_zip_eq_some] at hk
     rw [List.getElem?_map, g] at hk
     exact (Option.some.inj hk.1).symm
    subst e1
    refine ⟨⟨dh.refl, fun G hG => hG⟩, ?_⟩
    unfold Rep
    exact ⟨b, _, rfl, hb, zQ kv.1⟩
  ·rw [if_neg hi] at q; cases q
section
variable {X : Cx} {EE : fK} {tg e : Expr} {m : DS → M D}
theorem CB (ha : QE X EE e m) : QI X EE tg e (Gh m) := by
 intro pins s σ H R I hq
 obtain ⟨τ, ρ, G, ab, ok⟩ := hq
 dsimp only [Gh, M.bind] at ok
 have hA : dw X.K X.mg EE m σ H fun v H1 => ∃ ρ1 G1 d, Ab X.K X.mg σ H1 τ ρ1 G1 ∧ dh X.K H H1 ρ ρ1 ∧ Rep X.K X.mg ρ1 H1 d v ∧ m τ G = .ok d G1 := by
  refine ⟨τ, ρ, G, ab, ?_⟩
  cases e : m τ G with
  | stuck => rw [e] at ok; exact ok
  | bY c G' => rw [e] at ok; exact ok
  | ok d G' => exact fun v H' ρ' f bH r => ⟨ρ', G', d, bH, f, r, rfl⟩
 refine fT (ha pins s σ H _ I hA) fun u s1 DB => ?_
 obtain ⟨v, H1, I1, ru, ρ1, G1, d, mR, f1, rd, em⟩ := DB
 rw [em] at ok
 dsimp only at ok
 cases d with
 | obj n =>
  dsimp only at ok
  cases g : G1[n]? with
  | none => rw [g] at ok; exact ok.elim
  | some ob =>
   cases ob with
   | d8 fz kvs =>
    rw [g] at ok
    dsimp only at ok
    unfold Rep at rd
    obtain ⟨p, rfl, ep⟩ := rd
    cases ru
    obtain ⟨p', xs, BW, eH, rs⟩ := mR.hp.d8 g
    rw [ep] at BW; cases BW
    have hl : kvs.length = xs.length := by simpa using rs.length
    have fin : ∀ (o : Obj) (H2 : Hp), Inv X pins σ H2 s1 → H2 p = some (.jc o (.dT ((kvs.map (·.1)).zip xs))) → dh X.K H1 H2 ρ1 ρ1 → iB X.K X.mg H2 ρ1 (G1.set n (.d8 true kvs)) →
      wpAny (model X.prog X.w) X.A (pyIter (.ref p)) (PJ X pins σ tg R) X.xe s1 := by
     intro o H2 I2 e2 f2 hb2
     obtain ⟨h1, h0, h2, es, Sf, h3, h4, h5⟩ := xZ I2 e2
     refine DK h0 h1 h2 h3 ?_
     have I3 : Inv X pins σ H2 { s1 with heap := s1.heap.push { cls := .type "dict_keyiterator", data := .fields #[.ref p, .int 0 0, .int es.size 0, .int Sf 0] } } := I2.kept (t' := s1.toks) fun c o q => Heap.get?_push_of_some _ q
     refine ⟨s1.heap.objs.size, _, _, _, H2, rfl, I3, Bq o _ p _ Sf es h3, ⟨_, Heap.get?_push_size _ rfl, rfl, rfl⟩, fun c hc => ?_, ok _ H2 ρ1 (f1.trans f2) ⟨mR.st.mono f2, hb2⟩ (IE hl e2)⟩
     rw [List.mem_singleton.mp hc]
     exact I2.tH (Nat.le_refl _) (I2.hok.fresh (Nat.le_refl _))
    cases fz with
    | false =>
     obtain ⟨o, hg⟩ : ∃ o, s1.heap.get? p = some o := by
      obtain ⟨_, _, _, _, o, _, _, h, _⟩ := (show fk X.prog X.w H1 s1.heap p (.dT _) from I1.hok p _ eH)
      exact ⟨o, h⟩
     exact fin o _ (Gg I1 eH hg) bX (qm eH ρ1) (mR.hp.NX ep eH ⟨o, bX⟩ rs)
    | true =>
     obtain ⟨o, eH⟩ := eH
     refine fin o _ I1 eH dh.refl ?_
     have : G1.set n (.d8 true kvs) = G1 := by
      apply List.ext_getElem?
      intro j
      by_cases hj : n = j
      ·subst hj
       rw [List.getElem?_set, if_pos rfl, if_pos (List.getElem?_eq_some_iff.mp g).1, g]
      ·rw [List.getElem?_set_ne hj]
     rw [this]; exact mR.hp
   | _ => rw [g] at ok; exact ok.elim
 | _ => exact ok.elim
end
end L3
end
section
set_option Elab.async false
set_option linter.all false
set_option maxRecDepth 100000
namespace L3
open PySem PySem.Spec L2
section
variable {X : Cx} {EE : fK} {k v : Expr} {pos : Pos} {mk mv : DS → M D}
noncomputable def rJ (mk mv : DS → M D) : DS → M D := fun τ G => ((mk τ).bind fun k => (mv τ).bind fun v => (kQ v (.obj G.length) k).bind fun _ => M.ret (.obj G.length)) (G ++ [.d8 false []])
noncomputable def Lq (tk tv : TE) : TE := fun σ H Q => ∀ p, H p = none → tk σ (upd H p (.dT [])) fun x H1 => tv σ H1 fun y H2 => ∃ H3, u0 H2 p x y H3 ∧ (∃ b, x = .ref b) ∧ Q (.ref p) H3
theorem DQ {A : Around} {E : Value → Shared → Prop} {pins : List (Addr × Obj)} {σ : L2.St} {H H' : Hp} {s : Shared} {a b : Addr} {y : V} {r : Value} {Q : Unit → Shared → Prop} (hu : A.units < cLine) (I : Inv X pins σ H s) (g : u0 H a (.ref b) y H') (rv : RelV y r) (h : ∀ s', Inv X pins σ H' s' → Q () s') :
  wpAny (model X.prog X.w) A (dictSet a (.ref b) r) Q E s := by
 rcases g with ⟨kvs, k, e, ey, l, eH⟩ | ⟨kvs, k, b', e, ey, eb, l, eH⟩
 ·cases k <;> cases ey
 ·cases ey
  subst eH
  obtain ⟨z, hd, xs, rel, dd⟩ := Jp I.hok e
  have hz : xs.length ≤ sizeLine := by rw [← Paired.length rel]; exact z
  have hl : (putK kvs k y).length ≤ sizeLine := by have := m5 kvs k y; omega
  refine wpAny_dictSet_heap (knd := tupleKind (dG X.prog X.w)) (xs := xs) (k := k) hu (xq I.hok eb) dd (fun h' L4 hs => h _ ?_) hz
  obtain ⟨q, es, ep, hq, h2, h3, h4, _, h5⟩ := L4
  refine xr I (by rw [e]; exact True.intro) hs ⟨q, hq⟩ ⟨hl, hd, _, (rel.put k eb rv).keeps fun c ys ec => ?_, q, es, ep, hq, h2, h3, h4, h5⟩
  rw [aJ (gT ec e (fun z => nomatch z))]
  exact ec
theorem Gi {tk tv : TE} (hu : X.A.units < cLine) (hk : PE X k tk) (hv : PE X v tv) : PE X (.Dict [some k] [v] pos) (Lq tk tv) := by
 intro pins s σ H Q I q
 have hn := I.hok.fresh (Nat.le_refl s.heap.objs.size)
 have I1 := I.laid (a := s.heap.objs.size) (o := .dT []) (h' := s.heap.push { cls := .type "dict", data := .dict #[] }) (t' := s.toks) (fun _ _ q => Heap.get?_push_of_some _ q) (Nat.le_refl _) (yW s.heap I.big)
 refine wpAny_Dict_any rfl rfl (by simp) (by simp) ?_
 refine pairTrees_cons_walk (fT (hk pins _ σ _ _ I1 (q _ hn)) fun u s1 ⟨x, H1, I2, rx, q1⟩ => fT (hv pins s1 σ H1 _ I2 q1) fun w2 s2 ⟨y, H2, I3, ry, q2⟩ => pairTrees_nil_walk ?_)
 obtain ⟨H3, g, ⟨b, rfl⟩, q3⟩ := q2
 cases rx
 unfold storeAll
 rw [List.forIn_cons]
 refine wpAny_bind (wpAny_bind (DQ hu I3 g ry fun s' I4 => wpAny_pure ?_))
 dsimp only
 rw [List.forIn_nil]
 exact wpAny_pure ⟨.ref s.heap.objs.size, H3, I4, rfl, q3⟩
theorem Gj (hu : X.A.units + 600 < cLine) (hk : QE X EE k mk) (hv : QE X EE v mv) : QE X EE (.Dict [some k] [v] pos) (rJ mk mv) := by
 refine PE.mono (Gi (by omega) hk hv) fun σ H Q ⟨τ, ρ, G, ab, ok⟩ => ?_
 intro p hp
 have f0 : dh X.K H (upd H p (.dT [])) ρ (ρ ++ [p]) := (ef hp ρ).trans (eV ρ p)
 have Ie : Ab X.K X.mg σ (upd H p (.dT [])) τ (ρ ++ [p]) (G ++ [.d8 false []]) := ⟨ab.st.mono f0, ab.hp.JL hp⟩
 refine ⟨τ, ρ ++ [p], _, Ie, ?_⟩
 have r0 : (ρ ++ [p])[G.length]? = some p := by rw [← ab.hp.hl, aB]
 dsimp only [rJ, M.bind, M.ret] at ok
 cases e1 : mk τ (G ++ [.d8 false []]) with
 | stuck => rw [e1] at ok; exact ok
 | bY c G' => rw [e1] at ok; exact fun H' ρ' f bH => ok H' ρ' (f0.trans f) bH
 | ok kd G1 =>
  rw [e1] at ok
  dsimp only at ok
  intro vk H1 ρ1 f1 mR r1
  refine ⟨τ, ρ1, G1, mR, ?_⟩
  cases e2 : mv τ G1 with
  | stuck => rw [e2] at ok; exact ok
  | bY c G' => rw [e2] at ok; exact fun H' ρ' f bH => ok H' ρ' ((f0.trans f1).trans f) bH
  | ok vd G2 =>
   rw [e2] at ok
   dsimp only at ok
   intro vv H2 ρ2 f2 dz r2
   have ro : Rep X.K X.mg ρ2 H2 (.obj G.length) (.ref p) := by
    unfold Rep; exact ⟨p, rfl, (f1.trans f2).get r0⟩
   have ri := r1.mono f2
   cases ek : uw kd with
   | none =>
    have : kQ vd (.obj G.length) kd G2 = .stuck := by simp [kQ, ek]
    rw [this] at ok; exact ok.elim
   | some y =>
    obtain ⟨b, hb, _⟩ := ux ri ek
    obtain ⟨a, H3, e3, g3, q3⟩ := CA (S := fun H' => Q (.ref p) H') dz r2 ro ri (fun q => by rw [q] at ok; exact ok.elim) fun r G' H' q f bH => by
     rw [q] at ok
     dsimp only at ok
     exact ok (.ref p) H' ρ2 (((f0.trans f1).trans f2).trans f) bH (ro.mono f)
    cases e3
    exact ⟨H3, g3, ⟨b, hb⟩, q3⟩
end
end L3
end
section
set_option Elab.async false
set_option linter.all false
set_option maxRecDepth 100000
namespace L3
open PySem PySem.Spec L2
section
variable {X : Cx} {EE : fK}
theorem DR {k n : Nat} (h : k < n) : seqIndex? (k : Int) n = some k := by
 unfold seqIndex?
 simp
 omega
noncomputable def uz : D → List D → M D
 | .obj n, [.int k] => fun G => match G[n]? with
  | some (.lst xs) => if 0 ≤ k ∧ k < 1000 then match xs[k.toNat]? with
   | some y => .ok y (G.set n (.lst (xs.eraseIdx k.toNat)))
   | none => .stuck
   else .stuck
  | _ => .stuck
 | _, _ => M.stop
theorem au.eraseIdx {K : PySem.W.Frag} {mg : Str → Option Value} {ρ : List Addr} {H : Hp} : ∀ (n : Nat) {ds : List D} {vs : List V}, au K mg ρ H ds vs → au K mg ρ H (ds.eraseIdx n) (vs.eraseIdx n)
 | _, [], vs, h => by unfold au at h; subst h; exact .nil
 | 0, d :: ds, vs, h => by
  unfold au at h
  obtain ⟨v, r, rfl, h1, h2⟩ := h
  exact h2
 | n + 1, d :: ds, vs, h => by
  unfold au at h
  obtain ⟨v, r, rfl, h1, h2⟩ := h
  exact .cons h1 (au.eraseIdx n h2)
theorem DT : MR X "list.pop" (O5 X EE uz) := by
 intro pins s σ0 H x xs v us Q I rx Ng ⟨σ, τ, ρ, G, d, ds, ab, rd, Ea, ok⟩
 cases d <;> try exact ok.elim
 rename_i n
 match ds, ok with
 | [], ok => exact ok.elim
 | y :: _ :: _, ok => cases y <;> exact ok.elim
 | [y], ok =>
  cases y <;> try exact ok.elim
  rename_i k
  obtain ⟨yv, rfl, ry⟩ := jU Ea
  unfold Rep at ry
  subst ry
  unfold Rep at rd
  obtain ⟨p, rfl, e1⟩ := rd
  dsimp only [uz] at ok
  cases g : G[n]? with
  | none => rw [g] at ok; exact ok.elim
  | some o =>
   cases o with
   | lst zs =>
    rw [g] at ok
    dsimp only at ok
    obtain ⟨p', vs, e2, hp, rs⟩ := ab.hp.lst g
    rw [e1] at e2; cases e2
    by_cases hk : 0 ≤ k ∧ k < 1000
    ·rw [if_pos hk] at ok
     cases qz : zs[k.toNat]? with
     | none => rw [qz] at ok; exact ok.elim
     | some y =>
      rw [qz] at ok
      obtain ⟨yv, ey, ry⟩ := rs.get qz
      have hl : k.toNat < vs.length := (List.getElem?_eq_some_iff.mp ey).1
      refine Eu pins s σ0 H _ _ v us Q I rx Ng ⟨p, vs, k, k.toNat, yv, rfl, rfl, hp, by omega, by omega, ?_, ey, A0 (xs := zs) ab e1 hp (rs.eraseIdx _) (fun _ f => ry.mono f) ok⟩
      have := DR hl
      rwa [show ((k.toNat : Nat) : Int) = k by omega] at this
    ·rw [if_neg hk] at ok; exact ok.elim
   | _ => rw [g] at ok; exact ok.elim
theorem DU {pins : List (Addr × Obj)} {s : Shared} {σ : L2.St} {H : Hp} {l : Addr} {xs : List V} {k : Int} {y : V} {us : List Value} {Q : VK} (I : Inv X pins σ H s) (hH : H l = some (.lst xs)) (hz : xs.length < sizeLine) (hk : 0 ≤ k) (hk2 : k < 1000) (rv : Vals [.int k, y] us)
  (q : Q .cj (upd H l (.lst (xs.take k.toNat ++ y :: xs.drop k.toNat)))) : wpAny (model X.prog X.w) X.A (call (.builtin "list.insert") (.ref l :: us)) (fun u s' => ∃ v H', Inv X pins σ H' s' ∧ RelV v u ∧ Q v H') X.xe s := by
 cases rv with
 | cons r1 rr =>
 obtain ⟨u2, rfl, r2⟩ := vals1 rr
 obtain ⟨t, rfl⟩ := r1
 obtain ⟨z, its, n, r, hl, e⟩ := I.HB hH
 have h1 : -(2 ^ 63) ≤ k := by omega
 have h2 : k < 2 ^ 63 := by omega
 have h3 : ¬ (!Builtin.List.listFitsIndex k) = true := by
  rw [fitsIndex_both h1 h2]
  exact Bool.false_ne_true
 have h4 : its.toArray.size ≤ sizeLine := by rw [List.size_toArray]; omega
 refine call_meets F.slot_list_insert ⟨_, e, rfl⟩ F.entry_list_insert (F.args_list_insert_3 _ _ _) (@AutoListH.list_insert_list_int_val_1 l its.toArray n k t u2 h3 h4) ⟨e, ?_⟩
 have ht : its.take (min k.toNat its.length) = its.take k.toNat := by
  rcases Nat.le_total k.toNat its.length with h | h
  ·rw [Nat.min_eq_left h]
  ·rw [Nat.min_eq_right h, List.take_length, List.take_of_length_le h]
 have hd : its.drop (min k.toNat its.length) = its.drop k.toNat := by
  rcases Nat.le_total k.toNat its.length with h | h
  ·rw [Nat.min_eq_left h]
  ·rw [Nat.min_eq_right h, List.drop_length, List.drop_of_length_le h]
 refine ⟨.cj, _, I.KD (its' := its.take k.toNat ++ u2 :: its.drop k.toNat) hH e ?_ ((r.take _).append (.cons r2 (r.drop _))) ?_, rfl, q⟩
 ·apply Array.ext'
  have he : its.toArray.size = its.length := by simp
  have hc : (if k < 0 then (k + its.length).toNat else min k.toNat its.length) = min k.toNat its.length := if_neg (by omega)
  simp only [he, hc]
  rw [← ht, ← hd]
  simp
  rw [List.take_of_length_le (by rw [List.length_drop]; exact Nat.le_refl _)]
 ·have := List.length_take_le k.toNat xs
  simp
  omega
noncomputable def jZ : D → List D → M D
 | .obj n, [.int k, v] => fun G => match G[n]? with
  | some (.lst xs) => if 0 ≤ k ∧ k < 1000 ∧ xs.length < sizeLine then .ok .cj (G.set n (.lst (xs.take k.toNat ++ v :: xs.drop k.toNat))) else .stuck
  | _ => .stuck
 | _, _ => M.stop
theorem Bs : MR X "list.insert" (O5 X EE jZ) := by
 intro pins s σ0 H x xs v us Q I rx Ng ⟨σ, τ, ρ, G, d, ds, ab, rd, Ea, ok⟩
 cases d <;> try exact ok.elim
 rename_i n
 match ds, ok with
 | [], ok => exact ok.elim
 | [y], ok => cases y <;> exact ok.elim
 | y :: _ :: _ :: _, ok => cases y <;> exact ok.elim
 | [y, z], ok =>
  cases y <;> try exact ok.elim
  rename_i k
  unfold au at Ea
  obtain ⟨kv, rest, rfl, rk, Ea⟩ := Ea
  obtain ⟨zv, rfl, rz⟩ := jU Ea
  unfold Rep at rk
  subst rk
  unfold Rep at rd
  obtain ⟨p, rfl, e1⟩ := rd
  dsimp only [jZ] at ok
  cases g : G[n]? with
  | none => rw [g] at ok; exact ok.elim
  | some o =>
   cases o with
   | lst zs =>
    rw [g] at ok
    dsimp only at ok
    obtain ⟨p', vs, e2, hp, rs⟩ := ab.hp.lst g
    rw [e1] at e2; cases e2
    by_cases hk : 0 ≤ k ∧ k < 1000 ∧ zs.length < sizeLine
    ·rw [if_pos hk] at ok
     cases rx
     exact DU I hp (by rw [← rs.length]; exact hk.2.2) hk.1 hk.2.1 Ng (A0 (xs := zs) ab e1 hp ((rs.take _).append (.cons rz (rs.drop _))) (fun _ _ => by unfold Rep; rfl) ok)
    ·rw [if_neg hk] at ok; exact ok.elim
   | _ => rw [g] at ok; exact ok.elim
section
variable {o e e2 : Expr} {apos cpos : Pos} {mo : DS → M D} {m : DS → M (List D)}
theorem Gk (ho : QE X EE o mo) (ha : QA X EE [e] m) (hb : xJ o = true := by rfl) (h : aA [e] = true := by rfl) (hline : (apos.endLine == cpos.line) = true := by rfl) : QE X EE (.Call (.Attribute o "pop" apos) [e] [] cpos) (gp "list" uz mo m) := by
 have h' : eB e = true ∧ aA [] = true := by simpa [aA] using h
 exact E2 PySem.F.plainAttrs_list PySem.F.slot_list_pop PySem.F.type_list_pop DT ho ha (nP hb _ _) (A6 h (by simp)) hline (cP h'.1 _ _) (cK (es := []) rfl)
theorem wF (ho : QE X EE o mo) (ha : QA X EE [e, e2] m) (hb : xJ o = true := by rfl) (h : aA [e, e2] = true := by rfl) (hline : (apos.endLine == cpos.line) = true := by rfl) : QE X EE (.Call (.Attribute o "insert" apos) [e, e2] [] cpos) (gp "list" jZ mo m) := by
 have h' : eB e = true ∧ aA [e2] = true := by simpa [aA] using h
 exact E2 PySem.F.plainAttrs_list PySem.F.slot_list_insert PySem.F.type_list_insert Bs ho ha (nP hb _ _) (A6 h (by simp)) hline (cP h'.1 _ _) (cK h'.2)
end
end
end L3
end
section
set_option Elab.async false
set_option linter.all false
set_option maxRecDepth 100000
namespace L3
open PySem PySem.Spec L2
section
variable {X : Cx} {EE : fK} {a b : Expr} {pos : Pos} {ma mb m : DS → M D}
noncomputable def Mh (m : DS → M D) : DS → M D := fun τ G => match m τ G with
 | .ok d G' => if iw (G'.take G.length) G = true ∧ d.closed = true then .ok d G else .stuck
 | r => r
theorem NZ (ha : QE X EE a m) : QE X EE a (Mh m) := PE.mono ha fun σ H Q ⟨τ, ρ, G, ab, ok⟩ => by
 refine ⟨τ, ρ, G, ab, ?_⟩
 dsimp only [Mh] at ok
 cases q : m τ G with
 | stuck => rw [q] at ok; exact ok
 | bY c G' => rw [q] at ok; exact ok
 | ok d G' =>
  rw [q] at ok
  dsimp only at ok
  by_cases hc : iw (G'.take G.length) G = true ∧ d.closed = true
  ·rw [if_pos hc] at ok
   intro v H' ρ' f bH r
   exact ok v H' ρ (kP f) ⟨ab.st.mono (kP f), ab.hp.cut f.pre bH.hp (jX _ _ hc.1)⟩ (pC d v hc.2 r)
  ·rw [if_neg hc] at ok; exact ok.elim
noncomputable def r8 (d e : D) : M D := fun G => match d, e with
 | .obj n, .int k => match G[n]? with
  | some (.lst xs) => if k < 1000 ∧ -1000 < k ∧ xs.length * k.toNat ≤ sizeLine then bU (List.replicate k.toNat xs).flatten G else .stuck
  | _ => .stuck
 | _, _ => .stuck
theorem au.rep {K : PySem.W.Frag} {mg : Str → Option Value} {ρ : List Addr} {H : Hp} {ds : List D} {vs : List V} (r : au K mg ρ H ds vs) : ∀ k : Nat, au K mg ρ H (List.replicate k ds).flatten (List.replicate k vs).flatten
 | 0 => .nil
 | k + 1 => by
  rw [List.replicate_succ, List.flatten_cons, List.replicate_succ, List.flatten_cons]
  exact r.append (r.rep k)
theorem IF : ly X (binaryOp .Mult) (rD X EE r8) := by
 intro pins s σ0 H x y v u Q I rx ry ⟨σ, τ, ρ, G, d, e, ab, r1, r2, ok⟩
 cases d <;> try exact ok.elim
 rename_i n
 cases e <;> try exact ok.elim
 rename_i k
 dsimp only [r8] at ok
 cases g : G[n]? with
 | none => rw [g] at ok; exact ok.elim
 | some o =>
  cases o with
  | lst zs =>
   rw [g] at ok
   dsimp only at ok
   unfold Rep at r1 r2
   subst r2
   obtain ⟨p, rfl, e1⟩ := r1
   obtain ⟨p', vs, e2, hp, rs⟩ := ab.hp.lst g
   rw [e1] at e2; cases e2
   by_cases hk : k < 1000 ∧ -1000 < k ∧ zs.length * k.toNat ≤ sizeLine
   ·rw [if_pos hk] at ok
    obtain ⟨hl, q1⟩ := o9 ab (rs.rep k.toNat) ok
    exact KH pins s σ0 H _ _ v u Q I rx ry ⟨p, k, vs, rfl, rfl, hp, by omega, by omega, by rw [← rs.length]; exact hk.2.2, q1⟩
   ·rw [if_neg hk] at ok; exact ok.elim
  | _ => rw [g] at ok; exact ok.elim
theorem Lr (ha : QE X EE a ma) (hb : QE X EE b mb) : QE X EE (.BinOp a .Mult b pos) (ay r8 ma mb) := tP IF m8 ha hb
noncomputable def IG (i j l : Nat) : pS := fun d τ => match d with
 | .tup [x, y, z] => some (((τ.set i (some x)).set j (some y)).set l (some z))
 | _ => none
theorem wG {x y z : Str} {i j l : Nat} {px py pz : Pos} {k : Nat} (hc : X.calm = true) (hN : X.N.Nodup) (hx : Loc X.env.scope x) (hy : Loc X.env.scope y) (hz : Loc X.env.scope z) (hfx : X.fn x = true ∨ X.env.scope.names.lookup x = some .local) (Qw : X.fn y = true ∨ X.env.scope.names.lookup y = some .local) (UL : X.fn z = true ∨ X.env.scope.names.lookup z = some .local) (hi : X.N[i]? = some x := by rfl) (hj : X.N[j]? = some y := by rfl) (hl : X.N[l]? = some z := by rfl) :
  QG X (.Tuple [.Name x px, .Name y py, .Name z pz] k pos) (IG i j l) := by
 intro pins s σ H v u Q I r ⟨τ, ρ, G, d, τ', ab, rd, e, q⟩
 refine Ei (n := 3) hc (mY (nO hN hi hx hfx) (mY (nO hN hj hy Qw) (mY (nO hN hl hz UL) BX))) rfl rfl pins s σ H v u Q I r ?_
 cases d <;> try (cases e; done)
 rename_i ds
 match ds, e with
 | [d1, d2, d3], e =>
  cases e
  unfold Rep at rd
  obtain ⟨a, vs, rfl, sq, rs⟩ := rd
  unfold au at rs
  obtain ⟨v1, vs', rfl, r1, rs⟩ := rs
  obtain ⟨v2, v3, rfl, r2, r3⟩ := B7 rs
  exact ⟨a, [v1, v2, v3], rfl, sq, rfl, v1, [v2, v3], rfl, v2, [v3], rfl, v3, [], rfl, rfl, q _ (Ab.set (Ab.set (Ab.set ab r1) r2) r3)⟩
noncomputable def r9 : List D → M D
 | [d] => fun G => match cS G d with
  | some (_, xs) => match intsOf xs with
   | some bs => .ok (.int bs.sum) G
   | none => .stuck
  | _ => .stuck
 | _ => M.stop
theorem DV (hc : X.calm = true) : gU X (.builtin "sum") (G4 X EE r9) := by
 intro pins s σ0 H xs us Q I r ⟨σ, τ, ρ, G, ds, ab, rs, ok⟩
 match ds, ok with
 | [], ok => exact ok.elim
 | _ :: _ :: _, ok => exact ok.elim
 | [d], ok =>
  obtain ⟨x, rfl, rx⟩ := jU rs
  obtain ⟨u, rfl, ru⟩ := vals1 r
  dsimp only [r9] at ok
  cases q : cS G d with
  | none => rw [q] at ok; exact ok.elim
  | some sk =>
   rw [q] at ok
   obtain ⟨t, zs⟩ := sk
   dsimp only at ok
   cases qb : intsOf zs with
   | none => rw [qb] at ok; exact ok.elim
   | some bs =>
    rw [qb] at ok
    obtain ⟨p, vs, rfl, sq, rv⟩ := uv (pins := pins) (σ0 := σ0) (s := s) ab.hp rx q
    cases ru
    obtain ⟨its, vv, hl⟩ := I.Bl sq
    obtain ⟨hlen, hints⟩ := t9 rv vv qb
    have hlt : p < s.heap.objs.size := hl.lt
    refine call_sum_walkG (Ga hl ?_)
    cases t with
    | false =>
     have hl' : s.heap.IsList p its.toArray := hl
     refine ⟨s.heap.objs.size, [s.heap.objs.size, p], [s.heap.objs.size], its.toArray.size, _, _, fun i => bs.getD i 0, rfl, Walks.list (A := X.A.in1) (I.ok.hd hc) _ p (Nat.ne_of_lt hlt) _,
      ⟨⟨_, Heap.get?_push_size _ rfl, rfl, rfl⟩, hl'.push _⟩, fun b hb => ?_, fun i v hP => hints i v (by simpa using hP), fun h' tk t' hk => ?_⟩
     ·show b < (s.heap.push _).objs.size
      rw [Heap.size_push]
      rcases List.mem_cons.mp hb with rfl | hb
      ·exact Nat.lt_succ_self _
      ·rw [List.mem_singleton.mp hb]; exact Nat.lt_succ_of_lt hlt
     ·rw [show its.toArray.size = bs.length by simpa using hlen, preSum_eq bs _ (Nat.le_refl _), List.take_length]
      exact ⟨.int _, H, I.kept (t' := tk) (pq hk), ⟨_, rfl⟩, ok _ H ρ .refl ab (by unfold Rep; rfl)⟩
    | true =>
     have hl' : s.heap.IsTuple p its.toArray := hl
     refine ⟨s.heap.objs.size, [s.heap.objs.size, p], [s.heap.objs.size], its.toArray.size, _, _, fun i => bs.getD i 0, rfl, Walks.tuple (A := X.A.in1) (I.ok.hd hc) _ p (Nat.ne_of_lt hlt) _,
      ⟨⟨_, Heap.get?_push_size _ rfl, rfl, rfl⟩, hl'.at fun o q => Heap.get?_push_of_some _ q⟩, fun b hb => ?_, fun i v hP => hints i v (by simpa using hP), fun h' tk t' hk => ?_⟩
     ·show b < (s.heap.push _).objs.size
      rw [Heap.size_push]
      rcases List.mem_cons.mp hb with rfl | hb
      ·exact Nat.lt_succ_self _
      ·rw [List.mem_singleton.mp hb]; exact Nat.lt_succ_of_lt hlt
     ·rw [show its.toArray.size = bs.length by simpa using hlen, preSum_eq bs _ (Nat.le_refl _), List.take_length]
      exact ⟨.int _, H, I.kept (t' := tk) (pq hk), ⟨_, rfl⟩, ok _ H ρ .refl ab (by unfold Rep; rfl)⟩
theorem II {e : Expr} {p : Pos} {ml : DS → M (List D)} (hc : X.calm = true) (hm : X.mg "sum" = none) (hg : Gl X "sum") (ha : QA X EE [e] ml) (h : aA [e] = true := by rfl) : QE X EE (.Call (.Name "sum" p) [e] [] pos) (az r9 ml) := ni (DV hc) hm hg PyProof.Rows.boot_sum ha (by decide) (by decide) h
noncomputable def QM (K : PySem.W.Frag) (ta tb : TE) : TE := fun σ H Q => ta σ H fun x H1 => ∃ c, Hr K x H1 c ∧ if c = true then Q x H1 else tb σ H1 Q
theorem Ls {c : Expr} {rest : List Expr} {ta tb : TE} (ha : PE X a ta) (hb : PE X (.BoolOp .Or (c :: rest) pos) tb) : PE X (.BoolOp .Or (a :: c :: rest) pos) (QM X.K ta tb) := by
 intro pins s σ H Q I h
 refine PyProof.Rows.BoolOp_or (fT (ha pins s σ H _ I h) fun v s1 ⟨x, H1, I1, r1, q1⟩ => ?_)
 obtain ⟨k, tv, q1⟩ := q1
 refine fT (El pins s1 σ H1 x v (fun k' H' => k' = k ∧ H' = H1) I1 r1 ⟨k, tv, rfl, rfl⟩) fun k' s2 ⟨H2, I2, e1, e2⟩ => ?_
 subst e1 e2
 cases k' with
 | false => exact hb pins s2 σ H2 Q I2 q1
 | true => exact ⟨x, H2, I2, r1, q1⟩
noncomputable def DW (ma mb : DS → M D) : DS → M D := fun τ => (ma τ).bind fun d => match d with
 | .cj => mb τ
 | .int i => if (i != 0) = true then M.ret (.int i) else mb τ
 | _ => M.stop
theorem Lu {c : Expr} {rest : List Expr} (ha : QE X EE a ma) (hb : QE X EE (.BoolOp .Or (c :: rest) pos) mb) : QE X EE (.BoolOp .Or (a :: c :: rest) pos) (DW ma mb) := PE.mono (Ls ha hb) fun σ H Q h => by
 obtain ⟨τ, ρ, G, ab, ok⟩ := m6 (k := fun τ d => match d with | .cj => mb τ | .int i => if (i != 0) = true then M.ret (.int i) else mb τ | _ => M.stop) h
 refine ⟨τ, ρ, G, ab, ?_⟩
 cases e : ma τ G with
 | stuck => rw [e] at ok; exact ok
 | bY c G' => rw [e] at ok; exact ok
 | ok k G' =>
  rw [e] at ok
  intro v H' ρ' f' bH r'
  obtain ⟨τ2, ρ2, G2, d2, dz, r2, aK⟩ := ok v H' ρ' f' bH r'
  cases d2 <;> try exact aK.elim
  ·unfold Rep at r2
   subst r2
   refine ⟨false, rfl, ?_⟩
   rw [if_neg (by decide)]
   exact ⟨τ2, ρ2, G2, dz, aK⟩
  ·rename_i i
   unfold Rep at r2
   subst r2
   refine ⟨i != 0, rfl, ?_⟩
   dsimp only at aK
   by_cases hi : (i != 0) = true
   ·rw [if_pos hi] at aK ⊢
    exact aK _ H' ρ2 .refl dz (by unfold Rep; rfl)
   ·rw [if_neg hi] at aK ⊢
    exact ⟨τ2, ρ2, G2, dz, aK⟩
end
end L3
end
section
set_option Elab.async false
set_option linter.all false
set_option maxRecDepth 100000
namespace L3
open PySem PySem.Spec L2
theorem QN {i j : Int} {G : DH} : aL (.int i) (.int j) G = .ok (.int (i + j)) G := Eq.trans rfl rfl
noncomputable def Out.pu (r : Out D) (G : DH) : Out D := match r with
 | .ok d G' => if iw (G'.take G.length) G = true ∧ d.closed = true then .ok d G else .stuck
 | r => r
section
variable {τ : DS} {G G' A B R : DH} {e ma mb mc : DS → M D} {n i : Nat} {d : D} {c : XD} {ml : DS → M (List D)} {ds xs ys : List D} {m : List D → M D}
theorem Gm : Mh e τ G = (e τ G).pu G := Eq.trans rfl rfl
theorem N1 (h : d.closed = true) : (Out.ok d (G ++ R)).pu G = .ok d G := by simp [Out.pu, h, gD]
theorem JM : Qf ma mb τ G = (ma τ G).bd fun d => match d with
 | .bl false => mb τ
 | .bl true => M.ret (.bl true)
 | _ => M.stop := aI
theorem Gn : AW ma mb τ G = (ma τ G).bd fun d => match d with
 | .bl true => mb τ
 | .bl false => M.ret (.bl false)
 | _ => M.stop := aI
theorem Gp : DW ma mb τ G = (ma τ G).bd fun d => match d with
 | .cj => mb τ
 | .int i => if (i != 0) = true then M.ret (.int i) else mb τ
 | _ => M.stop := aI
theorem uA : Bo τ G = .ok (.obj G.length) (G ++ [.d8 false []]) := Eq.trans rfl rfl
theorem x6 : Cz ma mb τ G = (ma τ G).bd fun d => (mb τ).bind fun k => Ge d k := aI
theorem zR : rJ ma mb τ G = (ma τ (G ++ [.d8 false []])).bd fun k => (mb τ).bind fun v => (kQ v (.obj G.length) k).bind fun _ => M.ret (.obj G.length) := by
 unfold rJ
 rw [aI]
theorem zS : uy ma mb mc τ G = ((ma τ G).bd fun v => (mb τ).bind fun o => (mc τ).bind fun i => kQ v o i).xp τ := by
 unfold uy bZ Out.xp
 rw [aI]
 cases ((ma τ G).bd fun v => (mb τ).bind fun o => (mc τ).bind fun i => kQ v o i) <;> rfl
theorem x8 : Gh e τ G = (e τ G).bd fun d G => match d with
 | .obj n => match G[n]? with
  | some (.d8 _ kvs) => .ok (kvs.length + 1, Br kvs) (G.set n (.d8 true kvs))
  | _ => .stuck
 | _ => .stuck := aI
theorem CC : Cw ml τ G = (ml τ G).bd fun ds => match ds with
 | [d, e] => fun G => match cS G d, cS G e with
  | some (_, xs), some (_, ys) => .ok (min xs.length ys.length + 1, uu d e) G
  | _, _ => .stuck
 | _ => M.stop := aI
theorem CD {g : pS} {body : MS} {kvs : List (List Key × D)} : nj g body (Br kvs) (kvs.length + 1) 0 τ G = bO g body (kvs.map fun kv => .tup (kv.1.map Bm)) τ G := by
 have := ny (g := g) (body := body) (xs := kvs.map fun kv => D.tup (kv.1.map Bm)) (vw := Br kvs) (fun G i h => by
  simp only [List.length_map] at h
  simp only [Br, if_pos h, List.getElem?_map]) (kvs.length + 1) 0 τ G (by simp) (by simp)
 simpa using this
theorem DX {g : pS} {body : MS} : nj g body (jK xs) (xs.length + 1) 0 τ G = bO g body (xs.mapIdx fun i x => .tup [.int i, x]) τ G := by
 have := ny (g := g) (body := body) (xs := xs.mapIdx fun i x => D.tup [.int i, x]) (vw := jK xs) (fun G i h => by
  simp only [List.length_mapIdx] at h
  simp only [jK, if_pos h, List.getElem?_mapIdx]) (xs.length + 1) 0 τ G (by simp) (by simp)
 simpa using this
theorem DY {gO : D → Option (List D)} {ks : List Bool} {tt : DS → M Bool} {te : DS → M D} : nk gO ks tt te n (uu (.tup xs) (.tup ys)) (min xs.length ys.length + 1) 0 τ G = dI gO ks tt te n (List.zipWith (fun x y => .tup [x, y]) xs ys) τ G := by
 have := rF (n := n) (gO := gO) (ks := ks) (tt := tt) (te := te) (xs := List.zipWith (fun x y => D.tup [x, y]) xs ys) (vw := uu (.tup xs) (.tup ys)) (fun G i h => by
  simp only [uu, cS, aD, List.getElem?_zipWith]
  cases xs[i]? <;> cases ys[i]? <;> rfl) (min xs.length ys.length + 1) 0 τ G (by simp) (by simp)
 simpa using this
theorem uB {gO : D → Option (List D)} {ks : List Bool} {tt : DS → M Bool} {te : DS → M D} {x : D} {os acc : List D} (h1 : gO x = some os) (h2 : tt (os.map some ++ mask ks τ) (G ++ [.lst acc]) = .ok false (G ++ [.lst acc])) :
  eg gO ks tt te G.length x τ (G ++ [.lst acc]) = .ok () (G ++ [.lst acc]) := by
 simp only [eg, h1, h2]
theorem sd {gO : D → Option (List D)} {ks : List Bool} {tt : DS → M Bool} {te : DS → M D} {x v : D} {os acc : List D} (h1 : gO x = some os) (h2 : tt (os.map some ++ mask ks τ) (G ++ [.lst acc]) = .ok true (G ++ [.lst acc])) (h3 : te (os.map some ++ mask ks τ) (G ++ [.lst acc]) = .ok v (G ++ [.lst acc])) (hz : acc.length < sizeLine) :
  eg gO ks tt te G.length x τ (G ++ [.lst acc]) = .ok () (G ++ [.lst (acc ++ [v])]) := by
 simp only [eg, h1, h2, h3, vg, if_pos hz, G5]
theorem lN {gO : D → Option (List D)} {ks : List Bool} {tt : DS → M Bool} {te : DS → M D} {α : Type} {own : α → List D} {dat f : α → D} {c : α → Bool} : ∀ (as : List α) (acc : List D), acc.length + as.length ≤ 1000000 → (∀ x ∈ as, gO (dat x) = some (own x)) →
  (∀ x ∈ as, ∀ acc, tt ((own x).map some ++ mask ks τ) (G ++ [.lst acc]) = .ok (c x) (G ++ [.lst acc])) → (∀ x ∈ as, ∀ acc, te ((own x).map some ++ mask ks τ) (G ++ [.lst acc]) = .ok (f x) (G ++ [.lst acc])) →
  dI gO ks tt te G.length (as.map dat) τ (G ++ [.lst acc]) = .ok (.obj G.length) (G ++ [.lst (acc ++ (as.filter c).map f)])
 | [], acc, _, _, _, _ => by simp [dI]
 | x :: as, acc, hl, h1, h2, h3 => by
  have hz : acc.length < sizeLine := Nat.lt_of_lt_of_le (by simp at hl; omega) (lz (n := 1000001) (by omega))
  rw [List.map_cons, dI]
  have hp := h2 x (by simp) acc
  cases hc : c x with
  | false =>
   rw [hc] at hp
   rw [uB (h1 x (by simp)) hp]
   dsimp only
   rw [lN as acc (by simp at hl; omega) (fun q hq => h1 q (by simp [hq])) (fun q hq => h2 q (by simp [hq])) (fun q hq => h3 q (by simp [hq])), List.filter_cons_of_neg (by rw [hc]; decide)]
  | true =>
   rw [hc] at hp
   rw [sd (h1 x (by simp)) hp (h3 x (by simp) acc) hz]
   dsimp only
   rw [lN as (acc ++ [f x]) (by simp at hl ⊢; omega) (fun q hq => h1 q (by simp [hq])) (fun q hq => h2 q (by simp [hq])) (fun q hq => h3 q (by simp [hq])), List.filter_cons_of_pos hc]
   simp
end
end L3
end
section
set_option Elab.async false
set_option linter.all false
set_option maxRecDepth 100000
set_option maxHeartbeats 4000000
namespace K21
open PySem PySem.Spec L2 L3
noncomputable def top (i : Nat) : Stmt := PySem.Challenge.pw_pathshape_k21_rows_let_by.main.body.getD i (.Pass ⟨0, 0, 0, 0⟩)
noncomputable abbrev fB : Stmt := top 1
noncomputable abbrev aG : Stmt := top 2
noncomputable abbrev aH : Stmt := top 3
noncomputable abbrev bK : Stmt := top 4
noncomputable abbrev bF : Stmt := top 5
noncomputable abbrev cL : Stmt := top 6
noncomputable abbrev bC : Stmt := top 7
noncomputable abbrev bz : Stmt := top 8
noncomputable abbrev aS : Stmt := top 10
noncomputable abbrev bq : Stmt := top 11
noncomputable abbrev aQ : Stmt := top 12
noncomputable abbrev aM : Stmt := top 13
noncomputable abbrev bh : Stmt := top 14
noncomputable abbrev aN : Stmt := top 15
noncomputable abbrev b8 : Stmt := top 16
noncomputable abbrev nA : List Str := ["rule"]
noncomputable abbrev x9 : Nat := 1
noncomputable def j0 : MS := gb (az ko (ai (eFn (jF oN [] (ay bQ (ah 0) (eC (.int 3))) (p9) (eC (.int 0)))) (aE)))
noncomputable def gG (ds : List D) : M D := iY (fun ds => fq 1 j0 ds) ds
noncomputable abbrev ya : List Str := ["rule", "counts", "k", "low", "high", "most"]
noncomputable abbrev Gq : Nat := 1
noncomputable def zT : MS := bA (bE 5 (O2 (je (ay (gn false) (ah 4) (eC .cj))) (ah 3) (ah 4))) (gb (ay aL (ay aL (eFn (B6 (ah 1) (kH) (jD (ah 2)))) (az kE (ai (az (gX fun i j => if j < i then j else i) (ai (ay aL (ay bQ (ah 1) (ah 2)) (eC (.int 1))) (ai (ah 5) (aE)))) (aE)))) (eFn (B6 (ah 1) (jD (ay aL (ah 2) (eC (.int 1)))) (kH)))))
noncomputable def tD : MS := bA (bE 3 (ay bQ (ay bQ (ay bQ (ah 0) (eC (.int 3))) (ah 2)) (eC (.int 1)))) (bA (bE 4 (ay bQ (ay bQ (ay bQ (ah 0) (eC (.int 3))) (ah 2)) (eC (.int 2)))) (bA (ve (je (ay (kD false) (ay bQ (ah 0) (eC (.int 2))) (eC (.str "mix")))) (zT) (gW)) (bA (bE 5 (O2 (je (ay (gn false) (ah 4) (eC .cj))) (az (gX fun i j => if j > i then j else i) (ai (ah 3) (ai (eC (.int 1)) (aE)))) (ah 4))) (gb (ay aL (ay aL (az ko (ai (eFn (jF oN [] (eFn (B6 (ay bQ (ah 0) (eC (.int 3))) (kH) (jD (ah 2)))) (p9) (ay bQ (ah 0) (eC (.int 1))))) (aE))) (az kE (ai (az (gX fun i j => if j < i then j else i) (ai (ay aL (ay bQ (ah 1) (ah 2)) (eC (.int 1))) (ai (ah 5) (aE)))) (aE)))) (eFn (B6 (ah 1) (jD (ay aL (ah 2) (eC (.int 1)))) (kH))))))))
noncomputable def qp (ds : List D) : M D := iY (fun ds => fq 6 tD ds) ds
noncomputable abbrev nB : List Str := ["items", "counts"]
noncomputable abbrev qt : Nat := 1
noncomputable def j3 : MS := gb (az (E0 false) (ai (eFn (nq (oT 2) [] (Cw (ai (ah 0) (ai (ah 1) (aE)))) (p9) (ay L5 (ah 1) (ay bQ (ah 0) (eC (.int 1)))))) (aE)))
noncomputable def fC (ds : List D) : M D := iY (fun ds => fq 2 j3 ds) ds
noncomputable abbrev uC : List Str := ["items", "layers", "counts", "names", "layer", "came"]
noncomputable abbrev zU : Nat := 1
noncomputable def i0 : MS := bA (bE 5 (Cz (ah 4) (ah 2))) (bA (mK (gp "list" iO (ah 3) (ai (ay bQ (ay bQ (ah 0) (ay bQ (ah 5) (eC (.int 1)))) (eC (.int 0))) (aE)))) (bE 2 (ay bQ (ah 5) (eC (.int 0)))))
noncomputable def lO : MS := bA (bE 3 (az bU (aE))) (bA (qf (gN 4) (Il (ai (JI (B6 (ah 1) (jD (eC (.int 1))) (kH))) (aE))) i0) (gb (eFn (az zp (ai (ah 3) (aE))))))
noncomputable def jM (ds : List D) : M D := iY (fun ds => fq 6 lO ds) ds
noncomputable abbrev qu : List Str := ["_law_script", "_law_many", "_law_found", "_law_k", "_law_cell"]
noncomputable abbrev vq : Nat := 1
noncomputable def gf : MS := bA (bE 4 (eC (.int 0))) (bA (ve (je (ay EI (az kJ (ai (ah 0) (aE))) (eC (.int 0)))) (bE 4 (ay fj (ay bQ (ah 0) (ay fj (ah 3) (az kJ (ai (ah 0) (aE))))) (ay M5 (eC (.int 10)) (eC (.int 18))))) (gW)) (mK (gp "list" iO (ah 2) (ai (ay aL (ah 4) (ay EH (eC (.int 7919)) (ay mJ (ah 3) (az (gX fun i j => if j > i then j else i) (ai (eC (.int 1)) (ai (az kJ (ai (ah 0) (aE))) (aE))))))) (aE)))))
noncomputable def jq : MS := bA (bE 2 (az bU (aE))) (bA (lE xE (gN 3) (ai (ah 1) (aE)) gf) (gb (JI (ah 2))))
noncomputable def eF (ds : List D) : M D := iY (fun ds => fq 5 jq ds) ds
noncomputable abbrev se : List Str := ["_law_draw", "_law_letters", "_law_name_here", "_law_k", "_law_at", "_law_taken"]
noncomputable abbrev lP : Nat := 1
noncomputable def g7 : MS := bA (bE 4 (ay aL (ay aL (ay mJ (ah 0) (eC (.int 208))) (ay EH (ay EH (eC (.int 7)) (ah 3)) (ah 3))) (ay EH (ay fj (ay mJ (ah 0) (eC (.int 5408))) (eC (.int 26))) (ah 3)))) (bE 2 (ay aL (ah 2) (ay bQ (ah 1) (ay fj (ah 4) (eC (.int 26))))))
noncomputable def lQ : MS := bA (bE 5 (eFn (az bU (ai (eC (.str "start")) (ai (eC (.str "rule")) (ai (eC (.str "row")) (ai (eC (.str "mix")) (ai (eC (.str "many")) (ai (eC (.str "any")) (ai (eC (.str "kind")) (ai (eC (.str "not")) (ai (eC (.str "both")) (ai (eC (.str "either")) (ai (eC (.str "way")) (ai (eC (.str "mark")) (aE)))))))))))))))) (bA (ve (je (ay (AS false) (ah 2) (ah 5))) (gb (ay aL (ah 2) (eC (.str "z")))) (gW)) (gb (ah 2)))
noncomputable def i7 : MS := bA (bE 1 (eC (.str "abcdefghijklmnopqrstuvwxyz"))) (bA (bE 2 (ay bQ (ah 1) (ay fj (ah 0) (eC (.int 26))))) (bA (lE xE (gN 3) (ai (ay fj (ay mJ (ah 0) (eC (.int 26))) (eC (.int 8))) (aE)) g7) (lQ)))
noncomputable def cE (ds : List D) : M D := iY (fun ds => fq 6 i7 ds) ds
noncomputable abbrev lR : List Str := ["_law_rule", "_law_names", "_law_items_here", "_law_known", "_law_name_here", "_law_low", "_law_high", "_law_count", "_law_left"]
noncomputable abbrev zV : Nat := 1
noncomputable def gH : MS := ve (je (ay (AS true) (ah 4) (ah 3))) (gb (eC (.bl false))) (gW)
noncomputable def j4 : MS := bA (bE 7 (az kJ (ai (eFn (jF oN [false, false, false, false, true] (ah 1) (je (ay (kD false) (ah 0) (ah 5))) (ah 0))) (aE)))) (ve (AU (je (ay O1 (ah 7) (ah 5))) (kI (je (ay (gn true) (ah 6) (eC .cj))) (je (ay EI (ah 7) (ah 6))))) (gb (eC (.bl false))) (gW))
noncomputable def sf : MS := bA (lD (IG 4 5 6) (ah 2) j4) (gb (eC (.bl true)))
noncomputable def sj : MS := bA (lD (gN 4) (ah 1) gH) (sf)
noncomputable def sr : MS := bA (bE 3 (eFn (jF oN [] (ah 2) (p9) (ay bQ (ah 0) (eC (.int 0)))))) (sj)
noncomputable def j5 : MS := bA (mK (gp "list" uz (ah 8) (ai (eC (.int 0)) (aE)))) (bE 7 (ay aL (ah 7) (eC (.int 1))))
noncomputable def gJ : MS := bA (bE 7 (eC (.int 0))) (bA (gZ (kI (je (ay EI (az kJ (ai (ah 8) (aE))) (eC (.int 0)))) (je (ay (kD false) (ay bQ (ah 8) (eC (.int 0))) (ah 4)))) j5 fuel) (ve (AU (je (ay O1 (ah 7) (ah 5))) (kI (je (ay (gn true) (ah 6) (eC .cj))) (je (ay EI (ah 7) (ah 6))))) (gb (eC (.bl false))) (gW)))
noncomputable def iF : MS := bA (bE 2 (ay bQ (ah 0) (eC (.int 3)))) (bA (ve (je (ay (kD false) (ay bQ (ah 0) (eC (.int 2))) (eC (.str "mix")))) (sr) (gW)) (bA (bE 8 (az lJ (ai (ah 1) (aE)))) (bA (lD (IG 4 5 6) (ah 2) gJ) (gb (ay (kD false) (ah 8) (eFn (az bU (aE))))))))
noncomputable def eG (ds : List D) : M D := iY (fun ds => fq 9 iF ds) ds
noncomputable abbrev qv : List Str := ["_law_draws_here", "_law_pool", "_law_items_here", "_law_k", "_law_draw", "_law_low", "_law_high"]
noncomputable abbrev vt : Nat := 1
noncomputable def iQ : MS := bA (bE 4 (ay bQ (ah 0) (ay aL (eC (.int 1)) (ah 3)))) (bA (bE 5 (ay fj (ah 4) (eC (.int 3)))) (bA (bE 6 (ay bQ (eFn (az bU (ai (eC .cj) (ai (ah 5) (ai (eC (.int 2)) (ai (ay aL (ah 5) (ay mJ (ay Dl (eC (.int 2)) (ah 5)) (eC (.int 2)))) (aE))))))) (ay fj (ay mJ (ah 4) (eC (.int 3))) (eC (.int 4))))) (mK (gp "list" iO (ah 2) (ai (az kE (ai (ay bQ (ah 1) (ay fj (ay aL (ay bQ (ah 0) (eC (.int 4))) (ah 3)) (eC (.int 3)))) (ai (ah 5) (ai (ah 6) (aE))))) (aE))))))
noncomputable def jr : MS := bA (bE 2 (az bU (aE))) (bA (lE xE (gN 3) (ai (ay fj (ay bQ (ah 0) (eC (.int 0))) (eC (.int 4))) (aE)) iQ) (gb (az ko (ai (ah 2) (aE)))))
noncomputable def fO (ds : List D) : M D := iY (fun ds => fq 7 jr ds) ds
noncomputable abbrev qw : List Str := ["_law_draws_here", "_law_names", "_law_way", "_law_at", "_law_found", "_law_k", "_law_name_here"]
noncomputable abbrev vz : Nat := 1
noncomputable def oK : MS := bA (bE 3 (ay fj (ay bQ (ah 0) (eC (.int 11))) (az kJ (ai (ah 1) (aE))))) (gb (ay aL (eFn (B6 (ah 1) (jD (ah 3)) (kH))) (eFn (B6 (ah 1) (kH) (jD (ah 3))))))
noncomputable def iR : MS := mK (gp "list" jZ (ah 4) (ai (ay fj (ay mJ (ay bQ (ah 0) (ay fj (ay aL (eC (.int 11)) (ah 5)) (eC (.int 24)))) (ay aL (eC (.int 1)) (ah 5))) (ay aL (ah 5) (eC (.int 1)))) (ai (ah 6) (aE))))
noncomputable def g8 : MS := bA (bE 2 (ay fj (ay bQ (ah 0) (eC (.int 10))) (eC (.int 3)))) (bA (ve (AU (je (ay (kD false) (ah 2) (eC (.int 0)))) (je (ay (kD false) (az kJ (ai (ah 1) (aE))) (eC (.int 0))))) (gb (ah 1)) (gW)) (bA (ve (je (ay (kD false) (ah 2) (eC (.int 1)))) (oK) (gW)) (bA (bE 4 (az bU (aE))) (bA (qf (gP 5 6) (lK (ai (ah 1) (aE))) iR) (gb (ah 4))))))
noncomputable def fP (ds : List D) : M D := fq 7 g8 ds
noncomputable abbrev uD : List Str := ["_law_draws_here", "_law_items_here", "_law_names", "_law_k", "_law_item", "_law_count", "_law_draw"]
noncomputable abbrev vA : Nat := 1
noncomputable def eZ : MS := bA (bE 5 (ay bQ (ah 4) (eC (.int 1)))) (bA (bE 6 (ay bQ (ah 0) (ay aL (eC (.int 5)) (ah 3)))) (bA (ve (je (ay (gn false) (ay bQ (ah 4) (eC (.int 2))) (eC .cj))) (bE 5 (ay aL (ah 5) (ay fj (ah 6) (ay bQ (eFn (az bU (ai (eC (.int 3)) (ai (eC (.int 20)) (aE))))) (ay fj (ay mJ (ah 6) (eC (.int 3))) (eC (.int 2))))))) (bE 5 (ay aL (ah 5) (ay fj (ah 6) (ay aL (ay Dl (ay bQ (ah 4) (eC (.int 2))) (ay bQ (ah 4) (eC (.int 1)))) (eC (.int 1))))))) (bA (ve (kI (je (ay EI (ay fj (ay bQ (ah 0) (eC (.int 8))) (eC (.int 3))) (eC (.int 0)))) (je (ay (kD false) (ay fj (ay bQ (ah 0) (eC (.int 9))) (az kJ (ai (ah 1) (aE)))) (ah 3)))) (bE 5 (az (gX fun i j => if j > i then j else i) (ai (eC (.int 0)) (ai (ay bQ (eFn (az bU (ai (ay Dl (ay bQ (ah 4) (eC (.int 1))) (eC (.int 1))) (ai (ay aL (DW (ay bQ (ah 4) (eC (.int 2))) (ah 5)) (eC (.int 1))) (aE))))) (ay fj (ay mJ (ay bQ (ah 0) (eC (.int 8))) (eC (.int 3))) (eC (.int 2)))) (aE))))) (gW)) (bE 2 (ay aL (ah 2) (Mh (JI (ay r8 (az bU (ai (ay bQ (ah 4) (eC (.int 0))) (aE))) (ah 5)))))))))
noncomputable def g9 : MS := bA (bE 2 (az bU (aE))) (bA (qf (gP 3 4) (lK (ai (ah 1) (aE))) eZ) (gb (ah 2)))
noncomputable def eL (ds : List D) : M D := xV (fun ds => fq 7 g9 ds) ds
noncomputable abbrev uE : List Str := ["rule", "counts", "k", "high"]
noncomputable abbrev zW : Nat := 2
noncomputable def lS : MS := bA (bE 3 (ay bQ (ay bQ (ay bQ (ah 0) (eC (.int 3))) (ah 2)) (eC (.int 2)))) (bA (ve (kI (je (ay (gn true) (ah 3) (eC .cj))) (je (ay L5 (ay bQ (ah 1) (ah 2)) (ah 3)))) (gb (eC (.bl false))) (gW)) (gb (Qf (ay (kD false) (ay bQ (ah 0) (eC (.int 2))) (eC (.str "mix"))) (AW (ay (kD false) (az r9 (ai (eFn (B6 (ah 1) (jD (ay aL (ah 2) (eC (.int 1)))) (kH))) (aE))) (eC (.int 0))) (cW 2 fC (ai (eFn (B6 (ay bQ (ah 0) (eC (.int 3))) (kH) (jD (ah 2)))) (ai (ah 1) (aE))))))))
noncomputable def jN (ds : List D) : M D := iY (fun ds => fq 4 lS ds) ds
noncomputable abbrev lT : List Str := ["rule", "layer", "names", "fitting", "found", "counts", "k"]
noncomputable abbrev vB : Nat := 3
noncomputable def kq : MS := ve (q8 vc (cW 3 jN (ai (ah 0) (ai (ah 5) (ai (ah 6) (aE)))))) (uy (az kE (ai (ah 5) (ai (ah 6) (aE)))) (ah 4) (cW 3 qp (ai (ah 0) (ai (ah 5) (ai (ah 6) (aE)))))) (gW)
noncomputable def oM : MS := lD (gN 6) (ah 3) kq
noncomputable def oO : MS := bA (bE 4 (Bo)) (bA (qf (gN 5) (Gh (ah 1)) oM) (gb (ah 4)))
noncomputable def lU : MS := bA (bE 3 (eFn (nq (oT 2) [false, false, true] (lK (ai (ay bQ (ah 0) (eC (.int 3))) (aE))) (je (ay (AS false) (ay bQ (ah 1) (eC (.int 0))) (ah 4))) (ah 0)))) (oO)
noncomputable def ia (ds : List D) : M D := fq 7 lU ds
noncomputable abbrev qx : List Str := ["rule", "choices", "items", "layers", "names", "counts"]
noncomputable abbrev vC : Nat := 4
noncomputable def iS : MS := mK (gp "list" iO (ah 3) (ai (cW 3 ia (ai (ah 0) (ai (ay bQ (ah 3) (EU (eC (.int 1)))) (ai (ah 4) (aE))))) (aE)))
noncomputable def gg : MS := ve (q8 vc (cW 2 fC (ai (ah 2) (ai (ah 5) (aE))))) (gb (cW 3 jM (ai (ah 2) (ai (ah 3) (ai (ah 5) (aE)))))) (gW)
noncomputable def iT : MS := bA (qf (gN 5) (Gh (ay bQ (ah 3) (EU (eC (.int 1))))) gg) (gb (eC .cj))
noncomputable def ic : MS := bA (bE 2 (ay bQ (ah 0) (eC (.int 3)))) (bA (bE 3 (az bU (ai (rJ (cW 1 gG (ai (ah 0) (aE))) (eC .cj)) (aE)))) (bA (lD (gN 4) (ah 1) iS) (iT)))
noncomputable def fQ (ds : List D) : M D := iY (fun ds => fq 6 ic ds) ds
noncomputable abbrev Bt : List Str := ["rule", "names"]
noncomputable abbrev IJ : Nat := 5
noncomputable def yb : MS := gb (ay (gn true) (cW 2 fQ (ai (ah 0) (ai (eFn (jF oN [] (ah 1) (p9) (eFn (az bU (ai (ah 0) (aE)))))) (aE)))) (eC .cj))
noncomputable def rK (ds : List D) : M D := iY (fun ds => fq 2 yb ds) ds
noncomputable abbrev Gr : List Str := ["_law_script", "_law_draws_here", "_law_core", "_law_pool", "_law_items_here", "_law_rule", "_law_names", "_law_handed", "_law_found"]
noncomputable def Gs : MS := bA (bE 4 (cW 2 fO (ai (ah 1) (ai (ah 3) (aE))))) (bA (bE 5 (az kE (ai (cW 1 cE (ai (ay bQ (ah 1) (eC (.int 14))) (aE))) (ai (cW 1 cE (ai (ay bQ (ah 1) (eC (.int 15))) (aE))) (ai (ay bQ (eFn (az bU (ai (eC (.str "row")) (ai (eC (.str "mix")) (aE))))) (ay fj (ay bQ (ah 1) (eC (.int 16))) (eC (.int 2)))) (ai (ah 4) (aE))))))) (bA (bE 6 (cW 2 fP (ai (ah 1) (ai (cW 2 eL (ai (ah 1) (ai (ah 4) (aE)))) (aE))))) (bA (ve (je (ay (kD false) (ay fj (ay bQ (ah 1) (eC (.int 17))) (eC (.int 8))) (eC (.int 7)))) (mK (gp "list" jZ (ah 6) (ai (ay fj (ay bQ (ah 1) (eC (.int 18))) (ay aL (az kJ (ai (ah 6) (aE))) (eC (.int 1)))) (ai (ay aL (ah 2) (eC (.str "xd"))) (aE))))) (gW)) (bA (bE 7 (eFn (az lJ (ai (ah 6) (aE))))) (bA (bE 8 (cW 2 rK (ai (ah 5) (ai (ah 7) (aE))))) (gb (AW (EZ .bl (ah 8)) (AW (ay (kD false) (ah 8) (cW 2 eG (ai (ah 5) (ai (ah 6) (aE))))) (ay (kD false) (ah 7) (ah 6))))))))))
noncomputable def CF : MS := bA (bE 1 (cW 2 eF (ai (ah 0) (ai (eC (.int 24)) (aE))))) (bA (bE 2 (eFn (B6 (cW 1 cE (ai (ay bQ (ah 1) (eC (.int 12))) (aE))) (kH) (jD (eC (.int 6)))))) (bA (bE 3 (eFn (jF oN [false, true, true] (eC (.str "abc")) (p9) (ay bQ (eFn (az bU (ai (ay aL (ay aL (ah 3) (eC (.str "x"))) (ah 0)) (ai (ay aL (ay aL (ah 0) (eC (.str "x"))) (ah 3)) (aE))))) (ay fj (ay bQ (ah 2) (eC (.int 13))) (eC (.int 2))))))) (Gs)))
noncomputable def CG (ds : List D) : M D := iY (fun ds => fq 9 CF ds) ds
structure QU where
  f : Nat → Addr
  d : Nat → FuncData
  c : Nat → Addr
structure Txt (K : PySem.W.Frag) (mg : Str → Option Value) (t : QU) : Prop where
  Gu : xo K "lets" "lets" fB (t.f 0) (t.d 0)
  Lv : Binds K (t.d 0) ["rule", "names"] []
  Lw : mg "lets" = some (.ref (t.f 0))
  qy : xo K "row_chosen" "row_chosen" aG (t.f 1) (t.d 1)
  yc : Binds K (t.d 1) ["rule", "choices"] []
  yd : mg "row_chosen" = some (.ref (t.f 1))
  qA : xo K "next_layer" "next_layer" aH (t.f 2) (t.d 2)
  ye : Binds K (t.d 2) ["rule", "layer", "names"] []
  yf : mg "next_layer" = some (.ref (t.f 2))
  su : xo K "no_counts" "no_counts" bK (t.f 3) (t.d 3)
  zX : Binds K (t.d 3) ["rule"] []
  zY : mg "no_counts" = some (.ref (t.f 3))
  uF : xo K "may_take" "may_take" bF (t.f 4) (t.d 4)
  Bu : Binds K (t.d 4) ["rule", "counts", "k"] []
  Bv : mg "may_take" = some (.ref (t.f 4))
  CH : xo K "taken" "taken" cL (t.f 5) (t.d 5)
  IK : Binds K (t.d 5) ["rule", "counts", "k"] []
  IL : mg "taken" = some (.ref (t.f 5))
  nD : xo K "is_enough" "is_enough" bC (t.f 6) (t.d 6)
  sy : Binds K (t.d 6) ["items", "counts"] []
  sA : mg "is_enough" = some (.ref (t.f 6))
  uG : xo K "row_back" "row_back" bz (t.f 7) (t.d 7)
  Bw : Binds K (t.d 7) ["items", "layers", "counts"] []
  Bx : mg "row_back" = some (.ref (t.f 7))
  qB : xo K "_law_draws" "_law_draws" aS (t.f 8) (t.d 8)
  yg : Binds K (t.d 8) ["_law_script", "_law_many"] []
  yh : mg "_law_draws" = some (.ref (t.f 8))
  j6 : xo K "_law_name" "_law_name" bq (t.f 9) (t.d 9)
  nE : Binds K (t.d 9) ["_law_draw"] []
  nF : mg "_law_name" = some (.ref (t.f 9))
  uH : xo K "_law_due" "_law_due" aQ (t.f 10) (t.d 10)
  By : Binds K (t.d 10) ["_law_rule", "_law_names"] []
  BA : mg "_law_due" = some (.ref (t.f 10))
  qC : xo K "_law_items" "_law_items" aM (t.f 11) (t.d 11)
  yi : Binds K (t.d 11) ["_law_draws_here", "_law_pool"] []
  yj : mg "_law_items" = some (.ref (t.f 11))
  uI : xo K "_law_row" "_law_row" bh (t.f 12) (t.d 12)
  BB : Binds K (t.d 12) ["_law_draws_here", "_law_items_here"] []
  BC : mg "_law_row" = some (.ref (t.f 12))
  qD : xo K "_law_mixed" "_law_mixed" aN (t.f 13) (t.d 13)
  yk : Binds K (t.d 13) ["_law_draws_here", "_law_names"] []
  yl : mg "_law_mixed" = some (.ref (t.f 13))
  N2 : xo K "law" "law" b8 (t.f 14) (t.d 14)
  Sg : Binds K (t.d 14) ["_law_script"] []
  M_law : mg "law" = some (.ref (t.f 14))
  N3 : mg "all" = none
  Lx : mg "bool" = none
  nG : mg "enumerate" = none
  ym : mg "isinstance" = none
  qE : mg "len" = none
  BD : mg "list" = none
  Gv : mg "max" = none
  JN : mg "min" = none
  yo : mg "range" = none
  uJ : mg "reversed" = none
  N4 : mg "sum" = none
  yp : mg "tuple" = none
  N5 : mg "zip" = none
theorem pG : DN "_law_at" := by decide +kernel
theorem yq : DN "_law_cell" := by decide +kernel
theorem lV : DN "_law_core" := by decide +kernel
theorem cy : DN "_law_count" := by decide +kernel
theorem cT : DN "_law_draw" := by decide +kernel
theorem vD : DN "_law_draws" := by decide +kernel
theorem aq : DN "_law_draws_here" := by decide +kernel
theorem zZ : DN "_law_due" := by decide +kernel
theorem e7 : DN "_law_found" := by decide +kernel
theorem nH : DN "_law_handed" := by decide +kernel
theorem ie : DN "_law_high" := by decide +kernel
theorem dM : DN "_law_item" := by decide +kernel
theorem vE : DN "_law_items" := by decide +kernel
theorem bu : DN "_law_items_here" := by decide +kernel
theorem dD : DN "_law_k" := by decide +kernel
theorem vF : DN "_law_known" := by decide +kernel
theorem jt : DN "_law_left" := by decide +kernel
theorem mO : DN "_law_letters" := by decide +kernel
theorem gK : DN "_law_low" := by decide +kernel
theorem yr : DN "_law_many" := by decide +kernel
theorem vG : DN "_law_mixed" := by decide +kernel
theorem lW : DN "_law_name" := by decide +kernel
theorem bG : DN "_law_name_here" := by decide +kernel
theorem aT : DN "_law_names" := by decide +kernel
theorem j7 : DN "_law_one" := by decide +kernel
theorem qF : DN "_law_pool" := by decide +kernel
theorem Aa : DN "_law_row" := by decide +kernel
theorem ju : DN "_law_rule" := by decide +kernel
theorem fD : DN "_law_script" := by decide +kernel
theorem vH : DN "_law_taken" := by decide +kernel
theorem sC : DN "_law_way" := by decide +kernel
theorem IM : DN "bool" := by decide +kernel
theorem CI : DN "came" := by decide +kernel
theorem BE : DN "choices" := by decide +kernel
theorem Gw : DN "count" := by decide +kernel
theorem cg : DN "counts" := by decide +kernel
theorem BF : DN "fitting" := by decide +kernel
theorem Ac : DN "found" := by decide +kernel
theorem nY : DN "high" := by decide +kernel
theorem qG : DN "is_enough" := by decide +kernel
theorem yt : DN "item" := by decide +kernel
theorem qH : DN "items" := by decide +kernel
theorem oj : DN "k" := by decide +kernel
theorem Ad : DN "layer" := by decide +kernel
theorem kR : DN "layers" := by decide +kernel
theorem IP : DN "lets" := by decide +kernel
theorem Gx : DN "low" := by decide +kernel
theorem Ae : DN "may_take" := by decide +kernel
theorem CJ : DN "most" := by decide +kernel
theorem IQ : DN "name" := by decide +kernel
theorem nI : DN "names" := by decide +kernel
theorem vI : DN "next_layer" := by decide +kernel
theorem yu : DN "no_counts" := by decide +kernel
theorem Af : DN "row_back" := by decide +kernel
theorem vJ : DN "row_chosen" := by decide +kernel
theorem eN : DN "rule" := by decide +kernel
theorem Gy : DN "taken" := by decide +kernel
theorem IS : bootBuiltins "bool" = some (.type (Ty.nm .bl)) := by decide +kernel
theorem IT : ("bool" : Str) ≠ "__name__" := by decide +kernel
noncomputable def DZ : Scope := {kind := .function, names := [(.ofString ".0", .local), (.ofString "name", .local)], isGenerator := false, isCoroutine := false, more := []}
theorem nJ : bV (aa fB) Bt DZ ["name"] [] := ⟨by decide +kernel, rfl, by decide +kernel, by decide +kernel, by decide +kernel, by decide +kernel, by decide +kernel⟩
noncomputable def mP : Scope := {kind := .function, names := [ (.ofString ".0", .local), (.ofString "k", .local), (.ofString "item", .local), (.ofString "names", .free)], isGenerator := false, isCoroutine := false, more := []}
theorem dN : bV (aa aH) lT mP ["k", "item"] [false, false, true] := ⟨by decide +kernel, rfl, by decide +kernel, by decide +kernel, by decide +kernel, by decide +kernel, by decide +kernel⟩
noncomputable def uK : Scope := {kind := .function, names := [(.ofString ".0", .local), (.ofString "item", .local)], isGenerator := false, isCoroutine := false, more := []}
theorem kT : bV (aa bK) nA uK ["item"] [] := ⟨by decide +kernel, rfl, by decide +kernel, by decide +kernel, by decide +kernel, by decide +kernel, by decide +kernel⟩
noncomputable def BG : Scope := {kind := .function, names := [(.ofString ".0", .local), (.ofString "item", .local)], isGenerator := false, isCoroutine := false, more := []}
theorem lX : bV (aa cL) ya BG ["item"] [] := ⟨by decide +kernel, rfl, by decide +kernel, by decide +kernel, by decide +kernel, by decide +kernel, by decide +kernel⟩
noncomputable def uL : Scope := {kind := .function, names := [ (.ofString ".0", .local), (.ofString "item", .local), (.ofString "count", .local)], isGenerator := false, isCoroutine := false, more := []}
theorem fR : bV (aa bC) nB uL ["item", "count"] [] := ⟨by decide +kernel, rfl, by decide +kernel, by decide +kernel, by decide +kernel, by decide +kernel, by decide +kernel⟩
noncomputable def vK : Scope := {kind := .function, names := [(.ofString ".0", .local), (.ofString "_law_item", .local)], isGenerator := false, isCoroutine := false, more := []}
theorem jj : bV (aa aQ) lR vK ["_law_item"] [] := ⟨by decide +kernel, rfl, by decide +kernel, by decide +kernel, by decide +kernel, by decide +kernel, by decide +kernel⟩
noncomputable def oQ : Scope := {kind := .function, names := [ (.ofString ".0", .local), (.ofString "_law_one", .local), (.ofString "_law_name_here", .free)], isGenerator := false, isCoroutine := false, more := []}
theorem eW : bV (aa aQ) lR oQ ["_law_one"] [false, false, false, false, true] := ⟨by decide +kernel, rfl, by decide +kernel, by decide +kernel, by decide +kernel, by decide +kernel, by decide +kernel⟩
noncomputable def uM : Scope := {kind := .function, names := [ (.ofString ".0", .local), (.ofString "_law_one", .local), (.ofString "_law_core", .free), (.ofString "_law_draws_here", .free)], isGenerator := false, isCoroutine := false, more := []}
theorem gr : bV (aa b8) Gr uM ["_law_one"] [false, true, true] := ⟨by decide +kernel, rfl, by decide +kernel, by decide +kernel, by decide +kernel, by decide +kernel, by decide +kernel⟩
theorem dY : LK (aa aS) "_law_cell" .local := by decide +kernel
theorem dR : LK (aa aS) "_law_found" .local := by decide +kernel
theorem fE : LK (aa aS) "_law_k" .local := by decide +kernel
theorem kU : LK (aa aS) "_law_many" .local := by decide +kernel
theorem bW : LK (aa aS) "_law_script" .local := by decide +kernel
theorem ig : LK (aa aS) "len" .globalImplicit := by decide +kernel
theorem qI : LK (aa aS) "max" .globalImplicit := by decide +kernel
theorem om : LK (aa aS) "range" .globalImplicit := by decide +kernel
theorem aW : LK (aa aQ) "_law_count" .local := by decide +kernel
theorem bI : LK (aa aQ) "_law_high" .local := by decide +kernel
theorem bM : LK (aa aQ) "_law_items_here" .local := by decide +kernel
theorem eO : LK (aa aQ) "_law_known" .local := by decide +kernel
theorem b9 : LK (aa aQ) "_law_left" .local := by decide +kernel
theorem dO : LK (aa aQ) "_law_low" .local := by decide +kernel
theorem bD : LK (aa aQ) "_law_name_here" .cell := by decide +kernel
theorem eS : LK (aa aQ) "_law_names" .local := by decide +kernel
theorem iz : LK (aa aQ) "_law_rule" .local := by decide +kernel
theorem mQ : LK (aa aQ) "len" .globalImplicit := by decide +kernel
theorem rL : LK (aa aQ) "list" .globalImplicit := by decide +kernel
theorem dZ : LK (aa aM) "_law_draw" .local := by decide +kernel
theorem cF : LK (aa aM) "_law_draws_here" .local := by decide +kernel
theorem gM : LK (aa aM) "_law_high" .local := by decide +kernel
theorem cG : LK (aa aM) "_law_items_here" .local := by decide +kernel
theorem fF : LK (aa aM) "_law_k" .local := by decide +kernel
theorem bS : LK (aa aM) "_law_low" .local := by decide +kernel
theorem kW : LK (aa aM) "_law_pool" .local := by decide +kernel
theorem oq : LK (aa aM) "range" .globalImplicit := by decide +kernel
theorem ou : LK (aa aM) "tuple" .globalImplicit := by decide +kernel
theorem e8 : LK (aa aN) "_law_at" .local := by decide +kernel
theorem cH : LK (aa aN) "_law_draws_here" .local := by decide +kernel
theorem dS : LK (aa aN) "_law_found" .local := by decide +kernel
theorem dP : LK (aa aN) "_law_k" .local := by decide +kernel
theorem eX : LK (aa aN) "_law_name_here" .local := by decide +kernel
theorem bw : LK (aa aN) "_law_names" .local := by decide +kernel
theorem eT : LK (aa aN) "_law_way" .local := by decide +kernel
theorem kX : LK (aa aN) "enumerate" .globalImplicit := by decide +kernel
theorem j8 : LK (aa aN) "len" .globalImplicit := by decide +kernel
theorem i8 : LK (aa bq) "_law_at" .local := by decide +kernel
theorem cU : LK (aa bq) "_law_draw" .local := by decide +kernel
theorem dW : LK (aa bq) "_law_k" .local := by decide +kernel
theorem dB : LK (aa bq) "_law_letters" .local := by decide +kernel
theorem aZ : LK (aa bq) "_law_name_here" .local := by decide +kernel
theorem gQ : LK (aa bq) "_law_taken" .local := by decide +kernel
theorem pH : LK (aa bq) "range" .globalImplicit := by decide +kernel
theorem aX : LK (aa bh) "_law_count" .local := by decide +kernel
theorem dm : LK (aa bh) "_law_draw" .local := by decide +kernel
theorem bN : LK (aa bh) "_law_draws_here" .local := by decide +kernel
theorem bg : LK (aa bh) "_law_item" .local := by decide +kernel
theorem fh : LK (aa bh) "_law_items_here" .local := by decide +kernel
theorem gu : LK (aa bh) "_law_k" .local := by decide +kernel
theorem cV : LK (aa bh) "_law_names" .local := by decide +kernel
theorem mT : LK (aa bh) "enumerate" .globalImplicit := by decide +kernel
theorem sN : LK (aa bh) "len" .globalImplicit := by decide +kernel
theorem sO : LK (aa bh) "max" .globalImplicit := by decide +kernel
theorem iy : LK oQ "_law_name_here" .free := by decide +kernel
theorem iA : LK uM "_law_core" .free := by decide +kernel
theorem jw : LK uM "_law_draws_here" .free := by decide +kernel
theorem kr : LK mP "names" .free := by decide +kernel
theorem rM : LK (aa bC) "all" .globalImplicit := by decide +kernel
theorem oz : LK (aa bC) "counts" .local := by decide +kernel
theorem pI : LK (aa bC) "items" .local := by decide +kernel
theorem rN : LK (aa bC) "zip" .globalImplicit := by decide +kernel
theorem kY : LK (aa b8) "_law_core" .cell := by decide +kernel
theorem qJ : LK (aa b8) "_law_draws" .globalImplicit := by decide +kernel
theorem aF : LK (aa b8) "_law_draws_here" .cell := by decide +kernel
theorem sP : LK (aa b8) "_law_due" .globalImplicit := by decide +kernel
theorem ir : LK (aa b8) "_law_found" .local := by decide +kernel
theorem gw : LK (aa b8) "_law_handed" .local := by decide +kernel
theorem qK : LK (aa b8) "_law_items" .globalImplicit := by decide +kernel
theorem eU : LK (aa b8) "_law_items_here" .local := by decide +kernel
theorem qL : LK (aa b8) "_law_mixed" .globalImplicit := by decide +kernel
theorem iG : LK (aa b8) "_law_name" .globalImplicit := by decide +kernel
theorem cM : LK (aa b8) "_law_names" .local := by decide +kernel
theorem iH : LK (aa b8) "_law_pool" .local := by decide +kernel
theorem sQ : LK (aa b8) "_law_row" .globalImplicit := by decide +kernel
theorem iI : LK (aa b8) "_law_rule" .local := by decide +kernel
theorem pJ : LK (aa b8) "_law_script" .local := by decide +kernel
theorem Ag : LK (aa b8) "bool" .globalImplicit := by decide +kernel
theorem qM : LK (aa b8) "isinstance" .globalImplicit := by decide +kernel
theorem BH : LK (aa b8) "len" .globalImplicit := by decide +kernel
theorem Ah : LK (aa b8) "lets" .globalImplicit := by decide +kernel
theorem Ai : LK (aa b8) "list" .globalImplicit := by decide +kernel
theorem vL : LK (aa fB) "names" .local := by decide +kernel
theorem pK : LK (aa fB) "row_chosen" .globalImplicit := by decide +kernel
theorem yw : LK (aa fB) "rule" .local := by decide +kernel
theorem gx : LK (aa bF) "counts" .local := by decide +kernel
theorem iJ : LK (aa bF) "high" .local := by decide +kernel
theorem mU : LK (aa bF) "is_enough" .globalImplicit := by decide +kernel
theorem iU : LK (aa bF) "k" .local := by decide +kernel
theorem iK : LK (aa bF) "rule" .local := by decide +kernel
theorem sR : LK (aa bF) "sum" .globalImplicit := by decide +kernel
theorem dQ : LK (aa aH) "counts" .local := by decide +kernel
theorem kZ : LK (aa aH) "enumerate" .globalImplicit := by decide +kernel
theorem e9 : LK (aa aH) "fitting" .local := by decide +kernel
theorem fW : LK (aa aH) "found" .local := by decide +kernel
theorem gj : LK (aa aH) "k" .local := by decide +kernel
theorem oA : LK (aa aH) "layer" .local := by decide +kernel
theorem lY : LK (aa aH) "may_take" .globalImplicit := by decide +kernel
theorem gy : LK (aa aH) "rule" .local := by decide +kernel
theorem oB : LK (aa aH) "taken" .globalImplicit := by decide +kernel
theorem qN : LK (aa bK) "rule" .local := by decide +kernel
theorem pL : LK (aa bK) "tuple" .globalImplicit := by decide +kernel
theorem iL : LK (aa bz) "came" .local := by decide +kernel
theorem jO : LK (aa bz) "counts" .local := by decide +kernel
theorem qO : LK (aa bz) "items" .local := by decide +kernel
theorem j9 : LK (aa bz) "layer" .local := by decide +kernel
theorem pM : LK (aa bz) "layers" .local := by decide +kernel
theorem rO : LK (aa bz) "list" .globalImplicit := by decide +kernel
theorem iu : LK (aa bz) "names" .local := by decide +kernel
theorem i9 : LK (aa bz) "reversed" .globalImplicit := by decide +kernel
theorem mV : LK (aa aG) "choices" .local := by decide +kernel
theorem fG : LK (aa aG) "counts" .local := by decide +kernel
theorem lg : LK (aa aG) "is_enough" .globalImplicit := by decide +kernel
theorem fX : LK (aa aG) "items" .local := by decide +kernel
theorem cI : LK (aa aG) "layers" .local := by decide +kernel
theorem jl : LK (aa aG) "names" .local := by decide +kernel
theorem kB : LK (aa aG) "next_layer" .globalImplicit := by decide +kernel
theorem lq : LK (aa aG) "no_counts" .globalImplicit := by decide +kernel
theorem lZ : LK (aa aG) "row_back" .globalImplicit := by decide +kernel
theorem gA : LK (aa aG) "rule" .local := by decide +kernel
theorem eY : LK (aa cL) "counts" .local := by decide +kernel
theorem gh : LK (aa cL) "high" .local := by decide +kernel
theorem fH : LK (aa cL) "k" .local := by decide +kernel
theorem mj : LK (aa cL) "low" .local := by decide +kernel
theorem yx : LK (aa cL) "max" .globalImplicit := by decide +kernel
theorem qP : LK (aa cL) "min" .globalImplicit := by decide +kernel
theorem iV : LK (aa cL) "most" .local := by decide +kernel
theorem iW : LK (aa cL) "rule" .local := by decide +kernel
theorem uN : LK (aa cL) "tuple" .globalImplicit := by decide +kernel
section
variable {P : Program} {w : World} {K : PySem.W.Frag} {mg : Str → Option Value} {base : Heap} {t : QU}
theorem qQ : di nA ["rule"] (aa bK) := ⟨rfl, rfl, rfl, by decide +kernel, rfl, by decide +kernel, by decide +kernel⟩
theorem yy (T : Txt K mg t) : ck P w K mg base (fV P w) 1 (t.f 3) (t.d 3) ["rule"] (b7 K mg 1 gG) := by
 refine ck.imp (sp := b7 K mg 1 (fun ds => fq 1 j0 ds)) ?_ gi
 refine A3 (k := 0) (ms := j0) T.su qQ (by decide) (by decide) (fun _ => rfl) ?_
 intro X EE cdv A outer s H E hX hr hx qW
 subst hX
 have hu := eu hr
 have nd := qQ.nd
 have hfr : gc (kg (fV P w) P w K mg base nA "no_counts" (aa bK) (t.f 3) cdv A outer s H E) := ⟨_, outer, s.heap.objs.size, rfl, rfl, rfl⟩
 refine aC ?_
 refine cN ?_
 refine t8 ?_ ?_ ?_ ?_
 exact T.yp
 exact pL
 refine aP ?_ ?_ ?_
 refine cR ?_
 refine sX (xs := ["item"]) (ow := zh) ?_ ?_ ?_ ?_ ?_ ?_ ?_ ?_ ?_
 exact hx
 exact hfr
 exact kT
 exact kK kT
 exact jz
 exact rfl
 refine ao ?_ ?_ ?_
 refine af 0 ?_ ?_ ?_
 exact (Or.inl qN)
 exact eN
 exact rfl
 exact aj
 decide +kernel
 refine jA fun cl C pins s0 H0 fp E1 Ly hx => ?_
 exact aj
 decide +kernel
 decide +kernel
 exact av
 decide +kernel
theorem Aj : di ya ["rule", "counts", "k"] (aa cL) := ⟨rfl, rfl, rfl, by decide +kernel, rfl, by decide +kernel, by decide +kernel⟩
theorem Gz (T : Txt K mg t) : ck P w K mg base (fV P w) 1 (t.f 5) (t.d 5) ["rule", "counts", "k"] (b7 K mg 3 qp) := by
 refine ck.imp (sp := b7 K mg 3 (fun ds => fq 6 tD ds)) ?_ gi
 refine A3 (k := 0) (ms := tD) T.CH Aj (by decide) (by decide) (fun _ => rfl) ?_
 intro X EE cdv A outer s H E hX hr hx qW
 subst hX
 have hu := eu hr
 have nd := Aj.nd
 have hfr : gc (kg (fV P w) P w K mg base ya "taken" (aa cL) (t.f 5) cdv A outer s H E) := ⟨_, outer, s.heap.objs.size, rfl, rfl, rfl⟩
 refine ak ?_ ?_
 refine aV (i := 3) ?_ ?_ ?_ ?_ ?_ ?_
 exact nd
 exact (Or.inl mj)
 refine ao ?_ ?_ ?_
 refine ao ?_ ?_ ?_
 refine ao ?_ ?_ ?_
 refine af 0 ?_ ?_ ?_
 exact (Or.inl iW)
 exact eN
 exact rfl
 exact aj
 decide +kernel
 refine af 2 ?_ ?_ ?_
 exact (Or.inl fH)
 exact oj
 exact rfl
 decide +kernel
 exact aj
 decide +kernel
 exact Or.inl rfl
 exact rfl
 decide +kernel
 refine ak ?_ ?_
 refine aV (i := 4) ?_ ?_ ?_ ?_ ?_ ?_
 exact nd
 exact (Or.inl gh)
 refine ao ?_ ?_ ?_
 refine ao ?_ ?_ ?_
 refine ao ?_ ?_ ?_
 refine af 0 ?_ ?_ ?_
 exact (Or.inl iW)
 exact eN
 exact rfl
 exact aj
 decide +kernel
 refine af 2 ?_ ?_ ?_
 exact (Or.inl fH)
 exact oj
 exact rfl
 decide +kernel
 exact aj
 decide +kernel
 exact Or.inl rfl
 exact rfl
 decide +kernel
 refine ak ?_ ?_
 refine jE ?_ ?_ ?_
 refine cz ?_ ?_ ?_ ?_
 exact (kj hu)
 refine ao ?_ ?_ ?_
 refine af 0 ?_ ?_ ?_
 exact (Or.inl iW)
 exact eN
 exact rfl
 exact aj
 decide +kernel
 exact ki
 decide +kernel
 refine ak ?_ ?_
 refine aV (i := 5) ?_ ?_ ?_ ?_ ?_ ?_
 exact nd
 exact (Or.inl iV)
 refine Jq ?_ ?_ ?_
 refine cz ?_ ?_ ?_ ?_
 exact xC
 refine af 4 ?_ ?_ ?_
 exact (Or.inl gh)
 exact nY
 exact rfl
 exact kh
 decide +kernel
 refine af 3 ?_ ?_ ?_
 exact (Or.inl mj)
 exact Gx
 exact rfl
 refine af 4 ?_ ?_ ?_
 exact (Or.inl gh)
 exact nY
 exact rfl
 exact Or.inl rfl
 exact rfl
 decide +kernel
 refine aC ?_
 refine cN ?_
 refine aY ?_ ?_
 refine aY ?_ ?_
 refine cR ?_
 refine fZ ?_ ?_ ?_
 refine af 1 ?_ ?_ ?_
 exact (Or.inl eY)
 exact cg
 exact rfl
 exact iM
 refine iN ?_
 refine af 2 ?_ ?_ ?_
 exact (Or.inl fH)
 exact oj
 exact rfl
 refine tQ ?_
 refine aP ?_ ?_ ?_
 refine Ce ?_ ?_ ?_ ?_ ?_
 exact rfl
 exact T.JN
 exact qP
 refine aP ?_ ?_ ?_
 refine aY ?_ ?_
 refine ao ?_ ?_ ?_
 refine af 1 ?_ ?_ ?_
 exact (Or.inl eY)
 exact cg
 exact rfl
 refine af 2 ?_ ?_ ?_
 exact (Or.inl fH)
 exact oj
 exact rfl
 decide +kernel
 exact aj
 decide +kernel
 refine aP ?_ ?_ ?_
 refine af 5 ?_ ?_ ?_
 exact (Or.inl iV)
 exact CJ
 exact rfl
 decide +kernel
 exact av
 decide +kernel
 decide +kernel
 exact av
 refine cR ?_
 refine fZ ?_ ?_ ?_
 refine af 1 ?_ ?_ ?_
 exact (Or.inl eY)
 exact cg
 exact rfl
 refine iN ?_
 refine aY ?_ ?_
 refine af 2 ?_ ?_ ?_
 exact (Or.inl fH)
 exact oj
 exact rfl
 exact aj
 exact iM
 exact fc
 refine ak ?_ ?_
 refine aV (i := 5) ?_ ?_ ?_ ?_ ?_ ?_
 exact nd
 exact (Or.inl iV)
 refine Jq ?_ ?_ ?_
 refine cz ?_ ?_ ?_ ?_
 exact xC
 refine af 4 ?_ ?_ ?_
 exact (Or.inl gh)
 exact nY
 exact rfl
 exact kh
 decide +kernel
 refine xN ?_ ?_ ?_ ?_ ?_
 exact rfl
 exact T.Gv
 exact yx
 refine aP ?_ ?_ ?_
 refine af 3 ?_ ?_ ?_
 exact (Or.inl mj)
 exact Gx
 exact rfl
 decide +kernel
 refine zo ?_
 exact av
 decide +kernel
 refine af 4 ?_ ?_ ?_
 exact (Or.inl gh)
 exact nY
 exact rfl
 exact Or.inl rfl
 exact rfl
 decide +kernel
 refine aC ?_
 refine cN ?_
 refine aY ?_ ?_
 refine aY ?_ ?_
 refine t8 ?_ ?_ ?_ ?_
 exact T.yp
 exact uN
 refine aP ?_ ?_ ?_
 refine cR ?_
 refine sX (xs := ["item"]) (ow := zh) ?_ ?_ ?_ ?_ ?_ ?_ ?_ ?_ ?_
 exact hx
 exact hfr
 exact lX
 exact kK lX
 exact jz
 exact rfl
 refine cR ?_
 refine fZ ?_ ?_ ?_
 refine ao ?_ ?_ ?_
 refine af 0 ?_ ?_ ?_
 exact (Or.inl iW)
 exact eN
 exact rfl
 exact aj
 decide +kernel
 exact iM
 refine iN ?_
 refine af 2 ?_ ?_ ?_
 exact (Or.inl fH)
 exact oj
 exact rfl
 refine jA fun cl C pins s0 H0 fp E1 Ly hx => ?_
 refine ao ?_ ?_ ?_
 refine af 0 ?_ ?_ ?_
 exact (jG lX (by simp))
 exact yt
 exact rfl
 exact aj
 decide +kernel
 decide +kernel
 decide +kernel
 exact av
 decide +kernel
 refine tQ ?_
 refine aP ?_ ?_ ?_
 refine Ce ?_ ?_ ?_ ?_ ?_
 exact rfl
 exact T.JN
 exact qP
 refine aP ?_ ?_ ?_
 refine aY ?_ ?_
 refine ao ?_ ?_ ?_
 refine af 1 ?_ ?_ ?_
 exact (Or.inl eY)
 exact cg
 exact rfl
 refine af 2 ?_ ?_ ?_
 exact (Or.inl fH)
 exact oj
 exact rfl
 decide +kernel
 exact aj
 decide +kernel
 refine aP ?_ ?_ ?_
 refine af 5 ?_ ?_ ?_
 exact (Or.inl iV)
 exact CJ
 exact rfl
 decide +kernel
 exact av
 decide +kernel
 decide +kernel
 exact av
 refine cR ?_
 refine fZ ?_ ?_ ?_
 refine af 1 ?_ ?_ ?_
 exact (Or.inl eY)
 exact cg
 exact rfl
 refine iN ?_
 refine aY ?_ ?_
 refine af 2 ?_ ?_ ?_
 exact (Or.inl fH)
 exact oj
 exact rfl
 exact aj
 exact iM
theorem qR : di nB ["items", "counts"] (aa bC) := ⟨rfl, rfl, rfl, by decide +kernel, rfl, by decide +kernel, by decide +kernel⟩
theorem yz (T : Txt K mg t) : ck P w K mg base (fV P w) 1 (t.f 6) (t.d 6) ["items", "counts"] (b7 K mg 2 fC) := by
 refine ck.imp (sp := b7 K mg 2 (fun ds => fq 2 j3 ds)) ?_ gi
 refine A3 (k := 0) (ms := j3) T.nD qR (by decide) (by decide) (fun _ => rfl) ?_
 intro X EE cdv A outer s H E hX hr hx qW
 subst hX
 have hu := eu hr
 have nd := qR.nd
 have hfr : gc (kg (fV P w) P w K mg base nB "is_enough" (aa bC) (t.f 6) cdv A outer s H E) := ⟨_, outer, s.heap.objs.size, rfl, rfl, rfl⟩
 refine aC ?_
 refine cN ?_
 refine Lb ?_ ?_ ?_ ?_ ?_
 exact rfl
 exact T.N3
 exact rM
 refine aP ?_ ?_ ?_
 refine cR ?_
 refine Fp (xs := ["item", "count"]) (ow := Ib K 2) ?_ ?_ ?_ ?_ ?_ ?_ ?_ ?_ ?_
 exact hx
 exact hfr
 exact fR
 exact zj rfl fR
 exact zl
 exact rfl
 refine IB ?_ ?_ ?_ ?_
 exact T.N5
 exact rN
 refine aP ?_ ?_ ?_
 refine af 0 ?_ ?_ ?_
 exact (Or.inl pI)
 exact qH
 exact rfl
 decide +kernel
 refine aP ?_ ?_ ?_
 refine af 1 ?_ ?_ ?_
 exact (Or.inl oz)
 exact cg
 exact rfl
 decide +kernel
 exact av
 decide +kernel
 refine jA fun cl C pins s0 H0 fp E1 Ly hx => ?_
 refine M6 ?_ ?_
 refine af 1 ?_ ?_ ?_
 exact (jG fR (by simp))
 exact Gw
 exact rfl
 refine ao ?_ ?_ ?_
 refine af 0 ?_ ?_ ?_
 exact (jG fR (by simp))
 exact yt
 exact rfl
 exact aj
 decide +kernel
 decide +kernel
 decide +kernel
 exact av
 decide +kernel
theorem sD : di uC ["items", "layers", "counts"] (aa bz) := ⟨rfl, rfl, rfl, by decide +kernel, rfl, by decide +kernel, by decide +kernel⟩
theorem Ak (T : Txt K mg t) : ck P w K mg base (fV P w) 1 (t.f 7) (t.d 7) ["items", "layers", "counts"] (b7 K mg 3 jM) := by
 refine ck.imp (sp := b7 K mg 3 (fun ds => fq 6 lO ds)) ?_ gi
 refine A3 (k := 0) (ms := lO) T.uG sD (by decide) (by decide) (fun _ => rfl) ?_
 intro X EE cdv A outer s H E hX hr hx qW
 subst hX
 have hu := eu hr
 have nd := sD.nd
 have hfr : gc (kg (fV P w) P w K mg base uC "row_back" (aa bz) (t.f 7) cdv A outer s H E) := ⟨_, outer, s.heap.objs.size, rfl, rfl, rfl⟩
 refine ak ?_ ?_
 refine aV (i := 3) ?_ ?_ ?_ ?_ ?_ ?_
 exact nd
 exact (Or.inl iu)
 refine gm ?_
 exact av
 exact Or.inl rfl
 exact rfl
 decide +kernel
 refine ak ?_ ?_
 refine qg ?_ ?_ ?_ ?_ ?_ ?_
 exact qW
 exact rfl
 refine Li ?_ ?_ ?_ ?_
 exact T.uJ
 exact i9
 refine aP ?_ ?_ ?_
 refine FA ?_
 refine fZ ?_ ?_ ?_
 refine af 1 ?_ ?_ ?_
 exact (Or.inl pM)
 exact kR
 exact rfl
 refine iN ?_
 exact aj
 exact iM
 decide +kernel
 exact av
 decide +kernel
 refine jn (i := 4) ?_ ?_ ?_ ?_
 exact nd
 exact (Or.inl j9)
 exact Or.inl rfl
 exact rfl
 refine ak ?_ ?_
 refine aV (i := 5) ?_ ?_ ?_ ?_ ?_ ?_
 exact nd
 exact (Or.inl iL)
 refine ID ?_ ?_ ?_ ?_
 exact hu
 refine af 4 ?_ ?_ ?_
 exact (Or.inl j9)
 exact Ad
 exact rfl
 refine af 2 ?_ ?_ ?_
 exact (Or.inl jO)
 exact cg
 exact rfl
 exact fun _ _ => rfl
 exact Or.inl rfl
 exact rfl
 decide +kernel
 refine ak ?_ ?_
 refine lI ?_ ?_
 refine nT ?_ ?_ ?_ ?_ ?_
 refine af 3 ?_ ?_ ?_
 exact (Or.inl iu)
 exact nI
 exact rfl
 refine aP ?_ ?_ ?_
 refine ao ?_ ?_ ?_
 refine ao ?_ ?_ ?_
 refine af 0 ?_ ?_ ?_
 exact (Or.inl qO)
 exact qH
 exact rfl
 refine ao ?_ ?_ ?_
 refine af 5 ?_ ?_ ?_
 exact (Or.inl iL)
 exact CI
 exact rfl
 exact aj
 decide +kernel
 decide +kernel
 exact aj
 decide +kernel
 decide +kernel
 exact av
 decide +kernel
 decide +kernel
 exact rfl
 decide +kernel
 refine aC ?_
 refine aV (i := 2) ?_ ?_ ?_ ?_ ?_ ?_
 exact nd
 exact (Or.inl jO)
 refine ao ?_ ?_ ?_
 refine af 5 ?_ ?_ ?_
 exact (Or.inl iL)
 exact CI
 exact rfl
 exact aj
 decide +kernel
 exact Or.inl rfl
 exact rfl
 decide +kernel
 decide +kernel
 refine aC ?_
 refine cN ?_
 refine cR ?_
 refine A9 ?_ ?_ ?_ ?_ ?_ ?_ ?_
 exact rfl
 exact T.BD
 exact rO
 exact T.uJ
 exact i9
 refine aP ?_ ?_ ?_
 refine af 3 ?_ ?_ ?_
 exact (Or.inl iu)
 exact nI
 exact rfl
 decide +kernel
 exact av
 decide +kernel
theorem oR : di qu ["_law_script", "_law_many"] (aa aS) := ⟨rfl, rfl, rfl, by decide +kernel, rfl, by decide +kernel, by decide +kernel⟩
theorem vM (T : Txt K mg t) : ck P w K mg base (fV P w) 1 (t.f 8) (t.d 8) ["_law_script", "_law_many"] (b7 K mg 2 eF) := by
 refine ck.imp (sp := b7 K mg 2 (fun ds => fq 5 jq ds)) ?_ gi
 refine A3 (k := 0) (ms := jq) T.qB oR (by decide) (by decide) (fun _ => rfl) ?_
 intro X EE cdv A outer s H E hX hr hx qW
 subst hX
 have hu := eu hr
 have nd := oR.nd
 have hfr : gc (kg (fV P w) P w K mg base qu "_law_draws" (aa aS) (t.f 8) cdv A outer s H E) := ⟨_, outer, s.heap.objs.size, rfl, rfl, rfl⟩
 refine ak ?_ ?_
 refine aV (i := 2) ?_ ?_ ?_ ?_ ?_ ?_
 exact nd
 exact (Or.inl dR)
 refine gm ?_
 exact av
 exact Or.inl rfl
 exact rfl
 decide +kernel
 refine ak ?_ ?_
 refine t7 ?_ ?_ ?_ ?_ ?_ ?_ ?_ ?_
 exact qW
 exact rfl
 exact T.yo
 exact om
 refine aP ?_ ?_ ?_
 refine af 1 ?_ ?_ ?_
 exact (Or.inl kU)
 exact yr
 exact rfl
 decide +kernel
 exact av
 refine jn (i := 3) ?_ ?_ ?_ ?_
 exact nd
 exact (Or.inl fE)
 exact Or.inl rfl
 exact rfl
 refine ak ?_ ?_
 refine aV (i := 4) ?_ ?_ ?_ ?_ ?_ ?_
 exact nd
 exact (Or.inl dY)
 exact aj
 exact Or.inl rfl
 exact rfl
 decide +kernel
 refine ak ?_ ?_
 refine jE ?_ ?_ ?_
 refine cz ?_ ?_ ?_ ?_
 exact tT
 refine lH ?_ ?_ ?_ ?_
 exact T.qE
 exact ig
 refine aP ?_ ?_ ?_
 refine af 0 ?_ ?_ ?_
 exact (Or.inl bW)
 exact fD
 exact rfl
 decide +kernel
 exact av
 decide +kernel
 exact aj
 decide +kernel
 refine aC ?_
 refine aV (i := 4) ?_ ?_ ?_ ?_ ?_ ?_
 exact nd
 exact (Or.inl dY)
 refine cO ?_ ?_
 refine ao ?_ ?_ ?_
 refine af 0 ?_ ?_ ?_
 exact (Or.inl bW)
 exact fD
 exact rfl
 refine cO ?_ ?_
 refine af 3 ?_ ?_ ?_
 exact (Or.inl fE)
 exact dD
 exact rfl
 refine lH ?_ ?_ ?_ ?_
 exact T.qE
 exact ig
 refine aP ?_ ?_ ?_
 refine af 0 ?_ ?_ ?_
 exact (Or.inl bW)
 exact fD
 exact rfl
 decide +kernel
 exact av
 decide +kernel
 decide +kernel
 refine KR ?_ ?_
 exact aj
 exact aj
 exact Or.inl rfl
 exact rfl
 decide +kernel
 exact fc
 refine aC ?_
 refine lI ?_ ?_
 refine nT ?_ ?_ ?_ ?_ ?_
 refine af 2 ?_ ?_ ?_
 exact (Or.inl dR)
 exact e7
 exact rfl
 refine aP ?_ ?_ ?_
 refine aY ?_ ?_
 refine af 4 ?_ ?_ ?_
 exact (Or.inl dY)
 exact yq
 exact rfl
 refine xy ?_ ?_
 exact aj
 refine jm ?_ ?_
 refine af 3 ?_ ?_ ?_
 exact (Or.inl fE)
 exact dD
 exact rfl
 refine xN ?_ ?_ ?_ ?_ ?_
 exact rfl
 exact T.Gv
 exact qI
 refine zo ?_
 refine aP ?_ ?_ ?_
 refine lH ?_ ?_ ?_ ?_
 exact T.qE
 exact ig
 refine aP ?_ ?_ ?_
 refine af 0 ?_ ?_ ?_
 exact (Or.inl bW)
 exact fD
 exact rfl
 decide +kernel
 exact av
 decide +kernel
 decide +kernel
 exact av
 decide +kernel
 decide +kernel
 exact av
 decide +kernel
 decide +kernel
 exact rfl
 decide +kernel
 decide +kernel
 refine aC ?_
 refine cN ?_
 refine FA ?_
 refine af 2 ?_ ?_ ?_
 exact (Or.inl dR)
 exact e7
 exact rfl
theorem qS : di se ["_law_draw"] (aa bq) := ⟨rfl, rfl, rfl, by decide +kernel, rfl, by decide +kernel, by decide +kernel⟩
theorem yC (T : Txt K mg t) : ck P w K mg base (fV P w) 1 (t.f 9) (t.d 9) ["_law_draw"] (b7 K mg 1 cE) := by
 refine ck.imp (sp := b7 K mg 1 (fun ds => fq 6 i7 ds)) ?_ gi
 refine A3 (k := 0) (ms := i7) T.j6 qS (by decide) (by decide) (fun _ => rfl) ?_
 intro X EE cdv A outer s H E hX hr hx qW
 subst hX
 have hu := eu hr
 have nd := qS.nd
 have hfr : gc (kg (fV P w) P w K mg base se "_law_name" (aa bq) (t.f 9) cdv A outer s H E) := ⟨_, outer, s.heap.objs.size, rfl, rfl, rfl⟩
 refine ak ?_ ?_
 refine aV (i := 1) ?_ ?_ ?_ ?_ ?_ ?_
 exact nd
 exact (Or.inl dB)
 exact ki
 exact Or.inl rfl
 exact rfl
 decide +kernel
 refine ak ?_ ?_
 refine aV (i := 2) ?_ ?_ ?_ ?_ ?_ ?_
 exact nd
 exact (Or.inl aZ)
 refine ao ?_ ?_ ?_
 refine af 1 ?_ ?_ ?_
 exact (Or.inl dB)
 exact mO
 exact rfl
 refine cO ?_ ?_
 refine af 0 ?_ ?_ ?_
 exact (Or.inl cU)
 exact cT
 exact rfl
 exact aj
 decide +kernel
 exact Or.inl rfl
 exact rfl
 decide +kernel
 refine ak ?_ ?_
 refine t7 ?_ ?_ ?_ ?_ ?_ ?_ ?_ ?_
 exact qW
 exact rfl
 exact T.yo
 exact pH
 refine aP ?_ ?_ ?_
 refine cO ?_ ?_
 refine jm ?_ ?_
 refine af 0 ?_ ?_ ?_
 exact (Or.inl cU)
 exact cT
 exact rfl
 exact aj
 exact aj
 decide +kernel
 exact av
 refine jn (i := 3) ?_ ?_ ?_ ?_
 exact nd
 exact (Or.inl dW)
 exact Or.inl rfl
 exact rfl
 refine ak ?_ ?_
 refine aV (i := 4) ?_ ?_ ?_ ?_ ?_ ?_
 exact nd
 exact (Or.inl i8)
 refine aY ?_ ?_
 refine aY ?_ ?_
 refine jm ?_ ?_
 refine af 0 ?_ ?_ ?_
 exact (Or.inl cU)
 exact cT
 exact rfl
 exact aj
 refine xy ?_ ?_
 refine xy ?_ ?_
 exact aj
 refine af 3 ?_ ?_ ?_
 exact (Or.inl dW)
 exact dD
 exact rfl
 refine af 3 ?_ ?_ ?_
 exact (Or.inl dW)
 exact dD
 exact rfl
 refine xy ?_ ?_
 refine cO ?_ ?_
 refine jm ?_ ?_
 refine af 0 ?_ ?_ ?_
 exact (Or.inl cU)
 exact cT
 exact rfl
 exact aj
 exact aj
 refine af 3 ?_ ?_ ?_
 exact (Or.inl dW)
 exact dD
 exact rfl
 exact Or.inl rfl
 exact rfl
 decide +kernel
 refine aC ?_
 refine aV (i := 2) ?_ ?_ ?_ ?_ ?_ ?_
 exact nd
 exact (Or.inl aZ)
 refine aY ?_ ?_
 refine af 2 ?_ ?_ ?_
 exact (Or.inl aZ)
 exact bG
 exact rfl
 refine ao ?_ ?_ ?_
 refine af 1 ?_ ?_ ?_
 exact (Or.inl dB)
 exact mO
 exact rfl
 refine cO ?_ ?_
 refine af 4 ?_ ?_ ?_
 exact (Or.inl i8)
 exact pG
 exact rfl
 exact aj
 decide +kernel
 exact Or.inl rfl
 exact rfl
 decide +kernel
 decide +kernel
 refine ak ?_ ?_
 refine aV (i := 5) ?_ ?_ ?_ ?_ ?_ ?_
 exact nd
 exact (Or.inl gQ)
 refine cR ?_
 refine gm ?_
 refine qe ?_
 refine qe ?_
 refine qe ?_
 refine qe ?_
 refine qe ?_
 refine qe ?_
 refine qe ?_
 refine qe ?_
 refine qe ?_
 refine qe ?_
 refine qe ?_
 refine qe ?_
 exact av
 exact Or.inl rfl
 exact rfl
 decide +kernel
 refine ak ?_ ?_
 refine jE ?_ ?_ ?_
 refine cz ?_ ?_ ?_ ?_
 exact (EN hu)
 refine af 2 ?_ ?_ ?_
 exact (Or.inl aZ)
 exact bG
 exact rfl
 refine af 5 ?_ ?_ ?_
 exact (Or.inl gQ)
 exact vH
 exact rfl
 decide +kernel
 refine aC ?_
 refine cN ?_
 refine aY ?_ ?_
 refine af 2 ?_ ?_ ?_
 exact (Or.inl aZ)
 exact bG
 exact rfl
 exact ki
 exact fc
 refine aC ?_
 refine cN ?_
 refine af 2 ?_ ?_ ?_
 exact (Or.inl aZ)
 exact bG
 exact rfl
theorem sE : di lR ["_law_rule", "_law_names"] (aa aQ) := ⟨rfl, rfl, rfl, by decide +kernel, rfl, by decide +kernel, by decide +kernel⟩
theorem Al (T : Txt K mg t) : ck P w K mg base (fV P w) 1 (t.f 10) (t.d 10) ["_law_rule", "_law_names"] (b7 K mg 2 eG) := by
 refine ck.imp (sp := b7 K mg 2 (fun ds => fq 9 iF ds)) ?_ gi
 refine A3 (k := 0) (ms := iF) T.uH sE (by decide) (by decide) (fun _ => rfl) ?_
 intro X EE cdv A outer s H E hX hr hx qW
 subst hX
 have hu := eu hr
 have nd := sE.nd
 have hfr : gc (kg (fV P w) P w K mg base lR "_law_due" (aa aQ) (t.f 10) cdv A outer s H E) := ⟨_, outer, s.heap.objs.size, rfl, rfl, rfl⟩
 refine ak ?_ ?_
 refine aV (i := 2) ?_ ?_ ?_ ?_ ?_ ?_
 exact nd
 exact (Or.inl bM)
 refine ao ?_ ?_ ?_
 refine af 0 ?_ ?_ ?_
 exact (Or.inl iz)
 exact ju
 exact rfl
 exact aj
 decide +kernel
 exact Or.inl rfl
 exact rfl
 decide +kernel
 refine ak ?_ ?_
 refine jE ?_ ?_ ?_
 refine cz ?_ ?_ ?_ ?_
 exact (kj hu)
 refine ao ?_ ?_ ?_
 refine af 0 ?_ ?_ ?_
 exact (Or.inl iz)
 exact ju
 exact rfl
 exact aj
 decide +kernel
 exact ki
 decide +kernel
 refine ak ?_ ?_
 refine FG ?_
 refine Cf (i := 3) (xs := ["_law_item"]) (ow := zh) ?_ ?_ ?_ ?_ ?_ ?_ ?_ ?_ ?_ ?_ ?_ ?_ ?_
 exact hx
 exact hfr
 exact jj
 exact kK jj
 exact jz
 exact rfl
 exact nd
 exact eO
 refine af 2 ?_ ?_ ?_
 exact (Or.inl bM)
 exact bu
 exact rfl
 refine jA fun cl C pins s0 H0 fp E1 Ly hx => ?_
 refine ao ?_ ?_ ?_
 refine af 0 ?_ ?_ ?_
 exact (jG jj (by simp))
 exact dM
 exact rfl
 exact aj
 decide +kernel
 refine rA ?_ ?_ ?_ ?_
 exact rfl
 exact eO
 exact rfl
 decide +kernel
 exact rfl
 decide +kernel
 refine ak ?_ ?_
 refine t6 ?_ ?_ ?_ ?_ ?_ ?_
 exact qW
 exact rfl
 refine af 1 ?_ ?_ ?_
 exact (Or.inl eS)
 exact aT
 exact rfl
 refine jn (i := 4) ?_ ?_ ?_ ?_
 exact nd
 exact (Or.inr bD)
 exact Or.inl rfl
 exact rfl
 refine aC ?_
 refine jE ?_ ?_ ?_
 refine cz ?_ ?_ ?_ ?_
 exact (Dn hu)
 refine af 4 ?_ ?_ ?_
 exact (Or.inr (Or.inl bD))
 exact bG
 exact rfl
 refine af 3 ?_ ?_ ?_
 exact (Or.inl eO)
 exact vF
 exact rfl
 decide +kernel
 refine aC ?_
 refine cN ?_
 exact yX
 exact fc
 decide +kernel
 refine ak ?_ ?_
 refine t6 ?_ ?_ ?_ ?_ ?_ ?_
 exact qW
 exact rfl
 refine af 2 ?_ ?_ ?_
 exact (Or.inl bM)
 exact bu
 exact rfl
 refine wG (i := 4) (j := 5) (l := 6) ?_ ?_ ?_ ?_ ?_ ?_ ?_ ?_ ?_ ?_ ?_
 exact rfl
 exact nd
 exact (Or.inr bD)
 exact (Or.inl dO)
 exact (Or.inl bI)
 exact Or.inl rfl
 exact Or.inl rfl
 exact Or.inl rfl
 exact rfl
 exact rfl
 exact rfl
 refine ak ?_ ?_
 refine aV (i := 7) ?_ ?_ ?_ ?_ ?_ ?_
 exact nd
 exact (Or.inl aW)
 refine lH ?_ ?_ ?_ ?_
 exact T.qE
 exact mQ
 refine aP ?_ ?_ ?_
 refine cR ?_
 refine sX (xs := ["_law_one"]) (ow := zh) ?_ ?_ ?_ ?_ ?_ ?_ ?_ ?_ ?_
 exact hx
 exact hfr
 exact eW
 exact kK eW
 exact jz
 exact rfl
 refine af 1 ?_ ?_ ?_
 exact (Or.inl eS)
 exact aT
 exact rfl
 refine wm fun cl C pins s0 H0 fp E1 Ly hx => ?_
 refine ⟨?_, ?_⟩
 refine cz ?_ ?_ ?_ ?_
 exact (kj hu)
 refine af 0 ?_ ?_ ?_
 exact (jG eW (by simp))
 exact j7
 exact rfl
 refine af 5 ?_ ?_ ?_
 exact (qc eW iy)
 exact bG
 exact rfl
 decide +kernel
 refine af 0 ?_ ?_ ?_
 exact (jG eW (by simp))
 exact j7
 exact rfl
 decide +kernel
 decide +kernel
 exact av
 decide +kernel
 exact Or.inl rfl
 exact rfl
 decide +kernel
 refine aC ?_
 refine jE ?_ ?_ ?_
 refine zb ?_
 refine ES ?_ ?_
 refine cz ?_ ?_ ?_ ?_
 exact ET
 refine af 7 ?_ ?_ ?_
 exact (Or.inl aW)
 exact cy
 exact rfl
 refine af 5 ?_ ?_ ?_
 exact (Or.inl dO)
 exact gK
 exact rfl
 decide +kernel
 refine AV ?_
 refine zb ?_
 refine tS ?_ ?_
 refine cz ?_ ?_ ?_ ?_
 exact tU
 refine af 6 ?_ ?_ ?_
 exact (Or.inl bI)
 exact ie
 exact rfl
 exact kh
 decide +kernel
 refine p7 ?_
 refine cz ?_ ?_ ?_ ?_
 exact tT
 refine af 7 ?_ ?_ ?_
 exact (Or.inl aW)
 exact cy
 exact rfl
 refine af 6 ?_ ?_ ?_
 exact (Or.inl bI)
 exact ie
 exact rfl
 decide +kernel
 refine aC ?_
 refine cN ?_
 exact yX
 exact fc
 decide +kernel
 refine aC ?_
 refine cN ?_
 exact yX
 exact fc
 refine ak ?_ ?_
 refine aV (i := 8) ?_ ?_ ?_ ?_ ?_ ?_
 exact nd
 exact (Or.inl b9)
 refine Cg ?_ ?_ ?_ ?_
 exact T.BD
 exact rL
 refine aP ?_ ?_ ?_
 refine af 1 ?_ ?_ ?_
 exact (Or.inl eS)
 exact aT
 exact rfl
 decide +kernel
 exact av
 decide +kernel
 exact Or.inl rfl
 exact rfl
 decide +kernel
 refine ak ?_ ?_
 refine t6 ?_ ?_ ?_ ?_ ?_ ?_
 exact qW
 exact rfl
 refine af 2 ?_ ?_ ?_
 exact (Or.inl bM)
 exact bu
 exact rfl
 refine wG (i := 4) (j := 5) (l := 6) ?_ ?_ ?_ ?_ ?_ ?_ ?_ ?_ ?_ ?_ ?_
 exact rfl
 exact nd
 exact (Or.inr bD)
 exact (Or.inl dO)
 exact (Or.inl bI)
 exact Or.inl rfl
 exact Or.inl rfl
 exact Or.inl rfl
 exact rfl
 exact rfl
 exact rfl
 refine ak ?_ ?_
 refine aV (i := 7) ?_ ?_ ?_ ?_ ?_ ?_
 exact nd
 exact (Or.inl aW)
 exact aj
 exact Or.inl rfl
 exact rfl
 decide +kernel
 refine ak ?_ ?_
 refine Fl ?_ ?_ ?_
 exact qW
 refine zb ?_
 refine tS ?_ ?_
 refine cz ?_ ?_ ?_ ?_
 exact tT
 refine lH ?_ ?_ ?_ ?_
 exact T.qE
 exact mQ
 refine aP ?_ ?_ ?_
 refine af 8 ?_ ?_ ?_
 exact (Or.inl b9)
 exact jt
 exact rfl
 decide +kernel
 exact av
 decide +kernel
 exact aj
 decide +kernel
 refine p7 ?_
 refine cz ?_ ?_ ?_ ?_
 exact (kj hu)
 refine ao ?_ ?_ ?_
 refine af 8 ?_ ?_ ?_
 exact (Or.inl b9)
 exact jt
 exact rfl
 exact aj
 decide +kernel
 refine af 4 ?_ ?_ ?_
 exact (Or.inr (Or.inl bD))
 exact bG
 exact rfl
 decide +kernel
 refine ak ?_ ?_
 refine lI ?_ ?_
 refine Gk ?_ ?_ ?_ ?_ ?_
 refine af 8 ?_ ?_ ?_
 exact (Or.inl b9)
 exact jt
 exact rfl
 refine zo ?_
 exact av
 decide +kernel
 decide +kernel
 exact rfl
 decide +kernel
 refine aC ?_
 refine aV (i := 7) ?_ ?_ ?_ ?_ ?_ ?_
 exact nd
 exact (Or.inl aW)
 refine aY ?_ ?_
 refine af 7 ?_ ?_ ?_
 exact (Or.inl aW)
 exact cy
 exact rfl
 exact aj
 exact Or.inl rfl
 exact rfl
 decide +kernel
 refine aC ?_
 refine jE ?_ ?_ ?_
 refine zb ?_
 refine ES ?_ ?_
 refine cz ?_ ?_ ?_ ?_
 exact ET
 refine af 7 ?_ ?_ ?_
 exact (Or.inl aW)
 exact cy
 exact rfl
 refine af 5 ?_ ?_ ?_
 exact (Or.inl dO)
 exact gK
 exact rfl
 decide +kernel
 refine AV ?_
 refine zb ?_
 refine tS ?_ ?_
 refine cz ?_ ?_ ?_ ?_
 exact tU
 refine af 6 ?_ ?_ ?_
 exact (Or.inl bI)
 exact ie
 exact rfl
 exact kh
 decide +kernel
 refine p7 ?_
 refine cz ?_ ?_ ?_ ?_
 exact tT
 refine af 7 ?_ ?_ ?_
 exact (Or.inl aW)
 exact cy
 exact rfl
 refine af 6 ?_ ?_ ?_
 exact (Or.inl bI)
 exact ie
 exact rfl
 decide +kernel
 refine aC ?_
 refine cN ?_
 exact yX
 exact fc
 decide +kernel
 refine aC ?_
 refine cN ?_
 refine yZ ?_ ?_ ?_
 exact hu
 refine af 8 ?_ ?_ ?_
 exact (Or.inl b9)
 exact jt
 exact rfl
 refine cR ?_
 refine gm ?_
 exact av
theorem oS : di qv ["_law_draws_here", "_law_pool"] (aa aM) := ⟨rfl, rfl, rfl, by decide +kernel, rfl, by decide +kernel, by decide +kernel⟩
theorem vN (T : Txt K mg t) : ck P w K mg base (fV P w) 1 (t.f 11) (t.d 11) ["_law_draws_here", "_law_pool"] (b7 K mg 2 fO) := by
 refine ck.imp (sp := b7 K mg 2 (fun ds => fq 7 jr ds)) ?_ gi
 refine A3 (k := 0) (ms := jr) T.qC oS (by decide) (by decide) (fun _ => rfl) ?_
 intro X EE cdv A outer s H E hX hr hx qW
 subst hX
 have hu := eu hr
 have nd := oS.nd
 have hfr : gc (kg (fV P w) P w K mg base qv "_law_items" (aa aM) (t.f 11) cdv A outer s H E) := ⟨_, outer, s.heap.objs.size, rfl, rfl, rfl⟩
 refine ak ?_ ?_
 refine aV (i := 2) ?_ ?_ ?_ ?_ ?_ ?_
 exact nd
 exact (Or.inl cG)
 refine gm ?_
 exact av
 exact Or.inl rfl
 exact rfl
 decide +kernel
 refine ak ?_ ?_
 refine t7 ?_ ?_ ?_ ?_ ?_ ?_ ?_ ?_
 exact qW
 exact rfl
 exact T.yo
 exact oq
 refine aP ?_ ?_ ?_
 refine cO ?_ ?_
 refine ao ?_ ?_ ?_
 refine af 0 ?_ ?_ ?_
 exact (Or.inl cF)
 exact aq
 exact rfl
 exact aj
 decide +kernel
 exact aj
 decide +kernel
 exact av
 refine jn (i := 3) ?_ ?_ ?_ ?_
 exact nd
 exact (Or.inl fF)
 exact Or.inl rfl
 exact rfl
 refine ak ?_ ?_
 refine aV (i := 4) ?_ ?_ ?_ ?_ ?_ ?_
 exact nd
 exact (Or.inl dZ)
 refine ao ?_ ?_ ?_
 refine af 0 ?_ ?_ ?_
 exact (Or.inl cF)
 exact aq
 exact rfl
 refine aY ?_ ?_
 exact aj
 refine af 3 ?_ ?_ ?_
 exact (Or.inl fF)
 exact dD
 exact rfl
 decide +kernel
 exact Or.inl rfl
 exact rfl
 decide +kernel
 refine ak ?_ ?_
 refine aV (i := 5) ?_ ?_ ?_ ?_ ?_ ?_
 exact nd
 exact (Or.inl bS)
 refine cO ?_ ?_
 refine af 4 ?_ ?_ ?_
 exact (Or.inl dZ)
 exact cT
 exact rfl
 exact aj
 exact Or.inl rfl
 exact rfl
 decide +kernel
 refine ak ?_ ?_
 refine aV (i := 6) ?_ ?_ ?_ ?_ ?_ ?_
 exact nd
 exact (Or.inl gM)
 refine ao ?_ ?_ ?_
 refine cR ?_
 refine gm ?_
 refine aP ?_ ?_ ?_
 exact kh
 decide +kernel
 refine aP ?_ ?_ ?_
 refine af 5 ?_ ?_ ?_
 exact (Or.inl bS)
 exact gK
 exact rfl
 decide +kernel
 refine zo ?_
 refine aP ?_ ?_ ?_
 refine aY ?_ ?_
 refine af 5 ?_ ?_ ?_
 exact (Or.inl bS)
 exact gK
 exact rfl
 refine jm ?_ ?_
 refine AR ?_ ?_
 exact aj
 refine af 5 ?_ ?_ ?_
 exact (Or.inl bS)
 exact gK
 exact rfl
 exact aj
 decide +kernel
 exact av
 refine cO ?_ ?_
 refine jm ?_ ?_
 refine af 4 ?_ ?_ ?_
 exact (Or.inl dZ)
 exact cT
 exact rfl
 exact aj
 exact aj
 decide +kernel
 exact Or.inl rfl
 exact rfl
 decide +kernel
 refine aC ?_
 refine lI ?_ ?_
 refine nT ?_ ?_ ?_ ?_ ?_
 refine af 2 ?_ ?_ ?_
 exact (Or.inl cG)
 exact bu
 exact rfl
 refine aP ?_ ?_ ?_
 refine tQ ?_
 refine aP ?_ ?_ ?_
 refine ao ?_ ?_ ?_
 refine af 1 ?_ ?_ ?_
 exact (Or.inl kW)
 exact qF
 exact rfl
 refine cO ?_ ?_
 refine aY ?_ ?_
 refine ao ?_ ?_ ?_
 refine af 0 ?_ ?_ ?_
 exact (Or.inl cF)
 exact aq
 exact rfl
 exact aj
 decide +kernel
 refine af 3 ?_ ?_ ?_
 exact (Or.inl fF)
 exact dD
 exact rfl
 exact aj
 decide +kernel
 decide +kernel
 refine aP ?_ ?_ ?_
 refine af 5 ?_ ?_ ?_
 exact (Or.inl bS)
 exact gK
 exact rfl
 decide +kernel
 refine aP ?_ ?_ ?_
 refine af 6 ?_ ?_ ?_
 exact (Or.inl gM)
 exact ie
 exact rfl
 decide +kernel
 exact av
 decide +kernel
 exact av
 decide +kernel
 decide +kernel
 exact rfl
 decide +kernel
 decide +kernel
 refine aC ?_
 refine cN ?_
 refine t8 ?_ ?_ ?_ ?_
 exact T.yp
 exact ou
 refine aP ?_ ?_ ?_
 refine af 2 ?_ ?_ ?_
 exact (Or.inl cG)
 exact bu
 exact rfl
 decide +kernel
 exact av
 decide +kernel
theorem oU : di qw ["_law_draws_here", "_law_names"] (aa aN) := ⟨rfl, rfl, rfl, by decide +kernel, rfl, by decide +kernel, by decide +kernel⟩
theorem vO (T : Txt K mg t) : ck P w K mg base (fV P w) 1 (t.f 13) (t.d 13) ["_law_draws_here", "_law_names"] (b7 K mg 2 fP) := by
 refine A3 (k := 0) (ms := g8) T.qD oU (by decide) (by decide) (fun _ => rfl) ?_
 intro X EE cdv A outer s H E hX hr hx qW
 subst hX
 have hu := eu hr
 have nd := oU.nd
 have hfr : gc (kg (fV P w) P w K mg base qw "_law_mixed" (aa aN) (t.f 13) cdv A outer s H E) := ⟨_, outer, s.heap.objs.size, rfl, rfl, rfl⟩
 refine ak ?_ ?_
 refine aV (i := 2) ?_ ?_ ?_ ?_ ?_ ?_
 exact nd
 exact (Or.inl eT)
 refine cO ?_ ?_
 refine ao ?_ ?_ ?_
 refine af 0 ?_ ?_ ?_
 exact (Or.inl cH)
 exact aq
 exact rfl
 exact aj
 decide +kernel
 exact aj
 exact Or.inl rfl
 exact rfl
 decide +kernel
 refine ak ?_ ?_
 refine jE ?_ ?_ ?_
 refine zb ?_
 refine ES ?_ ?_
 refine cz ?_ ?_ ?_ ?_
 exact (kj hu)
 refine af 2 ?_ ?_ ?_
 exact (Or.inl eT)
 exact sC
 exact rfl
 exact aj
 decide +kernel
 refine AV ?_
 refine cz ?_ ?_ ?_ ?_
 exact (kj hu)
 refine lH ?_ ?_ ?_ ?_
 exact T.qE
 exact j8
 refine aP ?_ ?_ ?_
 refine af 1 ?_ ?_ ?_
 exact (Or.inl bw)
 exact aT
 exact rfl
 decide +kernel
 exact av
 decide +kernel
 exact aj
 decide +kernel
 refine aC ?_
 refine cN ?_
 refine af 1 ?_ ?_ ?_
 exact (Or.inl bw)
 exact aT
 exact rfl
 exact fc
 refine ak ?_ ?_
 refine jE ?_ ?_ ?_
 refine cz ?_ ?_ ?_ ?_
 exact (kj hu)
 refine af 2 ?_ ?_ ?_
 exact (Or.inl eT)
 exact sC
 exact rfl
 exact aj
 decide +kernel
 refine ak ?_ ?_
 refine aV (i := 3) ?_ ?_ ?_ ?_ ?_ ?_
 exact nd
 exact (Or.inl e8)
 refine cO ?_ ?_
 refine ao ?_ ?_ ?_
 refine af 0 ?_ ?_ ?_
 exact (Or.inl cH)
 exact aq
 exact rfl
 exact aj
 decide +kernel
 refine lH ?_ ?_ ?_ ?_
 exact T.qE
 exact j8
 refine aP ?_ ?_ ?_
 refine af 1 ?_ ?_ ?_
 exact (Or.inl bw)
 exact aT
 exact rfl
 decide +kernel
 exact av
 decide +kernel
 exact Or.inl rfl
 exact rfl
 decide +kernel
 refine aC ?_
 refine cN ?_
 refine aY ?_ ?_
 refine cR ?_
 refine fZ ?_ ?_ ?_
 refine af 1 ?_ ?_ ?_
 exact (Or.inl bw)
 exact aT
 exact rfl
 refine iN ?_
 refine af 3 ?_ ?_ ?_
 exact (Or.inl e8)
 exact pG
 exact rfl
 exact iM
 refine cR ?_
 refine fZ ?_ ?_ ?_
 refine af 1 ?_ ?_ ?_
 exact (Or.inl bw)
 exact aT
 exact rfl
 exact iM
 refine iN ?_
 refine af 3 ?_ ?_ ?_
 exact (Or.inl e8)
 exact pG
 exact rfl
 exact fc
 refine ak ?_ ?_
 refine aV (i := 4) ?_ ?_ ?_ ?_ ?_ ?_
 exact nd
 exact (Or.inl dS)
 refine gm ?_
 exact av
 exact Or.inl rfl
 exact rfl
 decide +kernel
 refine ak ?_ ?_
 refine qg ?_ ?_ ?_ ?_ ?_ ?_
 exact qW
 exact rfl
 refine ug ?_ ?_ ?_ ?_
 exact T.nG
 exact kX
 refine aP ?_ ?_ ?_
 refine af 1 ?_ ?_ ?_
 exact (Or.inl bw)
 exact aT
 exact rfl
 decide +kernel
 exact av
 decide +kernel
 refine Ci (i := 5) (j := 6) ?_ ?_ ?_ ?_ ?_ ?_ ?_ ?_
 exact rfl
 exact nd
 exact (Or.inl dP)
 exact (Or.inl eX)
 exact Or.inl rfl
 exact Or.inl rfl
 exact rfl
 exact rfl
 refine aC ?_
 refine lI ?_ ?_
 refine wF ?_ ?_ ?_ ?_ ?_
 refine af 4 ?_ ?_ ?_
 exact (Or.inl dS)
 exact e7
 exact rfl
 refine aP ?_ ?_ ?_
 refine cO ?_ ?_
 refine jm ?_ ?_
 refine ao ?_ ?_ ?_
 refine af 0 ?_ ?_ ?_
 exact (Or.inl cH)
 exact aq
 exact rfl
 refine cO ?_ ?_
 refine aY ?_ ?_
 exact aj
 refine af 5 ?_ ?_ ?_
 exact (Or.inl dP)
 exact dD
 exact rfl
 exact aj
 decide +kernel
 refine aY ?_ ?_
 exact aj
 refine af 5 ?_ ?_ ?_
 exact (Or.inl dP)
 exact dD
 exact rfl
 refine aY ?_ ?_
 refine af 5 ?_ ?_ ?_
 exact (Or.inl dP)
 exact dD
 exact rfl
 exact aj
 decide +kernel
 refine aP ?_ ?_ ?_
 refine af 6 ?_ ?_ ?_
 exact (Or.inl eX)
 exact bG
 exact rfl
 decide +kernel
 exact av
 decide +kernel
 decide +kernel
 exact rfl
 decide +kernel
 decide +kernel
 refine aC ?_
 refine cN ?_
 refine af 4 ?_ ?_ ?_
 exact (Or.inl dS)
 exact e7
 exact rfl
theorem sF : di uD ["_law_draws_here", "_law_items_here"] (aa bh) := ⟨rfl, rfl, rfl, by decide +kernel, rfl, by decide +kernel, by decide +kernel⟩
theorem vP (T : Txt K mg t) : ck P w K mg base (fV P w) 1 (t.f 12) (t.d 12) ["_law_draws_here", "_law_items_here"] (b7 K mg 2 eL) := by
 refine ck.imp (sp := b7 K mg 2 (fun ds => fq 7 g9 ds)) ?_ FD
 refine A3 (k := 0) (ms := g9) T.uI sF (by decide) (by decide) (fun _ => rfl) ?_
 intro X EE cdv A outer s H E hX hr hx qW
 subst hX
 have hu := eu hr
 have nd := sF.nd
 have hfr : gc (kg (fV P w) P w K mg base uD "_law_row" (aa bh) (t.f 12) cdv A outer s H E) := ⟨_, outer, s.heap.objs.size, rfl, rfl, rfl⟩
 refine ak ?_ ?_
 refine aV (i := 2) ?_ ?_ ?_ ?_ ?_ ?_
 exact nd
 exact (Or.inl cV)
 refine gm ?_
 exact av
 exact Or.inl rfl
 exact rfl
 decide +kernel
 refine ak ?_ ?_
 refine qg ?_ ?_ ?_ ?_ ?_ ?_
 exact qW
 exact rfl
 refine ug ?_ ?_ ?_ ?_
 exact T.nG
 exact mT
 refine aP ?_ ?_ ?_
 refine af 1 ?_ ?_ ?_
 exact (Or.inl fh)
 exact bu
 exact rfl
 decide +kernel
 exact av
 decide +kernel
 refine Ci (i := 3) (j := 4) ?_ ?_ ?_ ?_ ?_ ?_ ?_ ?_
 exact rfl
 exact nd
 exact (Or.inl gu)
 exact (Or.inl bg)
 exact Or.inl rfl
 exact Or.inl rfl
 exact rfl
 exact rfl
 refine ak ?_ ?_
 refine aV (i := 5) ?_ ?_ ?_ ?_ ?_ ?_
 exact nd
 exact (Or.inl aX)
 refine ao ?_ ?_ ?_
 refine af 4 ?_ ?_ ?_
 exact (Or.inl bg)
 exact dM
 exact rfl
 exact aj
 decide +kernel
 exact Or.inl rfl
 exact rfl
 decide +kernel
 refine ak ?_ ?_
 refine aV (i := 6) ?_ ?_ ?_ ?_ ?_ ?_
 exact nd
 exact (Or.inl dm)
 refine ao ?_ ?_ ?_
 refine af 0 ?_ ?_ ?_
 exact (Or.inl bN)
 exact aq
 exact rfl
 refine aY ?_ ?_
 exact aj
 refine af 3 ?_ ?_ ?_
 exact (Or.inl gu)
 exact dD
 exact rfl
 decide +kernel
 exact Or.inl rfl
 exact rfl
 decide +kernel
 refine ak ?_ ?_
 refine jE ?_ ?_ ?_
 refine cz ?_ ?_ ?_ ?_
 exact xC
 refine ao ?_ ?_ ?_
 refine af 4 ?_ ?_ ?_
 exact (Or.inl bg)
 exact dM
 exact rfl
 exact aj
 decide +kernel
 exact kh
 decide +kernel
 refine aC ?_
 refine aV (i := 5) ?_ ?_ ?_ ?_ ?_ ?_
 exact nd
 exact (Or.inl aX)
 refine aY ?_ ?_
 refine af 5 ?_ ?_ ?_
 exact (Or.inl aX)
 exact cy
 exact rfl
 refine cO ?_ ?_
 refine af 6 ?_ ?_ ?_
 exact (Or.inl dm)
 exact cT
 exact rfl
 refine ao ?_ ?_ ?_
 refine cR ?_
 refine gm ?_
 refine zo ?_
 refine zo ?_
 exact av
 refine cO ?_ ?_
 refine jm ?_ ?_
 refine af 6 ?_ ?_ ?_
 exact (Or.inl dm)
 exact cT
 exact rfl
 exact aj
 exact aj
 decide +kernel
 exact Or.inl rfl
 exact rfl
 decide +kernel
 refine aC ?_
 refine aV (i := 5) ?_ ?_ ?_ ?_ ?_ ?_
 exact nd
 exact (Or.inl aX)
 refine aY ?_ ?_
 refine af 5 ?_ ?_ ?_
 exact (Or.inl aX)
 exact cy
 exact rfl
 refine cO ?_ ?_
 refine af 6 ?_ ?_ ?_
 exact (Or.inl dm)
 exact cT
 exact rfl
 refine aY ?_ ?_
 refine AR ?_ ?_
 refine ao ?_ ?_ ?_
 refine af 4 ?_ ?_ ?_
 exact (Or.inl bg)
 exact dM
 exact rfl
 exact aj
 decide +kernel
 refine ao ?_ ?_ ?_
 refine af 4 ?_ ?_ ?_
 exact (Or.inl bg)
 exact dM
 exact rfl
 exact aj
 decide +kernel
 exact aj
 exact Or.inl rfl
 exact rfl
 decide +kernel
 refine ak ?_ ?_
 refine jE ?_ ?_ ?_
 refine zb ?_
 refine tS ?_ ?_
 refine cz ?_ ?_ ?_ ?_
 exact tT
 refine cO ?_ ?_
 refine ao ?_ ?_ ?_
 refine af 0 ?_ ?_ ?_
 exact (Or.inl bN)
 exact aq
 exact rfl
 exact aj
 decide +kernel
 exact aj
 exact aj
 decide +kernel
 refine p7 ?_
 refine cz ?_ ?_ ?_ ?_
 exact (kj hu)
 refine cO ?_ ?_
 refine ao ?_ ?_ ?_
 refine af 0 ?_ ?_ ?_
 exact (Or.inl bN)
 exact aq
 exact rfl
 exact aj
 decide +kernel
 refine lH ?_ ?_ ?_ ?_
 exact T.qE
 exact sN
 refine aP ?_ ?_ ?_
 refine af 1 ?_ ?_ ?_
 exact (Or.inl fh)
 exact bu
 exact rfl
 decide +kernel
 exact av
 decide +kernel
 refine af 3 ?_ ?_ ?_
 exact (Or.inl gu)
 exact dD
 exact rfl
 decide +kernel
 refine aC ?_
 refine aV (i := 5) ?_ ?_ ?_ ?_ ?_ ?_
 exact nd
 exact (Or.inl aX)
 refine xN ?_ ?_ ?_ ?_ ?_
 exact rfl
 exact T.Gv
 exact sO
 refine zo ?_
 refine aP ?_ ?_ ?_
 refine ao ?_ ?_ ?_
 refine cR ?_
 refine gm ?_
 refine aP ?_ ?_ ?_
 refine AR ?_ ?_
 refine ao ?_ ?_ ?_
 refine af 4 ?_ ?_ ?_
 exact (Or.inl bg)
 exact dM
 exact rfl
 exact aj
 decide +kernel
 exact aj
 decide +kernel
 refine aP ?_ ?_ ?_
 refine aY ?_ ?_
 refine Lu ?_ ?_
 refine ao ?_ ?_ ?_
 refine af 4 ?_ ?_ ?_
 exact (Or.inl bg)
 exact dM
 exact rfl
 exact aj
 decide +kernel
 refine xD ?_
 refine af 5 ?_ ?_ ?_
 exact (Or.inl aX)
 exact cy
 exact rfl
 exact aj
 decide +kernel
 exact av
 refine cO ?_ ?_
 refine jm ?_ ?_
 refine ao ?_ ?_ ?_
 refine af 0 ?_ ?_ ?_
 exact (Or.inl bN)
 exact aq
 exact rfl
 exact aj
 decide +kernel
 exact aj
 exact aj
 decide +kernel
 decide +kernel
 exact av
 decide +kernel
 exact Or.inl rfl
 exact rfl
 decide +kernel
 exact fc
 refine aC ?_
 refine aV (i := 2) ?_ ?_ ?_ ?_ ?_ ?_
 exact nd
 exact (Or.inl cV)
 refine aY ?_ ?_
 refine af 2 ?_ ?_ ?_
 exact (Or.inl cV)
 exact aT
 exact rfl
 refine NZ ?_
 refine FA ?_
 refine Lr ?_ ?_
 refine gm ?_
 refine aP ?_ ?_ ?_
 refine ao ?_ ?_ ?_
 refine af 4 ?_ ?_ ?_
 exact (Or.inl bg)
 exact dM
 exact rfl
 exact aj
 decide +kernel
 decide +kernel
 exact av
 refine af 5 ?_ ?_ ?_
 exact (Or.inl aX)
 exact cy
 exact rfl
 exact Or.inl rfl
 exact rfl
 decide +kernel
 decide +kernel
 refine aC ?_
 refine cN ?_
 refine af 2 ?_ ?_ ?_
 exact (Or.inl cV)
 exact aT
 exact rfl
theorem sG : di uE ["rule", "counts", "k"] (aa bF) := ⟨rfl, rfl, rfl, by decide +kernel, rfl, by decide +kernel, by decide +kernel⟩
theorem Am (T : Txt K mg t) (gR : ck P w K mg base (fV P w) 1 (t.f 6) (t.d 6) ["items", "counts"] (b7 K mg 2 fC)) : ck P w K mg base (fV P w) 2 (t.f 4) (t.d 4) ["rule", "counts", "k"] (b7 K mg 3 jN) := by
 refine ck.imp (sp := b7 K mg 3 (fun ds => fq 4 lS ds)) ?_ gi
 refine A3 (k := 1) (ms := lS) T.uF sG (by decide) (by decide) (fun _ => rfl) ?_
 intro X EE cdv A outer s H E hX hr hx qW
 subst hX
 have hu := eu hr
 have nd := sG.nd
 have hfr : gc (kg (fV P w) P w K mg base uE "may_take" (aa bF) (t.f 4) cdv A outer s H E) := ⟨_, outer, s.heap.objs.size, rfl, rfl, rfl⟩
 refine ak ?_ ?_
 refine aV (i := 3) ?_ ?_ ?_ ?_ ?_ ?_
 exact nd
 exact (Or.inl iJ)
 refine ao ?_ ?_ ?_
 refine ao ?_ ?_ ?_
 refine ao ?_ ?_ ?_
 refine af 0 ?_ ?_ ?_
 exact (Or.inl iK)
 exact eN
 exact rfl
 exact aj
 decide +kernel
 refine af 2 ?_ ?_ ?_
 exact (Or.inl iU)
 exact oj
 exact rfl
 decide +kernel
 exact aj
 decide +kernel
 exact Or.inl rfl
 exact rfl
 decide +kernel
 refine ak ?_ ?_
 refine jE ?_ ?_ ?_
 refine zb ?_
 refine tS ?_ ?_
 refine cz ?_ ?_ ?_ ?_
 exact tU
 refine af 3 ?_ ?_ ?_
 exact (Or.inl iJ)
 exact nY
 exact rfl
 exact kh
 decide +kernel
 refine p7 ?_
 refine cz ?_ ?_ ?_ ?_
 exact KW
 refine ao ?_ ?_ ?_
 refine af 1 ?_ ?_ ?_
 exact (Or.inl gx)
 exact cg
 exact rfl
 refine af 2 ?_ ?_ ?_
 exact (Or.inl iU)
 exact oj
 exact rfl
 decide +kernel
 refine af 3 ?_ ?_ ?_
 exact (Or.inl iJ)
 exact nY
 exact rfl
 decide +kernel
 refine aC ?_
 refine cN ?_
 exact yX
 exact fc
 refine aC ?_
 refine cN ?_
 refine Nb ?_ ?_
 refine yZ ?_ ?_ ?_
 exact hu
 refine ao ?_ ?_ ?_
 refine af 0 ?_ ?_ ?_
 exact (Or.inl iK)
 exact eN
 exact rfl
 exact aj
 decide +kernel
 exact ki
 refine xD ?_
 refine AX ?_ ?_
 refine yZ ?_ ?_ ?_
 exact hu
 refine II ?_ ?_ ?_ ?_ ?_
 exact rfl
 exact T.N4
 exact sR
 refine aP ?_ ?_ ?_
 refine cR ?_
 refine fZ ?_ ?_ ?_
 refine af 1 ?_ ?_ ?_
 exact (Or.inl gx)
 exact cg
 exact rfl
 refine iN ?_
 refine aY ?_ ?_
 refine af 2 ?_ ?_ ?_
 exact (Or.inl iU)
 exact oj
 exact rfl
 exact aj
 exact iM
 decide +kernel
 exact av
 decide +kernel
 exact aj
 refine xD ?_
 refine dJ (CX := fV P w) (k := qt) (f := (t.f 6)) (fd := (t.d 6)) (ps := ["items", "counts"]) ?_ ?_ ?_ ?_ ?_ ?_ ?_ ?_ ?_ ?_
 exact gR
 exact hr.mono (by decide)
 exact T.sA
 exact T.nD.kp
 exact T.sy
 exact ng hx
 exact mU
 exact qG
 refine aP ?_ ?_ ?_
 refine cR ?_
 refine fZ ?_ ?_ ?_
 refine ao ?_ ?_ ?_
 refine af 0 ?_ ?_ ?_
 exact (Or.inl iK)
 exact eN
 exact rfl
 exact aj
 decide +kernel
 exact iM
 refine iN ?_
 refine af 2 ?_ ?_ ?_
 exact (Or.inl iU)
 exact oj
 exact rfl
 decide +kernel
 refine aP ?_ ?_ ?_
 refine af 1 ?_ ?_ ?_
 exact (Or.inl gx)
 exact cg
 exact rfl
 decide +kernel
 exact av
 decide +kernel
theorem oV : di lT ["rule", "layer", "names"] (aa aH) := ⟨rfl, rfl, rfl, by decide +kernel, rfl, by decide +kernel, by decide +kernel⟩
theorem vQ (T : Txt K mg t) (pN : ck P w K mg base (fV P w) 2 (t.f 4) (t.d 4) ["rule", "counts", "k"] (b7 K mg 3 jN)) (yD : ck P w K mg base (fV P w) 1 (t.f 5) (t.d 5) ["rule", "counts", "k"] (b7 K mg 3 qp)) : ck P w K mg base (fV P w) 3 (t.f 2) (t.d 2) ["rule", "layer", "names"] (b7 K mg 3 ia) := by
 refine A3 (k := 2) (ms := lU) T.qA oV (by decide) (by decide) (fun _ => rfl) ?_
 intro X EE cdv A outer s H E hX hr hx qW
 subst hX
 have hu := eu hr
 have nd := oV.nd
 have hfr : gc (kg (fV P w) P w K mg base lT "next_layer" (aa aH) (t.f 2) cdv A outer s H E) := ⟨_, outer, s.heap.objs.size, rfl, rfl, rfl⟩
 refine ak ?_ ?_
 refine FG ?_
 refine Fq (i := 3) (xs := ["k", "item"]) (ow := Ib K 2) ?_ ?_ ?_ ?_ ?_ ?_ ?_ ?_ ?_ ?_ ?_ ?_ ?_
 exact hx
 exact hfr
 exact dN
 exact zj rfl dN
 exact zl
 exact rfl
 exact nd
 exact e9
 refine ug ?_ ?_ ?_ ?_
 exact T.nG
 exact kZ
 refine aP ?_ ?_ ?_
 refine ao ?_ ?_ ?_
 refine af 0 ?_ ?_ ?_
 exact (Or.inl gy)
 exact eN
 exact rfl
 exact aj
 decide +kernel
 decide +kernel
 exact av
 decide +kernel
 refine wm fun cl C pins s0 H0 fp E1 Ly hx => ?_
 refine ⟨?_, ?_⟩
 refine cz ?_ ?_ ?_ ?_
 exact (EN hu)
 refine ao ?_ ?_ ?_
 refine af 1 ?_ ?_ ?_
 exact (jG dN (by simp))
 exact yt
 exact rfl
 exact aj
 decide +kernel
 refine af 4 ?_ ?_ ?_
 exact (qc dN kr)
 exact nI
 exact rfl
 decide +kernel
 refine af 0 ?_ ?_ ?_
 exact (jG dN (by simp))
 exact oj
 exact rfl
 refine rA ?_ ?_ ?_ ?_
 exact rfl
 exact e9
 exact rfl
 decide +kernel
 exact rfl
 decide +kernel
 refine ak ?_ ?_
 refine aV (i := 4) ?_ ?_ ?_ ?_ ?_ ?_
 exact nd
 exact (Or.inl fW)
 exact Gd
 exact Or.inl rfl
 exact rfl
 decide +kernel
 refine ak ?_ ?_
 refine qg ?_ ?_ ?_ ?_ ?_ ?_
 exact qW
 exact rfl
 refine CB ?_
 refine af 1 ?_ ?_ ?_
 exact (Or.inl oA)
 exact Ad
 exact rfl
 refine jn (i := 5) ?_ ?_ ?_ ?_
 exact nd
 exact (Or.inl dQ)
 exact Or.inl rfl
 exact rfl
 refine aC ?_
 refine t6 ?_ ?_ ?_ ?_ ?_ ?_
 exact qW
 exact rfl
 refine af 3 ?_ ?_ ?_
 exact (Or.inl e9)
 exact BF
 exact rfl
 refine jn (i := 6) ?_ ?_ ?_ ?_
 exact nd
 exact (Or.inl gj)
 exact Or.inl rfl
 exact rfl
 refine aC ?_
 refine jE ?_ ?_ ?_
 refine Ff ?_ ?_
 refine dJ (CX := fV P w) (k := zW) (f := (t.f 4)) (fd := (t.d 4)) (ps := ["rule", "counts", "k"]) ?_ ?_ ?_ ?_ ?_ ?_ ?_ ?_ ?_ ?_
 exact pN
 exact hr.mono (by decide)
 exact T.Bv
 exact T.uF.kp
 exact T.Bu
 exact ng hx
 exact lY
 exact Ae
 refine aP ?_ ?_ ?_
 refine af 0 ?_ ?_ ?_
 exact (Or.inl gy)
 exact eN
 exact rfl
 decide +kernel
 refine aP ?_ ?_ ?_
 refine af 5 ?_ ?_ ?_
 exact (Or.inl dQ)
 exact cg
 exact rfl
 decide +kernel
 refine aP ?_ ?_ ?_
 refine af 6 ?_ ?_ ?_
 exact (Or.inl gj)
 exact oj
 exact rfl
 decide +kernel
 exact av
 decide +kernel
 decide +kernel
 refine aC ?_
 refine Gf ?_ ?_ ?_ ?_ ?_
 exact hu
 refine tQ ?_
 refine aP ?_ ?_ ?_
 refine af 5 ?_ ?_ ?_
 exact (Or.inl dQ)
 exact cg
 exact rfl
 decide +kernel
 refine aP ?_ ?_ ?_
 refine af 6 ?_ ?_ ?_
 exact (Or.inl gj)
 exact oj
 exact rfl
 decide +kernel
 exact av
 refine af 4 ?_ ?_ ?_
 exact (Or.inl fW)
 exact Ac
 exact rfl
 refine dJ (CX := fV P w) (k := Gq) (f := (t.f 5)) (fd := (t.d 5)) (ps := ["rule", "counts", "k"]) ?_ ?_ ?_ ?_ ?_ ?_ ?_ ?_ ?_ ?_
 exact yD
 exact hr.mono (by decide)
 exact T.IL
 exact T.CH.kp
 exact T.IK
 exact ng hx
 exact oB
 exact Gy
 refine aP ?_ ?_ ?_
 refine af 0 ?_ ?_ ?_
 exact (Or.inl gy)
 exact eN
 exact rfl
 decide +kernel
 refine aP ?_ ?_ ?_
 refine af 5 ?_ ?_ ?_
 exact (Or.inl dQ)
 exact cg
 exact rfl
 decide +kernel
 refine aP ?_ ?_ ?_
 refine af 6 ?_ ?_ ?_
 exact (Or.inl gj)
 exact oj
 exact rfl
 decide +kernel
 exact av
 decide +kernel
 decide +kernel
 exact fc
 decide +kernel
 decide +kernel
 refine aC ?_
 refine cN ?_
 refine af 4 ?_ ?_ ?_
 exact (Or.inl fW)
 exact Ac
 exact rfl
theorem oW : di qx ["rule", "choices"] (aa aG) := ⟨rfl, rfl, rfl, by decide +kernel, rfl, by decide +kernel, by decide +kernel⟩
theorem vR (T : Txt K mg t) (mq : ck P w K mg base (fV P w) 3 (t.f 2) (t.d 2) ["rule", "layer", "names"] (b7 K mg 3 ia)) (nK : ck P w K mg base (fV P w) 1 (t.f 3) (t.d 3) ["rule"] (b7 K mg 1 gG)) (gR : ck P w K mg base (fV P w) 1 (t.f 6) (t.d 6) ["items", "counts"] (b7 K mg 2 fC)) (pO : ck P w K mg base (fV P w) 1 (t.f 7) (t.d 7) ["items", "layers", "counts"] (b7 K mg 3 jM)) : ck P w K mg base (fV P w) 4 (t.f 1) (t.d 1) ["rule", "choices"] (b7 K mg 2 fQ) := by
 refine ck.imp (sp := b7 K mg 2 (fun ds => fq 6 ic ds)) ?_ gi
 refine A3 (k := 3) (ms := ic) T.qy oW (by decide) (by decide) (fun _ => rfl) ?_
 intro X EE cdv A outer s H E hX hr hx qW
 subst hX
 have hu := eu hr
 have nd := oW.nd
 have hfr : gc (kg (fV P w) P w K mg base qx "row_chosen" (aa aG) (t.f 1) cdv A outer s H E) := ⟨_, outer, s.heap.objs.size, rfl, rfl, rfl⟩
 refine ak ?_ ?_
 refine aV (i := 2) ?_ ?_ ?_ ?_ ?_ ?_
 exact nd
 exact (Or.inl fX)
 refine ao ?_ ?_ ?_
 refine af 0 ?_ ?_ ?_
 exact (Or.inl gA)
 exact eN
 exact rfl
 exact aj
 decide +kernel
 exact Or.inl rfl
 exact rfl
 decide +kernel
 refine ak ?_ ?_
 refine aV (i := 3) ?_ ?_ ?_ ?_ ?_ ?_
 exact nd
 exact (Or.inl cI)
 refine gm ?_
 refine aP ?_ ?_ ?_
 refine Gj ?_ ?_ ?_
 exact hu
 refine dJ (CX := fV P w) (k := x9) (f := (t.f 3)) (fd := (t.d 3)) (ps := ["rule"]) ?_ ?_ ?_ ?_ ?_ ?_ ?_ ?_ ?_ ?_
 exact nK
 exact hr.mono (by decide)
 exact T.zY
 exact T.su.kp
 exact T.zX
 exact ng hx
 exact lq
 exact yu
 refine aP ?_ ?_ ?_
 refine af 0 ?_ ?_ ?_
 exact (Or.inl gA)
 exact eN
 exact rfl
 decide +kernel
 exact av
 decide +kernel
 exact kh
 decide +kernel
 exact av
 exact Or.inl rfl
 exact rfl
 decide +kernel
 refine ak ?_ ?_
 refine t6 ?_ ?_ ?_ ?_ ?_ ?_
 exact qW
 exact rfl
 refine af 1 ?_ ?_ ?_
 exact (Or.inl mV)
 exact BE
 exact rfl
 refine jn (i := 4) ?_ ?_ ?_ ?_
 exact nd
 exact (Or.inl jl)
 exact Or.inl rfl
 exact rfl
 refine aC ?_
 refine lI ?_ ?_
 refine nT ?_ ?_ ?_ ?_ ?_
 refine af 3 ?_ ?_ ?_
 exact (Or.inl cI)
 exact kR
 exact rfl
 refine aP ?_ ?_ ?_
 refine dJ (CX := fV P w) (k := vB) (f := (t.f 2)) (fd := (t.d 2)) (ps := ["rule", "layer", "names"]) ?_ ?_ ?_ ?_ ?_ ?_ ?_ ?_ ?_ ?_
 exact mq
 exact hr.mono (by decide)
 exact T.yf
 exact T.qA.kp
 exact T.ye
 exact ng hx
 exact kB
 exact vI
 refine aP ?_ ?_ ?_
 refine af 0 ?_ ?_ ?_
 exact (Or.inl gA)
 exact eN
 exact rfl
 decide +kernel
 refine aP ?_ ?_ ?_
 refine ao ?_ ?_ ?_
 refine af 3 ?_ ?_ ?_
 exact (Or.inl cI)
 exact kR
 exact rfl
 refine EV ?_
 exact aj
 decide +kernel
 decide +kernel
 refine aP ?_ ?_ ?_
 refine af 4 ?_ ?_ ?_
 exact (Or.inl jl)
 exact nI
 exact rfl
 decide +kernel
 exact av
 decide +kernel
 decide +kernel
 exact av
 decide +kernel
 decide +kernel
 exact rfl
 decide +kernel
 decide +kernel
 refine ak ?_ ?_
 refine qg ?_ ?_ ?_ ?_ ?_ ?_
 exact qW
 exact rfl
 refine CB ?_
 refine ao ?_ ?_ ?_
 refine af 3 ?_ ?_ ?_
 exact (Or.inl cI)
 exact kR
 exact rfl
 refine EV ?_
 exact aj
 decide +kernel
 refine jn (i := 5) ?_ ?_ ?_ ?_
 exact nd
 exact (Or.inl fG)
 exact Or.inl rfl
 exact rfl
 refine aC ?_
 refine jE ?_ ?_ ?_
 refine Ff ?_ ?_
 refine dJ (CX := fV P w) (k := qt) (f := (t.f 6)) (fd := (t.d 6)) (ps := ["items", "counts"]) ?_ ?_ ?_ ?_ ?_ ?_ ?_ ?_ ?_ ?_
 exact gR
 exact hr.mono (by decide)
 exact T.sA
 exact T.nD.kp
 exact T.sy
 exact ng hx
 exact lg
 exact qG
 refine aP ?_ ?_ ?_
 refine af 2 ?_ ?_ ?_
 exact (Or.inl fX)
 exact qH
 exact rfl
 decide +kernel
 refine aP ?_ ?_ ?_
 refine af 5 ?_ ?_ ?_
 exact (Or.inl fG)
 exact cg
 exact rfl
 decide +kernel
 exact av
 decide +kernel
 decide +kernel
 refine aC ?_
 refine cN ?_
 refine dJ (CX := fV P w) (k := zU) (f := (t.f 7)) (fd := (t.d 7)) (ps := ["items", "layers", "counts"]) ?_ ?_ ?_ ?_ ?_ ?_ ?_ ?_ ?_ ?_
 exact pO
 exact hr.mono (by decide)
 exact T.Bx
 exact T.uG.kp
 exact T.Bw
 exact ng hx
 exact lZ
 exact Af
 refine aP ?_ ?_ ?_
 refine af 2 ?_ ?_ ?_
 exact (Or.inl fX)
 exact qH
 exact rfl
 decide +kernel
 refine aP ?_ ?_ ?_
 refine af 3 ?_ ?_ ?_
 exact (Or.inl cI)
 exact kR
 exact rfl
 decide +kernel
 refine aP ?_ ?_ ?_
 refine af 5 ?_ ?_ ?_
 exact (Or.inl fG)
 exact cg
 exact rfl
 decide +kernel
 exact av
 decide +kernel
 exact fc
 decide +kernel
 refine aC ?_
 refine cN ?_
 exact kh
theorem CK : di Bt ["rule", "names"] (aa fB) := ⟨rfl, rfl, rfl, by decide +kernel, rfl, by decide +kernel, by decide +kernel⟩
theorem IU (T : Txt K mg t) (mw : ck P w K mg base (fV P w) 4 (t.f 1) (t.d 1) ["rule", "choices"] (b7 K mg 2 fQ)) : ck P w K mg base (fV P w) 5 (t.f 0) (t.d 0) ["rule", "names"] (b7 K mg 2 rK) := by
 refine ck.imp (sp := b7 K mg 2 (fun ds => fq 2 yb ds)) ?_ gi
 refine A3 (k := 4) (ms := yb) T.Gu CK (by decide) (by decide) (fun _ => rfl) ?_
 intro X EE cdv A outer s H E hX hr hx qW
 subst hX
 have hu := eu hr
 have nd := CK.nd
 have hfr : gc (kg (fV P w) P w K mg base Bt "lets" (aa fB) (t.f 0) cdv A outer s H E) := ⟨_, outer, s.heap.objs.size, rfl, rfl, rfl⟩
 refine aC ?_
 refine cN ?_
 refine HQ ?_ ?_
 refine dJ (CX := fV P w) (k := vC) (f := (t.f 1)) (fd := (t.d 1)) (ps := ["rule", "choices"]) ?_ ?_ ?_ ?_ ?_ ?_ ?_ ?_ ?_ ?_
 exact mw
 exact hr.mono (by decide)
 exact T.yd
 exact T.qy.kp
 exact T.yc
 exact ng hx
 exact pK
 exact vJ
 refine aP ?_ ?_ ?_
 refine af 0 ?_ ?_ ?_
 exact (Or.inl yw)
 exact eN
 exact rfl
 decide +kernel
 refine aP ?_ ?_ ?_
 refine cR ?_
 refine sX (xs := ["name"]) (ow := zh) ?_ ?_ ?_ ?_ ?_ ?_ ?_ ?_ ?_
 exact hx
 exact hfr
 exact nJ
 exact kK nJ
 exact jz
 exact rfl
 refine af 1 ?_ ?_ ?_
 exact (Or.inl vL)
 exact nI
 exact rfl
 refine jA fun cl C pins s0 H0 fp E1 Ly hx => ?_
 refine cR ?_
 refine gm ?_
 refine aP ?_ ?_ ?_
 refine af 0 ?_ ?_ ?_
 exact (jG nJ (by simp))
 exact IQ
 exact rfl
 decide +kernel
 exact av
 decide +kernel
 decide +kernel
 exact av
 decide +kernel
 exact kh
theorem GA : di Gr ["_law_script"] (aa b8) := ⟨rfl, rfl, rfl, by decide +kernel, rfl, by decide +kernel, by decide +kernel⟩
theorem Lz (T : Txt K mg t) (BI : ck P w K mg base (fV P w) 5 (t.f 0) (t.d 0) ["rule", "names"] (b7 K mg 2 rK)) (mz : ck P w K mg base (fV P w) 1 (t.f 8) (t.d 8) ["_law_script", "_law_many"] (b7 K mg 2 eF)) (ja : ck P w K mg base (fV P w) 1 (t.f 9) (t.d 9) ["_law_draw"] (b7 K mg 1 cE)) (pP : ck P w K mg base (fV P w) 1 (t.f 10) (t.d 10) ["_law_rule", "_law_names"] (b7 K mg 2 eG)) (mC : ck P w K mg base (fV P w) 1 (t.f 11) (t.d 11) ["_law_draws_here", "_law_pool"] (b7 K mg 2 fO)) (mD : ck P w K mg base (fV P w) 1 (t.f 13) (t.d 13) ["_law_draws_here", "_law_names"] (b7 K mg 2 fP)) (mE : ck P w K mg base (fV P w) 1 (t.f 12) (t.d 12) ["_law_draws_here", "_law_items_here"] (b7 K mg 2 eL)) : ck P w K mg base (fV P w) 6 (t.f 14) (t.d 14) ["_law_script"] (b7 K mg 1 CG) := by
 refine ck.imp (sp := b7 K mg 1 (fun ds => fq 9 CF ds)) ?_ gi
 refine A3 (k := 5) (ms := CF) T.N2 GA (by decide) (by decide) (fun _ => rfl) ?_
 intro X EE cdv A outer s H E hX hr hx qW
 subst hX
 have hu := eu hr
 have nd := GA.nd
 have hfr : gc (kg (fV P w) P w K mg base Gr "law" (aa b8) (t.f 14) cdv A outer s H E) := ⟨_, outer, s.heap.objs.size, rfl, rfl, rfl⟩
 refine ak ?_ ?_
 refine aV (i := 1) ?_ ?_ ?_ ?_ ?_ ?_
 exact nd
 exact (Or.inr aF)
 refine dJ (CX := fV P w) (k := vq) (f := (t.f 8)) (fd := (t.d 8)) (ps := ["_law_script", "_law_many"]) ?_ ?_ ?_ ?_ ?_ ?_ ?_ ?_ ?_ ?_
 exact mz
 exact hr.mono (by decide)
 exact T.yh
 exact T.qB.kp
 exact T.yg
 exact ng hx
 exact qJ
 exact vD
 refine aP ?_ ?_ ?_
 refine af 0 ?_ ?_ ?_
 exact (Or.inl pJ)
 exact fD
 exact rfl
 decide +kernel
 refine zo ?_
 exact av
 decide +kernel
 exact Or.inl rfl
 exact rfl
 decide +kernel
 refine ak ?_ ?_
 refine aV (i := 2) ?_ ?_ ?_ ?_ ?_ ?_
 exact nd
 exact (Or.inr kY)
 refine cR ?_
 refine fZ ?_ ?_ ?_
 refine dJ (CX := fV P w) (k := lP) (f := (t.f 9)) (fd := (t.d 9)) (ps := ["_law_draw"]) ?_ ?_ ?_ ?_ ?_ ?_ ?_ ?_ ?_ ?_
 exact ja
 exact hr.mono (by decide)
 exact T.nF
 exact T.j6.kp
 exact T.nE
 exact ng hx
 exact iG
 exact lW
 refine aP ?_ ?_ ?_
 refine ao ?_ ?_ ?_
 refine af 1 ?_ ?_ ?_
 exact (Or.inr (Or.inl aF))
 exact aq
 exact rfl
 exact aj
 decide +kernel
 decide +kernel
 exact av
 decide +kernel
 exact iM
 refine iN ?_
 exact aj
 exact Or.inl rfl
 exact rfl
 decide +kernel
 refine ak ?_ ?_
 refine FG ?_
 refine Cf (i := 3) (xs := ["_law_one"]) (ow := zh) ?_ ?_ ?_ ?_ ?_ ?_ ?_ ?_ ?_ ?_ ?_ ?_ ?_
 exact hx
 exact hfr
 exact gr
 exact kK gr
 exact jz
 exact rfl
 exact nd
 exact iH
 exact ki
 refine jA fun cl C pins s0 H0 fp E1 Ly hx => ?_
 refine ao ?_ ?_ ?_
 refine cR ?_
 refine gm ?_
 refine aP ?_ ?_ ?_
 refine aY ?_ ?_
 refine aY ?_ ?_
 refine af 3 ?_ ?_ ?_
 exact (qc gr iA)
 exact lV
 exact rfl
 exact ki
 refine af 0 ?_ ?_ ?_
 exact (jG gr (by simp))
 exact j7
 exact rfl
 decide +kernel
 refine aP ?_ ?_ ?_
 refine aY ?_ ?_
 refine aY ?_ ?_
 refine af 0 ?_ ?_ ?_
 exact (jG gr (by simp))
 exact j7
 exact rfl
 exact ki
 refine af 3 ?_ ?_ ?_
 exact (qc gr iA)
 exact lV
 exact rfl
 decide +kernel
 exact av
 refine cO ?_ ?_
 refine ao ?_ ?_ ?_
 refine af 2 ?_ ?_ ?_
 exact (qc gr jw)
 exact aq
 exact rfl
 exact aj
 decide +kernel
 exact aj
 decide +kernel
 refine rA ?_ ?_ ?_ ?_
 exact rfl
 exact iH
 exact rfl
 decide +kernel
 exact rfl
 decide +kernel
 refine ak ?_ ?_
 refine aV (i := 4) ?_ ?_ ?_ ?_ ?_ ?_
 exact nd
 exact (Or.inl eU)
 refine dJ (CX := fV P w) (k := vt) (f := (t.f 11)) (fd := (t.d 11)) (ps := ["_law_draws_here", "_law_pool"]) ?_ ?_ ?_ ?_ ?_ ?_ ?_ ?_ ?_ ?_
 exact mC
 exact hr.mono (by decide)
 exact T.yj
 exact T.qC.kp
 exact T.yi
 exact ng hx
 exact qK
 exact vE
 refine aP ?_ ?_ ?_
 refine af 1 ?_ ?_ ?_
 exact (Or.inr (Or.inl aF))
 exact aq
 exact rfl
 decide +kernel
 refine aP ?_ ?_ ?_
 refine af 3 ?_ ?_ ?_
 exact (Or.inl iH)
 exact qF
 exact rfl
 decide +kernel
 exact av
 decide +kernel
 exact Or.inl rfl
 exact rfl
 decide +kernel
 refine ak ?_ ?_
 refine aV (i := 5) ?_ ?_ ?_ ?_ ?_ ?_
 exact nd
 exact (Or.inl iI)
 refine tQ ?_
 refine aP ?_ ?_ ?_
 refine dJ (CX := fV P w) (k := lP) (f := (t.f 9)) (fd := (t.d 9)) (ps := ["_law_draw"]) ?_ ?_ ?_ ?_ ?_ ?_ ?_ ?_ ?_ ?_
 exact ja
 exact hr.mono (by decide)
 exact T.nF
 exact T.j6.kp
 exact T.nE
 exact ng hx
 exact iG
 exact lW
 refine aP ?_ ?_ ?_
 refine ao ?_ ?_ ?_
 refine af 1 ?_ ?_ ?_
 exact (Or.inr (Or.inl aF))
 exact aq
 exact rfl
 exact aj
 decide +kernel
 decide +kernel
 exact av
 decide +kernel
 decide +kernel
 refine aP ?_ ?_ ?_
 refine dJ (CX := fV P w) (k := lP) (f := (t.f 9)) (fd := (t.d 9)) (ps := ["_law_draw"]) ?_ ?_ ?_ ?_ ?_ ?_ ?_ ?_ ?_ ?_
 exact ja
 exact hr.mono (by decide)
 exact T.nF
 exact T.j6.kp
 exact T.nE
 exact ng hx
 exact iG
 exact lW
 refine aP ?_ ?_ ?_
 refine ao ?_ ?_ ?_
 refine af 1 ?_ ?_ ?_
 exact (Or.inr (Or.inl aF))
 exact aq
 exact rfl
 exact aj
 decide +kernel
 decide +kernel
 exact av
 decide +kernel
 decide +kernel
 refine aP ?_ ?_ ?_
 refine ao ?_ ?_ ?_
 refine cR ?_
 refine gm ?_
 refine qe ?_
 refine qe ?_
 exact av
 refine cO ?_ ?_
 refine ao ?_ ?_ ?_
 refine af 1 ?_ ?_ ?_
 exact (Or.inr (Or.inl aF))
 exact aq
 exact rfl
 exact aj
 decide +kernel
 exact aj
 decide +kernel
 decide +kernel
 refine aP ?_ ?_ ?_
 refine af 4 ?_ ?_ ?_
 exact (Or.inl eU)
 exact bu
 exact rfl
 decide +kernel
 exact av
 exact Or.inl rfl
 exact rfl
 decide +kernel
 refine ak ?_ ?_
 refine aV (i := 6) ?_ ?_ ?_ ?_ ?_ ?_
 exact nd
 exact (Or.inl cM)
 refine dJ (CX := fV P w) (k := vz) (f := (t.f 13)) (fd := (t.d 13)) (ps := ["_law_draws_here", "_law_names"]) ?_ ?_ ?_ ?_ ?_ ?_ ?_ ?_ ?_ ?_
 exact mD
 exact hr.mono (by decide)
 exact T.yl
 exact T.qD.kp
 exact T.yk
 exact ng hx
 exact qL
 exact vG
 refine aP ?_ ?_ ?_
 refine af 1 ?_ ?_ ?_
 exact (Or.inr (Or.inl aF))
 exact aq
 exact rfl
 decide +kernel
 refine aP ?_ ?_ ?_
 refine dJ (CX := fV P w) (k := vA) (f := (t.f 12)) (fd := (t.d 12)) (ps := ["_law_draws_here", "_law_items_here"]) ?_ ?_ ?_ ?_ ?_ ?_ ?_ ?_ ?_ ?_
 exact mE
 exact hr.mono (by decide)
 exact T.BC
 exact T.uI.kp
 exact T.BB
 exact ng hx
 exact sQ
 exact Aa
 refine aP ?_ ?_ ?_
 refine af 1 ?_ ?_ ?_
 exact (Or.inr (Or.inl aF))
 exact aq
 exact rfl
 decide +kernel
 refine aP ?_ ?_ ?_
 refine af 4 ?_ ?_ ?_
 exact (Or.inl eU)
 exact bu
 exact rfl
 decide +kernel
 exact av
 decide +kernel
 decide +kernel
 exact av
 decide +kernel
 exact Or.inl rfl
 exact rfl
 decide +kernel
 refine ak ?_ ?_
 refine jE ?_ ?_ ?_
 refine cz ?_ ?_ ?_ ?_
 exact (kj hu)
 refine cO ?_ ?_
 refine ao ?_ ?_ ?_
 refine af 1 ?_ ?_ ?_
 exact (Or.inr (Or.inl aF))
 exact aq
 exact rfl
 exact aj
 decide +kernel
 exact aj
 exact aj
 decide +kernel
 refine aC ?_
 refine lI ?_ ?_
 refine wF ?_ ?_ ?_ ?_ ?_
 refine af 6 ?_ ?_ ?_
 exact (Or.inl cM)
 exact aT
 exact rfl
 refine aP ?_ ?_ ?_
 refine cO ?_ ?_
 refine ao ?_ ?_ ?_
 refine af 1 ?_ ?_ ?_
 exact (Or.inr (Or.inl aF))
 exact aq
 exact rfl
 exact aj
 decide +kernel
 refine aY ?_ ?_
 refine lH ?_ ?_ ?_ ?_
 exact T.qE
 exact BH
 refine aP ?_ ?_ ?_
 refine af 6 ?_ ?_ ?_
 exact (Or.inl cM)
 exact aT
 exact rfl
 decide +kernel
 exact av
 decide +kernel
 exact aj
 decide +kernel
 refine aP ?_ ?_ ?_
 refine aY ?_ ?_
 refine af 2 ?_ ?_ ?_
 exact (Or.inr (Or.inl kY))
 exact lV
 exact rfl
 exact ki
 decide +kernel
 exact av
 decide +kernel
 decide +kernel
 exact rfl
 decide +kernel
 exact fc
 refine ak ?_ ?_
 refine aV (i := 7) ?_ ?_ ?_ ?_ ?_ ?_
 exact nd
 exact (Or.inl gw)
 refine cR ?_
 refine Cg ?_ ?_ ?_ ?_
 exact T.BD
 exact Ai
 refine aP ?_ ?_ ?_
 refine af 6 ?_ ?_ ?_
 exact (Or.inl cM)
 exact aT
 exact rfl
 decide +kernel
 exact av
 decide +kernel
 exact Or.inl rfl
 exact rfl
 decide +kernel
 refine ak ?_ ?_
 refine aV (i := 8) ?_ ?_ ?_ ?_ ?_ ?_
 exact nd
 exact (Or.inl ir)
 refine dJ (CX := fV P w) (k := IJ) (f := (t.f 0)) (fd := (t.d 0)) (ps := ["rule", "names"]) ?_ ?_ ?_ ?_ ?_ ?_ ?_ ?_ ?_ ?_
 exact BI
 exact hr.mono (by decide)
 exact T.Lw
 exact T.Gu.kp
 exact T.Lv
 exact ng hx
 exact Ah
 exact IP
 refine aP ?_ ?_ ?_
 refine af 5 ?_ ?_ ?_
 exact (Or.inl iI)
 exact ju
 exact rfl
 decide +kernel
 refine aP ?_ ?_ ?_
 refine af 7 ?_ ?_ ?_
 exact (Or.inl gw)
 exact nH
 exact rfl
 decide +kernel
 exact av
 decide +kernel
 exact Or.inl rfl
 exact rfl
 decide +kernel
 refine aC ?_
 refine cN ?_
 refine AX ?_ ?_
 refine Lc .bl ?_ ?_ ?_ ?_ ?_ ?_ ?_ ?_ ?_ ?_
 decide
 exact T.ym
 exact T.Lx
 exact qM
 exact Ag
 refine af 8 ?_ ?_ ?_
 exact (Or.inl ir)
 exact e7
 exact rfl
 exact IS
 exact IT
 exact IM.1
 decide +kernel
 refine AX ?_ ?_
 refine yZ ?_ ?_ ?_
 exact hu
 refine af 8 ?_ ?_ ?_
 exact (Or.inl ir)
 exact e7
 exact rfl
 refine dJ (CX := fV P w) (k := zV) (f := (t.f 10)) (fd := (t.d 10)) (ps := ["_law_rule", "_law_names"]) ?_ ?_ ?_ ?_ ?_ ?_ ?_ ?_ ?_ ?_
 exact pP
 exact hr.mono (by decide)
 exact T.BA
 exact T.uH.kp
 exact T.By
 exact ng hx
 exact sP
 exact zZ
 refine aP ?_ ?_ ?_
 refine af 5 ?_ ?_ ?_
 exact (Or.inl iI)
 exact ju
 exact rfl
 decide +kernel
 refine aP ?_ ?_ ?_
 refine af 6 ?_ ?_ ?_
 exact (Or.inl cM)
 exact aT
 exact rfl
 decide +kernel
 exact av
 decide +kernel
 refine xD ?_
 refine yZ ?_ ?_ ?_
 exact hu
 refine af 7 ?_ ?_ ?_
 exact (Or.inl gw)
 exact nH
 exact rfl
 refine af 6 ?_ ?_ ?_
 exact (Or.inl cM)
 exact aT
 exact rfl
end
theorem LA {p : List Value → Prop} (h : ∀ a0, p [a0]) : ∀ us : List Value, us.length = 1 → p us := fun us e => by
  rcases us with _ | ⟨a0, us⟩
  · cases e
  rcases us with _ | ⟨z, us⟩
  · exact h a0
  · cases e
theorem An {p : List Value → Prop} (h : ∀ a0 a1, p [a0, a1]) : ∀ us : List Value, us.length = 2 → p us := fun us e => by
  rcases us with _ | ⟨a0, us⟩
  · cases e
  rcases us with _ | ⟨a1, us⟩
  · cases e
  rcases us with _ | ⟨z, us⟩
  · exact h a0 a1
  · cases e
theorem IV {p : List Value → Prop} (h : ∀ a0 a1 a2, p [a0, a1, a2]) : ∀ us : List Value, us.length = 3 → p us := fun us e => by
  rcases us with _ | ⟨a0, us⟩
  · cases e
  rcases us with _ | ⟨a1, us⟩
  · cases e
  rcases us with _ | ⟨a2, us⟩
  · cases e
  rcases us with _ | ⟨z, us⟩
  · exact h a0 a1 a2
  · cases e
theorem LB {K : PySem.W.Frag} {h : Heap} {mg : Str → Option Value} (X : K.In h) (G : h.Ns mainGlobals mg) {f0 : Addr} {UM QV : Option Addr} {UN : Array (Option Value)} {UO QX QY QZ Pb Q0 : Value} (a0 : PySem.W.nsIn K mainGlobals "lets" = some (some (.ref f0))) (l0 : K.lookup f0 = some ⟨UO, UM, .func (PySem.W.fnOf "lets" "lets" (aR fB) (aO fB) (aa fB) .none QX QY QZ QV Pb Q0), UN⟩) (c0 : PySem.W.codeIn K Pb "lets" = true) (k0 : PySem.W.keepIn K (.ref f0) = true) {f1 : Addr} {UP Sh : Option Addr} {UQ : Array (Option Value)} {UR Si Sj Sk Q2 Sl : Value} (a1 : PySem.W.nsIn K mainGlobals "row_chosen" = some (some (.ref f1))) (l1 : K.lookup f1 = some ⟨UR, UP, .func (PySem.W.fnOf "row_chosen" "row_chosen" (aR aG) (aO aG) (aa aG) .none Si Sj Sk Sh Q2 Sl), UQ⟩) (c1 : PySem.W.codeIn K Q2 "row_chosen" = true) (k1 : PySem.W.keepIn K (.ref f1) = true) {f2 : Addr} {US Sm : Option Addr} {sl2 : Array (Option Value)} {UT Sn So Sq Q3 Ss : Value} (a2 : PySem.W.nsIn K mainGlobals "next_layer" = some (some (.ref f2))) (l2 : K.lookup f2 = some ⟨UT, US, .func (PySem.W.fnOf "next_layer" "next_layer" (aR aH) (aO aH) (aa aH) .none Sn So Sq Sm Q3 Ss), sl2⟩) (c2 : PySem.W.codeIn K Q3 "next_layer" = true) (k2 : PySem.W.keepIn K (.ref f2) = true) {f3 : Addr} {UU Su : Option Addr} {UW : Array (Option Value)} {UX Sv Sw Sx Q4 Sy : Value} (a3 : PySem.W.nsIn K mainGlobals "no_counts" = some (some (.ref f3))) (l3 : K.lookup f3 = some ⟨UX, UU, .func (PySem.W.fnOf "no_counts" "no_counts" (aR bK) (aO bK) (aa bK) .none Sv Sw Sx Su Q4 Sy), UW⟩) (c3 : PySem.W.codeIn K Q4 "no_counts" = true) (k3 : PySem.W.keepIn K (.ref f3) = true) {f4 : Addr} {UY Sz : Option Addr} {UZ : Array (Option Value)} {U0 SA SD SE Q5 SG : Value} (a4 : PySem.W.nsIn K mainGlobals "may_take" = some (some (.ref f4))) (l4 : K.lookup f4 = some ⟨U0, UY, .func (PySem.W.fnOf "may_take" "may_take" (aR bF) (aO bF) (aa bF) .none SA SD SE Sz Q5 SG), UZ⟩) (c4 : PySem.W.codeIn K Q5 "may_take" = true) (k4 : PySem.W.keepIn K (.ref f4) = true) {f5 : Addr} {U1 SH : Option Addr} {U3 : Array (Option Value)} {U4 SI SJ SK Q6 SM : Value} (a5 : PySem.W.nsIn K mainGlobals "taken" = some (some (.ref f5))) (l5 : K.lookup f5 = some ⟨U4, U1, .func (PySem.W.fnOf "taken" "taken" (aR cL) (aO cL) (aa cL) .none SI SJ SK SH Q6 SM), U3⟩) (c5 : PySem.W.codeIn K Q6 "taken" = true) (k5 : PySem.W.keepIn K (.ref f5) = true) {f6 : Addr} {U5 SN : Option Addr} {U6 : Array (Option Value)} {U7 SO SQ SR Q7 SS : Value} (a6 : PySem.W.nsIn K mainGlobals "is_enough" = some (some (.ref f6))) (l6 : K.lookup f6 = some ⟨U7, U5, .func (PySem.W.fnOf "is_enough" "is_enough" (aR bC) (aO bC) (aa bC) .none SO SQ SR SN Q7 SS), U6⟩) (c6 : PySem.W.codeIn K Q7 "is_enough" = true) (k6 : PySem.W.keepIn K (.ref f6) = true) {f7 : Addr} {U8 SV : Option Addr} {U9 : Array (Option Value)} {Va SW SX SY Q8 S0 : Value} (a7 : PySem.W.nsIn K mainGlobals "row_back" = some (some (.ref f7))) (l7 : K.lookup f7 = some ⟨Va, U8, .func (PySem.W.fnOf "row_back" "row_back" (aR bz) (aO bz) (aa bz) .none SW SX SY SV Q8 S0), U9⟩) (c7 : PySem.W.codeIn K Q8 "row_back" = true) (k7 : PySem.W.keepIn K (.ref f7) = true) {f8 : Addr} {Vb S5 : Option Addr} {Vc : Array (Option Value)} {Vd S6 S7 S8 Q9 S9 : Value} (a8 : PySem.W.nsIn K mainGlobals "_law_draws" = some (some (.ref f8))) (l8 : K.lookup f8 = some ⟨Vd, Vb, .func (PySem.W.fnOf "_law_draws" "_law_draws" (aR aS) (aO aS) (aa aS) .none S6 S7 S8 S5 Q9 S9), Vc⟩) (c8 : PySem.W.codeIn K Q9 "_law_draws" = true) (k8 : PySem.W.keepIn K (.ref f8) = true) {f9 : Addr} {Ve Tc : Option Addr} {Vf : Array (Option Value)} {Vg Td Te Tf Ra Tg : Value} (a9 : PySem.W.nsIn K mainGlobals "_law_name" = some (some (.ref f9))) (l9 : K.lookup f9 = some ⟨Vg, Ve, .func (PySem.W.fnOf "_law_name" "_law_name" (aR bq) (aO bq) (aa bq) .none Td Te Tf Tc Ra Tg), Vf⟩) (c9 : PySem.W.codeIn K Ra "_law_name" = true) (k9 : PySem.W.keepIn K (.ref f9) = true) {Pc : Addr} {Rb N6 : Option Addr} {Rc : Array (Option Value)} {Rf N7 N8 N9 LC Oa : Value} (Vh : PySem.W.nsIn K mainGlobals "_law_due" = some (some (.ref Pc))) (Vi : K.lookup Pc = some ⟨Rf, Rb, .func (PySem.W.fnOf "_law_due" "_law_due" (aR aQ) (aO aQ) (aa aQ) .none N7 N8 N9 N6 LC Oa), Rc⟩) (Vj : PySem.W.codeIn K LC "_law_due" = true) (Vk : PySem.W.keepIn K (.ref Pc) = true) {Pd : Addr} {Rg Ob : Option Addr} {Rh : Array (Option Value)} {Ri Oc Od Oe LD Of : Value} (Vl : PySem.W.nsIn K mainGlobals "_law_items" = some (some (.ref Pd))) (Vm : K.lookup Pd = some ⟨Ri, Rg, .func (PySem.W.fnOf "_law_items" "_law_items" (aR aM) (aO aM) (aa aM) .none Oc Od Oe Ob LD Of), Rh⟩) (Vn : PySem.W.codeIn K LD "_law_items" = true) (Vo : PySem.W.keepIn K (.ref Pd) = true) {Ic : Addr} {Rj Og : Option Addr} {Rk : Array (Option Value)} {Rl Oh Oi Oj LF Ol : Value} (Vp : PySem.W.nsIn K mainGlobals "_law_row" = some (some (.ref Ic))) (Vq : K.lookup Ic = some ⟨Rl, Rj, .func (PySem.W.fnOf "_law_row" "_law_row" (aR bh) (aO bh) (aa bh) .none Oh Oi Oj Og LF Ol), Rk⟩) (c12 : PySem.W.codeIn K LF "_law_row" = true) (Vr : PySem.W.keepIn K (.ref Ic) = true) {Pe : Addr} {Rm Om : Option Addr} {Rn : Array (Option Value)} {Ro Oo Oq Ot LG Ou : Value} (Vs : PySem.W.nsIn K mainGlobals "_law_mixed" = some (some (.ref Pe))) (Vt : K.lookup Pe = some ⟨Ro, Rm, .func (PySem.W.fnOf "_law_mixed" "_law_mixed" (aR aN) (aO aN) (aa aN) .none Oo Oq Ot Om LG Ou), Rn⟩) (Vu : PySem.W.codeIn K LG "_law_mixed" = true) (Vv : PySem.W.keepIn K (.ref Pe) = true) {Pf : Addr} {Rp Ov : Option Addr} {Rq : Array (Option Value)} {Rt Ow Ox Oz LH OA : Value} (Vw : PySem.W.nsIn K mainGlobals "law" = some (some (.ref Pf))) (Vx : K.lookup Pf = some ⟨Rt, Rp, .func (PySem.W.fnOf "law" "law" (aR b8) (aO b8) (aa b8) .none Ow Ox Oz Ov LH OA), Rq⟩) (Vy : PySem.W.codeIn K LH "law" = true) (Vz : PySem.W.keepIn K (.ref Pf) = true) (z0 : PySem.W.nsIn K mainGlobals "all" = some none) (z1 : PySem.W.nsIn K mainGlobals "bool" = some none) (z2 : PySem.W.nsIn K mainGlobals "enumerate" = some none) (z3 : PySem.W.nsIn K mainGlobals "isinstance" = some none) (z4 : PySem.W.nsIn K mainGlobals "len" = some none) (z5 : PySem.W.nsIn K mainGlobals "list" = some none) (z6 : PySem.W.nsIn K mainGlobals "max" = some none) (z7 : PySem.W.nsIn K mainGlobals "min" = some none) (z8 : PySem.W.nsIn K mainGlobals "range" = some none) (z9 : PySem.W.nsIn K mainGlobals "reversed" = some none) (VA : PySem.W.nsIn K mainGlobals "sum" = some none) (VB : PySem.W.nsIn K mainGlobals "tuple" = some none) (VC : PySem.W.nsIn K mainGlobals "zip" = some none) : ∃ t, Txt K mg t ∧ ∃ kV dc pm an cd ct, (t.d 14) = PySem.W.fnOf "law" "law" (aR b8) (aO b8) (aa b8) .none kV dc pm an cd ct := by
  have F0 := gk (st := fB) l0 c0 k0
  have F1 := gk (st := aG) l1 c1 k1
  have F2 := gk (st := aH) l2 c2 k2
  have F3 := gk (st := bK) l3 c3 k3
  have F4 := gk (st := bF) l4 c4 k4
  have F5 := gk (st := cL) l5 c5 k5
  have F6 := gk (st := bC) l6 c6 k6
  have F7 := gk (st := bz) l7 c7 k7
  have F8 := gk (st := aS) l8 c8 k8
  have F9 := gk (st := bq) l9 c9 k9
  have Th := gk (st := aQ) Vi Vj Vk
  have Ti := gk (st := aM) Vm Vn Vo
  have Tj := gk (st := bh) Vq c12 Vr
  have Tn := gk (st := aN) Vt Vu Vv
  have To := gk (st := b8) Vx Vy Vz
  exact ⟨⟨fun i => [f0, f1, f2, f3, f4, f5, f6, f7, f8, f9, Pc, Pd, Ic, Pe, Pf].getD i f0, fun i => [PySem.W.fnOf "lets" "lets" (aR fB) (aO fB) (aa fB) .none QX QY QZ QV Pb Q0, PySem.W.fnOf "row_chosen" "row_chosen" (aR aG) (aO aG) (aa aG) .none Si Sj Sk Sh Q2 Sl, PySem.W.fnOf "next_layer" "next_layer" (aR aH) (aO aH) (aa aH) .none Sn So Sq Sm Q3 Ss, PySem.W.fnOf "no_counts" "no_counts" (aR bK) (aO bK) (aa bK) .none Sv Sw Sx Su Q4 Sy, PySem.W.fnOf "may_take" "may_take" (aR bF) (aO bF) (aa bF) .none SA SD SE Sz Q5 SG, PySem.W.fnOf "taken" "taken" (aR cL) (aO cL) (aa cL) .none SI SJ SK SH Q6 SM, PySem.W.fnOf "is_enough" "is_enough" (aR bC) (aO bC) (aa bC) .none SO SQ SR SN Q7 SS, PySem.W.fnOf "row_back" "row_back" (aR bz) (aO bz) (aa bz) .none SW SX SY SV Q8 S0, PySem.W.fnOf "_law_draws" "_law_draws" (aR aS) (aO aS) (aa aS) .none S6 S7 S8 S5 Q9 S9, PySem.W.fnOf "_law_name" "_law_name" (aR bq) (aO bq) (aa bq) .none Td Te Tf Tc Ra Tg, PySem.W.fnOf "_law_due" "_law_due" (aR aQ) (aO aQ) (aa aQ) .none N7 N8 N9 N6 LC Oa, PySem.W.fnOf "_law_items" "_law_items" (aR aM) (aO aM) (aa aM) .none Oc Od Oe Ob LD Of, PySem.W.fnOf "_law_row" "_law_row" (aR bh) (aO bh) (aa bh) .none Oh Oi Oj Og LF Ol, PySem.W.fnOf "_law_mixed" "_law_mixed" (aR aN) (aO aN) (aa aN) .none Oo Oq Ot Om LG Ou, PySem.W.fnOf "law" "law" (aR b8) (aO b8) (aa b8) .none Ow Ox Oz Ov LH OA].getD i (PySem.W.fnOf "lets" "lets" (aR fB) (aO fB) (aa fB) .none QX QY QZ QV Pb Q0), fun i => [].getD i 0⟩, ⟨F0, F0.binds (fun _ _ _ _ _ _ => An fun _ _ => rfl), PySem.W.mg_of X G a0, F1, F1.binds (fun _ _ _ _ _ _ => An fun _ _ => rfl), PySem.W.mg_of X G a1, F2, F2.binds (fun _ _ _ _ _ _ => IV fun _ _ _ => rfl), PySem.W.mg_of X G a2, F3, F3.binds (fun _ _ _ _ _ _ => LA fun _ => rfl), PySem.W.mg_of X G a3, F4, F4.binds (fun _ _ _ _ _ _ => IV fun _ _ _ => rfl), PySem.W.mg_of X G a4, F5, F5.binds (fun _ _ _ _ _ _ => IV fun _ _ _ => rfl), PySem.W.mg_of X G a5, F6, F6.binds (fun _ _ _ _ _ _ => An fun _ _ => rfl), PySem.W.mg_of X G a6, F7, F7.binds (fun _ _ _ _ _ _ => IV fun _ _ _ => rfl), PySem.W.mg_of X G a7, F8, F8.binds (fun _ _ _ _ _ _ => An fun _ _ => rfl), PySem.W.mg_of X G a8, F9, F9.binds (fun _ _ _ _ _ _ => LA fun _ => rfl), PySem.W.mg_of X G a9, Th, Th.binds (fun _ _ _ _ _ _ => An fun _ _ => rfl), PySem.W.mg_of X G Vh, Ti, Ti.binds (fun _ _ _ _ _ _ => An fun _ _ => rfl), PySem.W.mg_of X G Vl, Tj, Tj.binds (fun _ _ _ _ _ _ => An fun _ _ => rfl), PySem.W.mg_of X G Vp, Tn, Tn.binds (fun _ _ _ _ _ _ => An fun _ _ => rfl), PySem.W.mg_of X G Vs, To, To.binds (fun _ _ _ _ _ _ => LA fun _ => rfl), PySem.W.mg_of X G Vw, PySem.W.mg_none_of X G z0, PySem.W.mg_none_of X G z1, PySem.W.mg_none_of X G z2, PySem.W.mg_none_of X G z3, PySem.W.mg_none_of X G z4, PySem.W.mg_none_of X G z5, PySem.W.mg_none_of X G z6, PySem.W.mg_none_of X G z7, PySem.W.mg_none_of X G z8, PySem.W.mg_none_of X G z9, PySem.W.mg_none_of X G VA, PySem.W.mg_none_of X G VB, PySem.W.mg_none_of X G VC⟩, _, _, _, _, _, _, rfl⟩
section
variable {P : Program} {w : World} {K : PySem.W.Frag} {mg : Str → Option Value} {base : Heap} {t : QU}
theorem LI (T : Txt K mg t) : ck P w K mg base (fV P w) 6 (t.f 14) (t.d 14) ["_law_script"] (b7 K mg 1 CG) := by
  have nK := yy (P := P) (w := w) (base := base) T
  have yD := Gz (P := P) (w := w) (base := base) T
  have gR := yz (P := P) (w := w) (base := base) T
  have pO := Ak (P := P) (w := w) (base := base) T
  have mz := vM (P := P) (w := w) (base := base) T
  have ja := yC (P := P) (w := w) (base := base) T
  have pP := Al (P := P) (w := w) (base := base) T
  have mC := vN (P := P) (w := w) (base := base) T
  have mD := vO (P := P) (w := w) (base := base) T
  have mE := vP (P := P) (w := w) (base := base) T
  have pN := Am (P := P) (w := w) (base := base) T gR
  have mq := vQ (P := P) (w := w) (base := base) T pN yD
  have mw := vR (P := P) (w := w) (base := base) T mq nK gR pO
  have BI := IU (P := P) (w := w) (base := base) T mw
  have OB := Lz (P := P) (w := w) (base := base) T BI mz ja pP mC mD mE
  exact OB
end
end K21
end
section
open PySem PySem.Spec L2 L3
local macro_rules
 | `(tactic| simp! [$a,*]) => `(tactic| simp [br, bJ, rY, Jv, Jw, Jx, Jy, rZ, zx, zy, NF, cC, dU, NG, xP, Jz, NH, iD, kM, NI, jW, Cj, fy, NJ, NK, aI, nu, Ft, cQ, rB, qh, iP, jh, jo, Ck, xQ, zz, Cm, Fv, Cn, Fw, Co, zA, JA, nU, jH, nV, kN, NN, tw, zB, zC, jI, JB, jJ, NO, Fx, xR, xS, xT, Ba, Bb, Cp, zD, zE, JH, qj, Fy, ud, JD, JE, JF, JG, FN, FO, FP, FQ, FT, Bf, FW, uh, Ct, Cu, zM, Cv, Cs, Gm, JM, Gn, Gp, uA, x6, zR, zS, x8, CC, cS, vc, bQ, aD, iX, gX, kJ, aL, kE, m9, iO, Nh, zf, O4, Ty.is, $a,*])
local macro_rules
 | `(tactic| dsimp! [$a,*]) => `(tactic| simp [br, bJ, rY, Jv, Jw, Jx, Jy, rZ, zx, zy, NF, cC, dU, NG, xP, Jz, NH, iD, kM, NI, jW, Cj, fy, NJ, NK, aI, nu, Ft, cQ, rB, qh, iP, jh, jo, Ck, xQ, zz, Cm, Fv, Cn, Fw, Co, zA, JA, nU, jH, nV, kN, NN, tw, zB, zC, jI, JB, jJ, NO, Fx, xR, xS, xT, Ba, Bb, Cp, zD, zE, JH, qj, Fy, ud, JD, JE, JF, JG, FN, FO, FP, FQ, FT, Bf, FW, uh, Ct, Cu, zM, Cv, Cs, Gm, JM, Gn, Gp, uA, x6, zR, zS, x8, CC, cS, vc, bQ, aD, iX, gX, kJ, QN, kE, m9, iO, Nh, zf, O4, Ty.is, $a,*])
section
set_option Elab.async false
set_option linter.all false
set_option maxRecDepth 100000
set_option maxHeartbeats 1000000
namespace K21
open PySem PySem.Spec L2 L3
structure Itm where
 nm : Str
 lo : Int
 hi : Option Int
noncomputable def mX : Option Int → D
 | none => .cj
 | some h => .int h
noncomputable def bT (i : Itm) : D := .tup [.str i.nm, .int i.lo, mX i.hi]
noncomputable def bf (a b : Str) (mix : Bool) (its : List Itm) : D := .tup [.str a, .str b, .str (if mix = true then "mix" else "row"), .tup (its.map bT)]
noncomputable def cD (c : List Int) : D := .tup (c.map .int)
theorem wH {xs : List D} {k : Nat} {d : D} (h : xs[k]? = some d) : fY xs (k : Int) = some d := dH h
theorem Ao {a b c d : D} : fY [a, b, c, d] 3 = some d := dH (j := 3) rfl
theorem at2 {a b c d : D} : fY [a, b, c, d] 2 = some c := dH (j := 2) rfl
theorem vS {a b c : D} : fY [a, b, c] 1 = some b := dH (j := 1) rfl
theorem nL {a b c : D} : fY [a, b, c] 2 = some c := dH (j := 2) rfl
theorem IW {a b c : D} : fY [a, b, c] 0 = some a := dH (j := 0) rfl
theorem GB {a b : D} : fY [a, b] 0 = some a := dH (j := 0) rfl
theorem GC {a b : D} : fY [a, b] 1 = some b := dH (j := 1) rfl
theorem BJ (i : Itm) : (bT i).closed = true := by
 unfold bT mX
 cases i.hi <;> simp [pD, cu, cY, bB, eE, lM]
theorem wI (c : List Int) : (cD c).closed = true := by
 unfold cD
 rw [pD]
 exact bx fun _ => eE
theorem yE (a b : Str) (mix : Bool) (its : List Itm) (hl : its.length ≤ 100) (G : DH) : gG [bf a b mix its] G = .ok (cD (its.map fun _ => 0)) G := by
 unfold gG
 refine iZ ?_ (wI _)
 have c1 := iE (τ := [some (bf a b mix its)]) (G := G) (gO := oN) (ks := []) (te := eC (.int 0)) (own := fun x => [x]) (f := fun _ => .int 0) (its.map bT) [] (by simp; omega) (fun x _ => rfl) (fun x hx acc => rfl)
 have hz : its.length ≤ sizeLine := lz (by omega)
 have hcl : aU (its.map fun _ => D.int 0) = true := bx fun _ => eE
 rw [List.nil_append, List.map_map] at c1
 replace c1 : dI oN [] p9 (eC (.int 0)) G.length (its.map bT) [some (bf a b mix its)] (G ++ [.lst []]) = .ok (.obj G.length) (G ++ [.lst (its.map fun _ => D.int 0)]) := c1
 unfold j0
 unfold bf at c1 ⊢
 simp! [Ao, c1, cX, ji hcl, ko, hz, cD]
noncomputable def bP : List Itm → List Int → Bool
 | i :: r, x :: c => decide (i.lo ≤ x) && bP r c
 | _, _ => true
theorem uO : ∀ (its : List Itm) (c : List Int), ∃ bs : List Bool, (List.zipWith (fun x y => D.tup [x, y]) (its.map bT) (c.map D.int)).map (fun d => match d with | .tup [.tup [_, .int l, _], .int y] => D.bl (decide (l ≤ y)) | _ => .cj) = bs.map .bl ∧ bs.all id = bP its c ∧ bs.length ≤ its.length
 | [], c => ⟨[], by simp, by simp [bP], by simp⟩
 | i :: r, [] => ⟨[], by simp, by simp [bP], by simp⟩
 | i :: r, x :: c => by
  obtain ⟨bs, h1, h2, h3⟩ := uO r c
  refine ⟨decide (i.lo ≤ x) :: bs, ?_, ?_, ?_⟩
  ·simp only [List.map_cons, List.zipWith_cons_cons, h1]
   unfold bT
   rfl
  ·simp [bP, h2]
  ·simp; omega
theorem wJ : ∀ bs : List Bool, rS (bs.map D.bl) = some bs
 | [] => rfl
 | b :: r => by simp [rS, wJ r]
theorem wK (its : List Itm) (c : List Int) (hl : its.length ≤ 100) (G : DH) : fC [.tup (its.map bT), cD c] G = .ok (.bl (bP its c)) G := by
 unfold fC
 refine iZ ?_ gF
 obtain ⟨bs, h1, h2, h3⟩ := uO its c
 have c1 := iE (τ := [some (D.tup (its.map bT)), some (cD c)]) (G := G) (gO := oT 2) (ks := []) (te := ay L5 (ah 1) (ay bQ (ah 0) (eC (.int 1)))) (own := fun d => match d with | .tup xs => xs | _ => []) (f := fun d => match d with | .tup [.tup [_, .int l, _], .int y] => D.bl (decide (l ≤ y)) | _ => .cj) (List.zipWith (fun x y => D.tup [x, y]) (its.map bT) (c.map D.int)) [] (by simp; omega) (fun x hx => by
   obtain ⟨i, hi, e⟩ := List.getElem_of_mem hx
   simp only [List.getElem_zipWith] at e
   rw [← e]; rfl) (fun x hx acc => by
   obtain ⟨i, hi, e⟩ := List.getElem_of_mem hx
   simp only [List.getElem_zipWith, List.getElem_map] at e
   rw [← e]
   unfold bT
   simp! [vS, mask])
 have hcl : aU (bs.map D.bl) = true := bx fun _ => gF
 rw [List.nil_append, h1] at c1
 unfold j3
 unfold cD at c1 ⊢
 have c2 := DY (n := G.length) (τ := [some (D.tup (its.map bT)), some (D.tup (c.map .int))]) (G := G ++ [.lst []]) (gO := oT 2) (ks := []) (tt := p9) (te := ay L5 (ah 1) (ay bQ (ah 0) (eC (.int 1)))) (xs := its.map bT) (ys := c.map .int)
 rw [c1] at c2
 simp only [List.length_map] at c2
 simp! [c2, cX, ji hcl, E0, wJ, h2]
end K21
end
section
set_option Elab.async false
set_option linter.all false
set_option maxRecDepth 100000
set_option maxHeartbeats 1000000
namespace K21
open PySem PySem.Spec L2 L3
theorem uP (xs : List D) (k : Nat) (h : k < xs.length) (hz : xs.length ≤ 1000) (G : DH) : Az (.tup xs) none (some (k : Int)) G = .ok (.tup (xs.take k)) G := by
 simp only [Az, aD]
 have hs : HT.gC xs.length xs.length (some (k : Int)) = k := by
  rw [HT.pV]; omega
 rw [if_neg (by rw [hs]; omega), kE]
 have vh : cutD xs none (some (k : Int)) = xs.take k := by
  unfold cutD
  rw [hs, HT.mZ]; simp
 rw [vh, if_pos (lz (by simp; omega))]
theorem Aq (xs : List D) (k : Nat) (h : k < xs.length) (hz : xs.length ≤ 1000) (G : DH) : Az (.tup xs) (some ((k : Int) + 1)) none G = .ok (.tup (xs.drop (k + 1))) G := by
 simp only [Az, aD]
 have hs : HT.gC xs.length 0 (some ((k : Int) + 1)) = k + 1 := by
  rw [show ((k : Int) + 1) = ((k + 1 : Nat) : Int) by omega, HT.pV]; omega
 rw [if_neg (by rw [hs]; omega), kE]
 have vh : cutD xs (some ((k : Int) + 1)) none = xs.drop (k + 1) := by
  unfold cutD
  rw [hs, HT.mZ]
  rw [List.take_of_length_le (by rw [List.length_drop]; omega)]
 rw [vh, if_pos (lz (by simp; omega))]
theorem IX (xs ys : List D) (hz : (xs ++ ys).length ≤ 1000) (G : DH) : aL (.tup xs) (.tup ys) G = .ok (.tup (xs ++ ys)) G := by
 cases xs with
 | nil => rfl
 | cons x r =>
  show kE (x :: r ++ ys) G = _
  rw [kE, if_pos (lz (by omega))]
theorem sH : ∀ c : List Int, intsOf (c.map D.int) = some c
 | [] => rfl
 | x :: c => by simp [intsOf, sH c]
theorem tE (mix : Bool) (G : DH) : kD false (.str (if mix = true then "mix" else "row")) (.str "mix") G = .ok (.bl mix) G := by
 cases mix
 ·rw [if_neg (by decide), sZ _ _ _ _ (by decide +kernel) (by decide +kernel)]
  congr 1
 ·rw [if_pos rfl, sZ _ _ _ _ (by decide +kernel) (by decide +kernel)]
  congr 1
noncomputable def qT (x : Int) : Option Int → Bool
 | some h => decide (x < h)
 | none => true
noncomputable def qU (mix : Bool) (its : List Itm) (c : List Int) (k : Nat) (it : Itm) (x : Int) : Bool := qT x it.hi && (mix || ((c.drop (k + 1)).sum == 0 && bP (its.take k) c))
theorem LJ (a b : Str) (mix : Bool) (its : List Itm) (c : List Int) (hl : its.length ≤ 100) (hc : c.length = its.length) (k : Nat) (it : Itm) (x : Int) (hk : its[k]? = some it) (hx : c[k]? = some x) (G : DH) :
  jN [bf a b mix its, cD c, .int k] G = .ok (.bl (qU mix its c k it x)) G := by
 have hk' : k < its.length := (List.getElem?_eq_some_iff.mp hk).1
 have a1 : fY (its.map bT) (k : Int) = some (.tup [.str it.nm, .int it.lo, mX it.hi]) := wH (by rw [List.getElem?_map, hk]; rfl)
 have a2 : fY (c.map D.int) (k : Int) = some (.int x) := wH (by rw [List.getElem?_map, hx]; rfl)
 have s1 := Aq (c.map .int) k (by simp; omega) (by simp; omega) G
 have s2 := uP (its.map bT) k (by simp; omega) (by simp; omega) G
 have e1 := wK (its.take k) c (by simp; omega) G
 rw [List.map_take] at e1
 rw [← List.map_drop] at s1
 have hsum := sH (c.drop (k + 1))
 unfold jN
 refine iZ ?_ gF
 unfold lS
 unfold cD at e1 ⊢
 unfold bf
 have hm := tE mix G
 generalize (if mix = true then ("mix" : Str) else "row") = w at hm ⊢
 generalize its.map bT = I at a1 s2 e1 ⊢
 generalize (c.drop (k + 1)).map D.int = C1 at s1 hsum
 generalize c.map D.int = C at a2 s1 e1 ⊢
 unfold qU qT
 generalize bP (its.take k) c = E at e1 ⊢
 generalize hS : (c.drop (k + 1)).sum = S
 cases hh : it.hi with
 | none =>
  rw [hh] at a1
  dsimp only [mX] at a1
  cases mix with
  | true => simp! [Ao, at2, a1, a2, nL, gn, hm]
  | false =>
   by_cases h0 : S = 0
   ·simp! [Ao, at2, a1, a2, nL, gn, hm, s1, s2, cX, r9, hsum, hS, h0, fM, e1]
   ·have h0' : (S == 0) = false := by simpa using h0
    simp! [Ao, at2, a1, a2, nL, gn, hm, s1, s2, cX, r9, hsum, hS, h0', fM, e1]
 | some h =>
  rw [hh] at a1
  dsimp only [mX] at a1
  by_cases hx : x < h
  ·have hx' : ¬ h ≤ x := by omega
   cases mix with
   | true => simp! [Ao, at2, a1, a2, nL, gn, hm, hx, hx']
   | false =>
    by_cases h0 : S = 0
    ·simp! [Ao, at2, a1, a2, nL, gn, hm, s1, s2, cX, r9, hsum, hS, h0, fM, e1, hx, hx']
    ·have h0' : (S == 0) = false := by simpa using h0
     simp! [Ao, at2, a1, a2, nL, gn, hm, s1, s2, cX, r9, hsum, hS, h0', fM, e1, hx, hx']
  ·have hx' : h ≤ x := by omega
   simp! [Ao, at2, a1, a2, nL, gn, hm, hx, hx']
noncomputable def bL (mix : Bool) (it : Itm) : Int := match it.hi with
 | some h => h
 | none => if mix = true then it.lo else if 1 > it.lo then 1 else it.lo
noncomputable def d7 (mix : Bool) (its : List Itm) (c : List Int) (k : Nat) (it : Itm) (x : Int) : List Int :=
 (if mix = true then c.take k else (its.take k).map (·.lo)) ++ [if bL mix it < x + 1 then bL mix it else x + 1] ++ c.drop (k + 1)
theorem GD (a b : Str) (mix : Bool) (its : List Itm) (c : List Int) (hl : its.length ≤ 100) (hc : c.length = its.length) (k : Nat) (it : Itm) (x : Int) (hk : its[k]? = some it) (hx : c[k]? = some x) (G : DH) :
  qp [bf a b mix its, cD c, .int k] G = .ok (cD (d7 mix its c k it x)) G := by
 have hk' : k < its.length := (List.getElem?_eq_some_iff.mp hk).1
 have a1 : fY (its.map bT) (k : Int) = some (.tup [.str it.nm, .int it.lo, mX it.hi]) := wH (by rw [List.getElem?_map, hk]; rfl)
 have a2 : fY (c.map D.int) (k : Int) = some (.int x) := wH (by rw [List.getElem?_map, hx]; rfl)
 have s1 := Aq (c.map .int) k (by simp; omega) (by simp; omega) G
 have s2 := uP (its.map bT) k (by simp; omega) (by simp; omega) G
 have s3 := uP (c.map .int) k (by simp; omega) (by simp; omega) G
 rw [← List.map_drop] at s1
 rw [← List.map_take] at s2 s3
 unfold qp
 refine iZ ?_ (wI _)
 have h1 : (1 : Nat) ≤ sizeLine := lz (by omega)
 have c1 := fun τ => iE (τ := τ) (G := G) (gO := oN) (ks := []) (te := ay bQ (ah 0) (eC (.int 1))) (own := fun x => [x]) (f := fun d => match d with | .tup [_, l, _] => l | _ => .cj) ((its.take k).map bT) [] (by simp; omega) (fun x _ => rfl) (fun y hy acc => by
  obtain ⟨i, hi, rfl⟩ := List.mem_map.mp hy
  unfold bT
  dsimp! [vS, mask])
 have e2 : ((its.take k).map bT).map (fun d => match d with | .tup [_, l, _] => l | _ => D.cj) = ((its.take k).map (·.lo)).map .int := by
  rw [List.map_map, List.map_map]
  exact List.map_congr_left fun i _ => rfl
 simp only [List.nil_append, e2] at c1
 have hcl : aU (((its.take k).map (·.lo)).map D.int) = true := bx fun _ => eE
 have hz : (((its.take k).map (·.lo)).map D.int).length ≤ sizeLine := lz (by simp; omega)
 have f1 := IX ((c.take k).map .int) [.int (if bL mix it < x + 1 then bL mix it else x + 1)] (by simp; omega) G
 have f2 := IX ((c.take k).map .int ++ [.int (if bL mix it < x + 1 then bL mix it else x + 1)]) ((c.drop (k + 1)).map .int) (by simp; omega) G
 have g1 := IX (((its.take k).map (·.lo)).map .int) [.int (if bL mix it < x + 1 then bL mix it else x + 1)] (by simp; omega) G
 have g2 := IX (((its.take k).map (·.lo)).map .int ++ [.int (if bL mix it < x + 1 then bL mix it else x + 1)]) ((c.drop (k + 1)).map .int) (by simp; omega) G
 have Ru : cD (d7 mix its c k it x) = .tup ((if mix = true then (c.take k).map D.int else ((its.take k).map (·.lo)).map D.int) ++ [.int (if bL mix it < x + 1 then bL mix it else x + 1)] ++ (c.drop (k + 1)).map D.int) := by
  unfold cD d7
  cases mix <;> simp
 rw [Ru]
 unfold tD zT
 unfold cD bf
 have hm := tE mix G
 generalize (if mix = true then ("mix" : Str) else "row") = w at hm ⊢
 generalize (its.take k).map bT = I1 at s2 c1
 generalize its.map bT = I at a1 s2 ⊢
 generalize (c.drop (k + 1)).map D.int = C1 at s1 f2 g2 ⊢
 generalize (c.take k).map D.int = C2 at s3 f1 f2 ⊢
 generalize ((its.take k).map (·.lo)).map D.int = L at c1 g1 g2 hcl hz ⊢
 generalize c.map D.int = C at a2 s1 s3 ⊢
 unfold bL at f1 f2 g1 g2 ⊢
 cases hh : it.hi with
 | none =>
  rw [hh] at a1 f1 f2 g1 g2
  dsimp only [mX] at a1 f1 f2 g1 g2 ⊢
  cases mix with
  | true =>
   simp only [if_true] at f1 f2
   dsimp! [Ao, at2, a1, a2, vS, nL, gn, hm, s1, s3, cX, h1, f1, f2]
  | false =>
   simp only [Bool.false_eq_true, if_false] at g1 g2
   dsimp! [Ao, at2, a1, a2, vS, nL, gn, hm, s1, s2, cX, h1, c1, ji hcl, ko, hz, g1, g2]
 | some h =>
  rw [hh] at a1 f1 f2 g1 g2
  dsimp only [mX] at a1 f1 f2 g1 g2 ⊢
  cases mix with
  | true => dsimp! [Ao, at2, a1, a2, vS, nL, gn, hm, s1, s3, cX, h1, f1, f2]
  | false => dsimp! [Ao, at2, a1, a2, vS, nL, gn, hm, s1, s2, cX, h1, c1, ji hcl, ko, hz, g1, g2]
end K21
end
section
set_option Elab.async false
set_option linter.all false
set_option maxRecDepth 100000
set_option maxHeartbeats 1000000
namespace K21
open PySem PySem.Spec L2 L3
noncomputable def kC (c : List Int) : List Key := c.map Sum.inl
theorem GF (c : List Int) : uw (cD c) = some (kC c) := by
 unfold cD kC
 show bR xW (c.map D.int) = _
 induction c with
 | nil => rfl
 | cons x c ih => rw [List.map_cons, bR, ih]; rfl
theorem yF (c : List Int) : D.tup ((kC c).map Bm) = cD c := by
 unfold kC cD
 rw [List.map_map]; rfl
noncomputable def fS : Option (List Int × D) → List (List Key × D)
 | none => []
 | some (c, v) => [(kC c, v)]
theorem Ar (its : List Itm) : (its.map bT).mapIdx (fun i x => D.tup [.int i, x]) = its.zipIdx.map fun p => D.tup [.int p.2, bT p.1] := by
 apply List.ext_getElem?
 intro i
 simp only [List.getElem?_mapIdx, List.getElem?_map, List.getElem?_zipIdx]
 cases its[i]? <;> simp
theorem BK (a b : Str) (mix : Bool) (its : List Itm) (nm : Str) (dl : D) (hl : its.length ≤ 100) (hs : ∀ i ∈ its, PyData.strOk i.nm = true) (hn : PyData.strOk nm = true) (G : DH) :
  eFn (nq (oT 2) [false, false, true] (lK (ai (ay bQ (ah 0) (eC (.int 3))) (aE))) (je (ay (AS false) (ay bQ (ah 1) (eC (.int 0))) (ah 4))) (ah 0)) [some (bf a b mix its), some dl, some (.con [.str nm]), none, none, none, none] G
   = .ok (.con ((its.zipIdx.filter fun p => nm == p.1.nm).map fun p => .int p.2)) G := by
 have c1 := lN (τ := [some (bf a b mix its), some dl, some (.con [.str nm]), none, none, none, none]) (G := G) (gO := oT 2) (ks := [false, false, true]) (tt := je (ay (AS false) (ay bQ (ah 1) (eC (.int 0))) (ah 4))) (te := ah 0) (own := fun p : Itm × Nat => [.int p.2, bT p.1]) (dat := fun p => D.tup [.int p.2, bT p.1]) (f := fun p => .int p.2) (c := fun p => nm == p.1.nm) its.zipIdx [] (by simp; omega) (fun p _ => rfl) (fun p hp acc => by
   have hi := uc p.1.nm [nm] (G ++ [.lst acc]) (hs _ (by
    obtain ⟨i, hi, e⟩ := List.getElem_of_mem hp
    rw [List.getElem_zipIdx] at e
    rw [← e]; exact List.getElem_mem _)) (by simp [PyData.canLayAll0, PyData.canLay0, hn])
   rw [List.map_cons, List.map_nil] at hi
   simp only [List.any_cons, List.any_nil, Bool.or_false] at hi
   unfold bT
   simp! [mask, IW, AS, hi]) (fun p hp acc => by simp! [mask])
 rw [List.nil_append, ← Ar] at c1
 have hcl : aU ((its.zipIdx.filter fun p => nm == p.1.nm).map fun p => D.int p.2) = true := bx fun _ => eE
 have c2 := Bg (n := G.length) (τ := [some (bf a b mix its), some dl, some (.con [.str nm]), none, none, none, none]) (G := G ++ [.lst []]) (gO := oT 2) (ks := [false, false, true]) (tt := je (ay (AS false) (ay bQ (ah 1) (eC (.int 0))) (ah 4))) (te := ah 0) (xs := its.map bT)
 rw [c1] at c2
 generalize ((its.zipIdx.filter fun p => nm == p.1.nm).map fun p => D.int p.2) = F at hcl c2 ⊢
 unfold bf at c2 ⊢
 generalize its.map bT = I at c2 ⊢
 generalize (if mix = true then ("mix" : Str) else "row") = w at c2 ⊢
 simp! [Ao, c2, cX, ji hcl]
noncomputable def jP (mix : Bool) (its : List Itm) (F : List (Itm × Nat)) : Option (List Int × D) → Option (List Int × D)
 | none => none
 | some (c, _) => match F with
  | [(it, k)] => match c[k]? with
   | some x => if qU mix its c k it x = true then some (d7 mix its c k it x, .tup [cD c, .int k]) else none
   | none => none
  | _ => none
theorem As (v : D) (c : List Int) (A : DH) : kQ v (.obj A.length) (cD c) (A ++ [.d8 false []]) = .ok .cj (A ++ [.d8 false [(kC c, v)]]) := by
 have h0 : (0 : Nat) < sizeLine := Nat.lt_of_lt_of_le (by omega) (lz (n := 1) (by omega))
 unfold kQ
 rw [GF]
 dsimp only
 rw [vg]
 dsimp only
 rw [if_pos (by simpa using h0), G5]
 rfl
theorem GG (a b : Str) (mix : Bool) (its : List Itm) (nm : Str) (n : Nat) (fz : Bool) (lay : Option (List Int × D)) (F : List (Itm × Nat)) (hl : its.length ≤ 100) (hs : ∀ i ∈ its, PyData.strOk i.nm = true) (hn : PyData.strOk nm = true) (G : DH)
  (hg : G[n]? = some (.d8 fz (fS lay))) (hlay : ∀ c v, lay = some (c, v) → c.length = its.length) (hfit : (its.zipIdx.filter fun p => nm == p.1.nm) = F) (hF : F = [] ∨ ∃ it k, F = [(it, k)] ∧ its[k]? = some it) :
  ia [bf a b mix its, .obj n, .con [.str nm]] G = .ok (.obj G.length) (G.set n (.d8 true (fS lay)) ++ [.d8 false (fS (jP mix its F lay))]) := by
 have hnl : n < G.length := (List.getElem?_eq_some_iff.mp hg).1
 have f0 := BK a b mix its nm (.obj n) hl hs hn G
 rw [hfit] at f0
 generalize Tp : G.set n (.d8 true (fS lay)) = G1
 have hlen : G.length = G1.length := by rw [← Tp]; simp
 have hget : (G ++ [DO.d8 false []])[n]? = some (.d8 fz (fS lay)) := jB hg
 have Rv : (G ++ [DO.d8 false []]).set n (.d8 true (fS lay)) = G1 ++ [.d8 false []] := by rw [List.set_append_left _ _ hnl, Tp]
 unfold ia
 rw [jI]
 unfold lU oO
 simp only [List.map_cons, List.map_nil, List.length_cons, List.length_nil, List.cons_append, List.nil_append, List.replicate, br, cC, f0, dU, bJ]
 simp only [br, uA, dU, bJ, List.set_cons_succ, List.set_cons_zero, nV, x8, cQ, List.getElem?_cons_succ, List.getElem?_cons_zero, fy, hget, kN, Rv, CD]
 rw [hlen]
 cases lay with
 | none =>
  simp only [fS, List.map_nil, bO, bJ, iD, cQ, List.getElem?_cons_succ, List.getElem?_cons_zero, kM, jJ, jP]
 | some cv =>
  obtain ⟨c, v⟩ := cv
  have hc := hlay c v rfl
  simp only [fS, List.map_cons, List.map_nil, yF, bO, gN, List.set_cons_succ, List.set_cons_zero, oM, jH, cQ, List.getElem?_cons_succ, List.getElem?_cons_zero, fy, kN]
  rcases hF with rfl | ⟨it, k, rfl, hk⟩
  ·simp only [List.map_nil, bO, bJ, iD, cQ, List.getElem?_cons_succ, List.getElem?_cons_zero, kM, jJ, jP, fS]
  ·have hk' : k < its.length := (List.getElem?_eq_some_iff.mp hk).1
   have hx : c[k]? = some (c[k]'(by omega)) := List.getElem?_eq_getElem (by omega)
   generalize c[k]'(by omega) = x at hx
   have m1 := LJ a b mix its c hl hc k it x hk hx (G1 ++ [.d8 false []])
   have m2 := GD a b mix its c hl hc k it x hk hx (G1 ++ [.d8 false []])
   have m3 := As (.tup [cD c, .int k]) (d7 mix its c k it x) G1
   have h2 : (2 : Nat) ≤ sizeLine := lz (by omega)
   simp only [jP, hx]
   generalize d7 mix its c k it x = c' at m2 m3 ⊢
   generalize bf a b mix its = R at m1 m2 ⊢
   cases hm : qU mix its c k it x with
   | false =>
    rw [hm] at m1
    simp! [bO, gN, kq, m1, fS]
   | true =>
    rw [hm] at m1
    simp! [bO, gN, kq, m1, m2, m3, h2, fS]
end K21
end
section
set_option Elab.async false
set_option linter.all false
set_option maxRecDepth 100000
set_option maxHeartbeats 1000000
namespace K21
open PySem PySem.Spec L2 L3
noncomputable def fits (its : List Itm) (nm : Str) : List (Itm × Nat) := its.zipIdx.filter fun p => nm == p.1.nm
noncomputable def lay0 (its : List Itm) : Option (List Int × D) := some (its.map fun _ => 0, .cj)
noncomputable def fU (mix : Bool) (its : List Itm) (names : List Str) : Option (List Int × D) := names.foldl (fun l nm => jP mix its (fits its nm) l) (lay0 its)
theorem pQ (mix : Bool) (its : List Itm) (names : List Str) (nm : Str) : fU mix its (names ++ [nm]) = jP mix its (fits its nm) (fU mix its names) := by
 unfold fU
 rw [List.foldl_append]; rfl
theorem uQ {its : List Itm} {nm : Str} {it : Itm} {k : Nat} (h : fits its nm = [(it, k)]) : its[k]? = some it := by
 have : (it, k) ∈ fits its nm := by rw [h]; simp
 unfold fits at this
 have := (List.mem_filter.mp this).1
 rw [List.mem_zipIdx_iff_getElem?] at this
 simpa using this
theorem uR {mix : Bool} {its : List Itm} {F : List (Itm × Nat)} {l : Option (List Int × D)} {c : List Int} {v : D} (h : jP mix its F l = some (c, v)) :
  ∃ c0 v0 it k x, l = some (c0, v0) ∧ F = [(it, k)] ∧ c0[k]? = some x ∧ qU mix its c0 k it x = true ∧ c = d7 mix its c0 k it x ∧ v = .tup [cD c0, .int k] := by
 cases l with
 | none => cases h
 | some cv =>
  obtain ⟨c0, v0⟩ := cv
  match F, h with
  | [], h => cases h
  | _ :: _ :: _, h => cases h
  | [(it, k)], h =>
   unfold jP at h
   dsimp only at h
   cases q : c0[k]? with
   | none => rw [q] at h; cases h
   | some x =>
    rw [q] at h
    dsimp only at h
    by_cases hm : qU mix its c0 k it x = true
    ·rw [if_pos hm] at h
     cases h
     exact ⟨c0, v0, it, k, x, rfl, rfl, q, hm, rfl, rfl⟩
    ·rw [if_neg hm] at h; cases h
theorem D0 {mix : Bool} {its : List Itm} {c : List Int} {k : Nat} {it : Itm} {x : Int} (hc : c.length = its.length) (hk : k < its.length) : (d7 mix its c k it x).length = its.length := by
 unfold d7
 cases mix <;> simp <;> omega
theorem wL (mix : Bool) (its : List Itm) : ∀ (n : Nat) (names : List Str), names.length = n → ∀ c v, fU mix its names = some (c, v) → c.length = its.length
 | 0, names, hn, c, v, h => by
  have : names = [] := List.eq_nil_of_length_eq_zero hn
  subst this
  cases h
  simp
 | n + 1, names, hn, c, v, h => by
  obtain ⟨pre, nm, rfl⟩ : ∃ pre nm, names = pre ++ [nm] := ⟨names.dropLast, names.getLast (by intro e; rw [e] at hn; simp at hn), (List.dropLast_concat_getLast _).symm⟩
  rw [pQ] at h
  obtain ⟨c0, v0, it, k, x, h1, h2, h3, h4, rfl, rfl⟩ := uR h
  have := wL mix its n pre (by simpa using hn) c0 v0 h1
  exact D0 this (List.getElem?_eq_some_iff.mp (uQ h2)).1
theorem wM (mix : Bool) (its : List Itm) (hl : its.length ≤ 100) (names : List Str) (L : List D) (A : DH) (hL : ∀ i, i ≤ names.length → ∃ p fz, L[i]? = some (.obj p) ∧ p < A.length ∧ A[p]? = some (.d8 fz (fS (fU mix its (names.take i))))) :
  ∀ (i : Nat), i ≤ names.length → i ≤ 1000 → ∀ (c : List Int) (v dl y1 y2 : D) (o1 o2 : Option D) (w : List Str) (B : DH), w.length + i ≤ 1000 → fU mix its (names.take i) = some (c, v) →
   ∃ (τ' : DS) (w' : List Str), w'.length ≤ 1000 ∧ bO (gN 4) i0 (((L.drop 1).take i).reverse) [some (.tup (its.map bT)), some y1, some (cD c), some (.obj A.length), o1, o2] (A ++ .lst (w.map .str) :: B) = .nx τ' (A ++ .lst (w'.map .str) :: B) ∧ τ'[3]? = some (some (.obj A.length))
 | 0, hi, hi', c, v, dl, y1, y2, o1, o2, w, B, hw, h => ⟨[some (.tup (its.map bT)), some y1, some (cD c), some (.obj A.length), o1, o2], w, by omega, by simp [bO], rfl⟩
 | i + 1, hi, hi', c, v, dl, y1, y2, o1, o2, w, B, hw, h => by
  obtain ⟨p, fz, hp, hpl, hA⟩ := hL (i + 1) hi
  rw [h] at hA
  have hlt : i < names.length := by omega
  rw [List.take_succ_eq_append_getElem hlt, pQ] at h
  obtain ⟨c0, v0, it, k, x, h1, h2, h3, h4, rfl, rfl⟩ := uR h
  have hk := uQ h2
  have VD : i + 1 < L.length := (List.getElem?_eq_some_iff.mp hp).1
  have JO : (L.drop 1)[i]? = some (.obj p) := by rw [List.getElem?_drop, Nat.add_comm]; exact hp
  have e1 : ((L.drop 1).take (i + 1)).reverse = .obj p :: ((L.drop 1).take i).reverse := by
   have hil : i < (L.drop 1).length := by simp; omega
   rw [List.take_succ_eq_append_getElem hil, List.reverse_append]
   rw [List.getElem?_eq_getElem hil] at JO
   rw [Option.some.inj JO]; rfl
  obtain ⟨τ', w', Tq, ih, ih3⟩ := wM mix its hl names L A hL i (by omega) (by omega) c0 v0 dl y1 y2 (some (.obj p)) (some (.tup [cD c0, .int k])) (w ++ [it.nm]) B (by simp; omega) h1
  refine ⟨τ', w', Tq, ?_, ih3⟩
  rw [e1, bO]
  have a1 : fY (its.map bT) (k : Int) = some (.tup [.str it.nm, .int it.lo, mX it.hi]) := wH (by rw [List.getElem?_map, hk]; rfl)
  have VE : (A ++ .lst (w.map D.str) :: B)[p]? = some (.d8 fz (fS (some (d7 mix its c0 k it x, .tup [cD c0, .int k])))) := jB hA
  have hz : w.length < sizeLine := Nat.lt_of_lt_of_le (by omega) (lz (n := 1001) (by omega))
  have hv : vj (fS (some (d7 mix its c0 k it x, D.tup [cD c0, .int k]))) (kC (d7 mix its c0 k it x)) = some (.tup [cD c0, .int k]) := by simp [fS, vj]
  have hd : Ge (.obj p) (cD (d7 mix its c0 k it x)) (A ++ .lst (w.map D.str) :: B) = .ok (.tup [cD c0, .int k]) (A ++ .lst (w.map D.str) :: B) := by
   unfold Ge
   rw [GF]
   dsimp only
   rw [VE]
   dsimp only
   rw [hv]
  simp only [List.map_append, List.map_cons, List.map_nil] at ih
  generalize its.map bT = I at a1 ih ⊢
  generalize d7 mix its c0 k it x = c1 at hd ⊢
  generalize cD c1 = C1 at hd ⊢
  generalize cD c0 = C0 at hd ih ⊢
  have step : i0 [some (.tup I), some y1, some C1, some (.obj A.length), some (.obj p), o2] (A ++ .lst (w.map D.str) :: B) = .nx [some (.tup I), some y1, some C0, some (.obj A.length), some (.obj p), some (.tup [C0, .int k])] (A ++ .lst (w.map D.str ++ [.str it.nm]) :: B) := by
   unfold i0
   simp only [br, cC, xP, x6, cQ, List.getElem?_cons_succ, List.getElem?_cons_zero, fy, aI, hd, dU, bJ]
   simp! [vg, G5, hz, a1, IW, GB, GC]
  simp only [gN, List.set_cons_succ, List.set_cons_zero, step]
  exact ih
theorem back_eq (mix : Bool) (its : List Itm) (hl : its.length ≤ 100) (names : List Str) (hn : names.length ≤ 900) (L : List D) (A : DH) (q : Nat) (hq : A[q]? = some (.lst L)) (VD : L.length = names.length + 1) (hL : ∀ i, i ≤ names.length → ∃ p fz, L[i]? = some (.obj p) ∧ p < A.length ∧ A[p]? = some (.d8 fz (fS (fU mix its (names.take i)))))
  (c : List Int) (v : D) (h : fU mix its names = some (c, v)) : ∃ l, jM [.tup (its.map bT), .obj q, cD c] A = .ok (.con l) A ∧ aU l = true := by
 have vh : cutD L (some 1) none = L.drop 1 := by
  unfold cutD
  rw [show (some (1 : Int)) = some ((1 : Nat) : Int) from rfl, HT.pV, HT.mZ]
  rw [show min 1 L.length = 1 by omega, List.take_of_length_le (by rw [List.length_drop]; omega)]
 have hz : (L.drop 1).length ≤ sizeLine := lz (by simp; omega)
 have h0 : (0 : Nat) ≤ sizeLine := Nat.zero_le _
 obtain ⟨τ', w', Tq, e1, e3⟩ := wM mix its hl names L A hL names.length (Nat.le_refl _) (by omega) c v .cj (.obj q) .cj none none [] [.dead] (by simp; omega) (by rw [List.take_length]; exact h)
 rw [List.take_of_length_le (by simp; omega)] at e1
 have hq1 : (A ++ [DO.lst []])[q]? = some (.lst L) := jB hq
 have hz' : w'.length ≤ sizeLine := lz (by omega)
 have hcl : aU ((w'.map D.str).reverse) = true := by rw [← List.map_reverse]; exact bx fun _ => bB
 refine ⟨(w'.map .str).reverse, ?_, hcl⟩
 unfold jM
 refine jY (R := [.lst (w'.map .str), .dead]) ?_ (by rw [jL]; exact hcl)
 rw [jI]
 unfold lO
 have hz0 : ([] : List D).length ≤ sizeLine := Nat.zero_le _
 generalize hD : L.drop 1 = M at e1 hz vh
 generalize its.map bT = I at e1 ⊢
 generalize cD c = C at e1 ⊢
 have er := Iv (g := gN 4) (body := i0) (xs := M) (τ := [some (D.tup I), some (.obj q), some C, some (.obj A.length), none, none]) (G := A ++ [.lst [], .dead])
 rw [List.map_nil] at e1
 rw [e1] at er
 have es : Az (.obj q) (some 1) none (A ++ [DO.lst []]) = .ok (.obj (A.length + 1)) (A ++ [.lst [], .lst M]) := by
  simp only [Az, aD, hq1, vh, bU, if_pos hz]
  simp
 have ez : (Out.ok (.obj (A.length + 1)) (A ++ [DO.lst [], .lst M])).fz = .ok (.con M) (A ++ [.lst [], .dead]) := FU
 simp only [List.map_cons, List.map_nil, List.length_cons, List.length_nil, List.cons_append, List.nil_append, List.replicate, br, cC, iP, jh, fy, bU, if_pos hz0, dU, bJ, List.set_cons_succ, List.set_cons_zero]
 simp only [if_pos h0, dU, bJ, List.set_cons_succ, List.set_cons_zero, br, nV, Bf, jo, Cs, Fx, cQ, List.getElem?_cons_succ, List.getElem?_cons_zero, fy, aI, xS, rB, xT, xR, nu, es, ez, jh, kN, aD, er, bJ]
 simp only [iD, cX, iP, jo, cQ, e3, fy, aI, jh, nu, zp, aD, vg, bU]
 rw [if_pos (by simpa using hz')]
 rw [ji hcl, kM, jJ]
structure yG (mix : Bool) (its : List Itm) (G : DH) (names : List Str) (H : DH) (L : List D) : Prop where
 pre : H.take G.length = G
 lt : G.length + 1 < H.length
 lst : H[G.length + 1]? = some (.lst L)
 len : L.length = names.length + 1
 lay : ∀ i, i ≤ names.length → ∃ p fz, L[i]? = some (.obj p) ∧ p ≠ G.length + 1 ∧ G.length ≤ p ∧ H[p]? = some (.d8 fz (fS (fU mix its (names.take i))))
theorem GH {α : Type} (xs : List α) (x : α) : fY (xs ++ [x]) (-1) = some x := by
 have h : Hx (xs ++ [x]).length (-1) = some xs.length := by
  unfold Hx
  simp
  omega
 unfold fY
 rw [h]
 simp
theorem CL {xs : List D} {d : D} (h : xs[xs.length - 1]? = some d) : fY xs (-1) = some d := by
 obtain ⟨hl, e⟩ := List.getElem?_eq_some_iff.mp h
 have hne : xs ≠ [] := by rintro rfl; simp at hl
 have e2 : xs = xs.dropLast ++ [d] := by
  rw [← e, ← List.getLast_eq_getElem hne]
  exact (List.dropLast_concat_getLast hne).symm
 rw [e2]; exact GH _ _
theorem grow (a b : Str) (mix : Bool) (its : List Itm) (hl : its.length ≤ 100) (hs : ∀ i ∈ its, PyData.strOk i.nm = true) (hfit : ∀ nm, fits its nm = [] ∨ ∃ it k, fits its nm = [(it, k)]) (G : DH) (y1 y2 : D) :
  ∀ (rest names : List Str) (H : DH) (L : List D) (o4 o5 : Option D), names.length + rest.length ≤ 900 → (∀ nm ∈ rest, PyData.strOk nm = true) → yG mix its G names H L →
   ∃ (tF : Option D) (H' : DH) (L' : List D), yG mix its G (names ++ rest) H' L' ∧ bO (gN 4) iS (rest.map fun nm => .con [.str nm]) [some (bf a b mix its), some y1, some y2, some (.obj (G.length + 1)), o4, o5] H = .nx [some (bf a b mix its), some y1, some y2, some (.obj (G.length + 1)), tF, o5] H'
 | [], names, H, L, o4, o5, hn, hr, I => ⟨o4, H, L, by simpa using I, by simp [bO]⟩
 | nm :: rest, names, H, L, o4, o5, hn, hr, I => by
  obtain ⟨p, fz, h1, h2, h3, h4⟩ := I.lay names.length (Nat.le_refl _)
  rw [List.take_length] at h4
  have hF : fits its nm = [] ∨ ∃ it k, fits its nm = [(it, k)] ∧ its[k]? = some it := by
   rcases hfit nm with h | ⟨it, k, h⟩
   ·exact .inl h
   ·exact .inr ⟨it, k, h, uQ h⟩
  have e1 := GG a b mix its nm p fz (fU mix its names) (fits its nm) hl hs (hr nm (by simp)) H h4 (fun c v h => wL mix its _ names rfl c v h) rfl hF
  rw [← pQ] at e1
  have hpl : p < H.length := (List.getElem?_eq_some_iff.mp h4).1
  have hend : fY L (-1) = some (.obj p) := CL (by rw [I.len]; exact h1)
  have hlt := I.lt
  generalize OC : H.set p (.d8 true (fS (fU mix its names))) ++ [.d8 false (fS (fU mix its (names ++ [nm])))] = H1 at e1
  have hl1 : H1.length = H.length + 1 := by rw [← OC]; simp
  have g1 : H1[G.length + 1]? = some (.lst L) := by
   rw [← OC, List.getElem?_append_left (by simp; omega), List.getElem?_set_ne h2]; exact I.lst
  have hz : L.length < sizeLine := Nat.lt_of_lt_of_le (by rw [I.len]; simp at hn; omega) (lz (n := 1001) (by omega))
  have I2 : yG mix its G (names ++ [nm]) (H1.set (G.length + 1) (.lst (L ++ [.obj H.length]))) (L ++ [.obj H.length]) := by
   have keep : ∀ q : Nat, q < H.length → q ≠ G.length + 1 → q ≠ p → (H1.set (G.length + 1) (.lst (L ++ [.obj H.length])))[q]? = H[q]? := by
    intro q hq hq1 hq2
    rw [List.getElem?_set_ne (by omega), ← OC, List.getElem?_append_left (by simp; omega), List.getElem?_set_ne (by omega)]
   refine ⟨?_, by simp; omega, ?_, by simp [I.len], fun i hi => ?_⟩
   ·apply List.ext_getElem?
    intro q
    by_cases hq : q < G.length
    ·have := I.pre
     rw [List.getElem?_take, if_pos hq]
     have e : G[q]? = H[q]? := by
      conv => lhs; rw [← I.pre]
      rw [List.getElem?_take, if_pos hq]
     rw [e, keep q (by omega) (by omega) (by omega)]
    ·rw [List.getElem?_eq_none (by simp; omega), List.getElem?_eq_none (by omega)]
   ·rw [List.getElem?_set, if_pos rfl, if_pos (by omega)]
   ·by_cases hi' : i ≤ names.length
    ·obtain ⟨q, f, k1, k2, k3, k4⟩ := I.lay i hi'
     have Mi : q < H.length := (List.getElem?_eq_some_iff.mp k4).1
     rw [List.take_append_of_le_length hi']
     have kL : (L ++ [D.obj H.length])[i]? = some (.obj q) := by rw [List.getElem?_append_left (by rw [I.len]; omega)]; exact k1
     by_cases OD : q = p
     ·subst OD
      rw [h4] at k4
      have e2 : fS (fU mix its (names.take i)) = fS (fU mix its names) := by
       have := Option.some.inj k4
       injection this with _ e3
       exact e3.symm
      refine ⟨q, true, kL, k2, k3, ?_⟩
      rw [e2, List.getElem?_set_ne (by omega), ← OC, List.getElem?_append_left (by simp; omega), List.getElem?_set, if_pos rfl, if_pos Mi]
     ·exact ⟨q, f, kL, k2, k3, by rw [keep q Mi k2 OD]; exact k4⟩
    ·have hi2 : i = names.length + 1 := by simp at hi; omega
     subst hi2
     refine ⟨H.length, false, ?_, by omega, by omega, ?_⟩
     ·rw [← I.len, List.getElem?_append_right (Nat.le_refl _)]; simp
     ·rw [List.take_of_length_le (by simp), List.getElem?_set_ne (by omega), ← OC]
      rw [List.getElem?_append_right (by simp)]
      simp
  obtain ⟨tF, H', L', I', ih⟩ := grow a b mix its hl hs hfit G y1 y2 rest (names ++ [nm]) _ _ (some (.con [.str nm])) o5 (by simp at hn ⊢; omega) (fun z hz => hr z (by simp [hz])) I2
  refine ⟨tF, H', L', by simpa using I', ?_⟩
  have step : iS [some (bf a b mix its), some y1, some y2, some (.obj (G.length + 1)), some (.con [.str nm]), o5] H = .nx [some (bf a b mix its), some y1, some y2, some (.obj (G.length + 1)), some (.con [.str nm]), o5] (H1.set (G.length + 1) (.lst (L ++ [.obj H.length]))) := by
   have gl := I.lst
   generalize bf a b mix its = R at e1 ⊢
   generalize G.length + 1 = q at g1 gl ⊢
   unfold iS
   simp! [gl, hend, e1, g1, hz]
  rw [List.map_cons, bO]
  simp only [gN, List.set_cons_succ, List.set_cons_zero, step]
  exact ih
end K21
end
section
set_option Elab.async false
set_option linter.all false
set_option maxRecDepth 100000
set_option maxHeartbeats 1000000
namespace K21
open PySem PySem.Spec L2 L3
noncomputable def accept (mix : Bool) (its : List Itm) (names : List Str) : Bool := match fU mix its names with
 | some (c, _) => bP its c
 | none => false
theorem D3 (a b : Str) (mix : Bool) (its : List Itm) (hl : its.length ≤ 100) (hs : ∀ i ∈ its, PyData.strOk i.nm = true) (hfit : ∀ nm, fits its nm = [] ∨ ∃ it k, fits its nm = [(it, k)]) (names : List Str) (hn : names.length ≤ 900) (hns : ∀ nm ∈ names, PyData.strOk nm = true) (G : DH) :
  ∃ r, fQ [bf a b mix its, .con (names.map fun nm => .con [.str nm])] G = .ok r G ∧ ((accept mix its names = true ∧ ∃ l, r = .con l) ∨ (accept mix its names = false ∧ r = .cj)) := by
 have I0 : yG mix its G [] (G ++ [.d8 false (fS (lay0 its)), .lst [.obj G.length]]) [.obj G.length] := by
  refine ⟨by simp, by simp, ?_, rfl, fun i hi => ?_⟩
  ·rw [List.getElem?_append_right (by omega)]; simp
  ·have : i = 0 := by simpa using hi
   subst this
   refine ⟨G.length, false, rfl, by omega, Nat.le_refl _, ?_⟩
   rw [vg]; rfl
 obtain ⟨tF, H, L, I, e1⟩ := grow a b mix its hl hs hfit G (.con (names.map fun nm => .con [.str nm])) (.tup (its.map bT)) names [] _ _ none none (by simpa using hn) hns I0
 rw [List.nil_append] at I
 obtain ⟨p, fz, h1, h2, h3, h4⟩ := I.lay names.length (Nat.le_refl _)
 rw [List.take_length] at h4
 have hpl : p < H.length := (List.getElem?_eq_some_iff.mp h4).1
 have hend : fY L (-1) = some (.obj p) := CL (by rw [I.len]; exact h1)
 have nc := yE a b mix its hl (G ++ [.d8 false []])
 have np := As .cj (its.map fun _ => 0) G
 have hz1 : (1 : Nat) ≤ sizeLine := lz (by omega)
 generalize LL : H.set p (.d8 true (fS (fU mix its names))) = H2
 have Qv : H2[G.length + 1]? = some (.lst L) := by rw [← LL, List.getElem?_set_ne h2]; exact I.lst
 have hpre : H2 = G ++ H2.drop G.length := by
  have : H2.take G.length = G := by
   rw [← LL, List.take_set_of_le h3]; exact I.pre
  conv => lhs; rw [← List.take_append_drop G.length H2, this]
 have VF : ∀ i, i ≤ names.length → ∃ p fz, L[i]? = some (.obj p) ∧ p < H2.length ∧ H2[p]? = some (.d8 fz (fS (fU mix its (names.take i)))) := by
  intro i hi
  obtain ⟨q, f, k1, k2, k3, k4⟩ := I.lay i hi
  have Mi : q < H.length := (List.getElem?_eq_some_iff.mp k4).1
  by_cases OD : p = q
  ·subst OD
   rw [h4] at k4
   have e2 : fS (fU mix its (names.take i)) = fS (fU mix its names) := by
    have := Option.some.inj k4
    injection this with _ e3
    exact e3.symm
   refine ⟨p, true, k1, by rw [← LL]; simpa using hpl, ?_⟩
   rw [e2, ← LL, List.getElem?_set, if_pos rfl, if_pos hpl]
  ·exact ⟨q, f, k1, by rw [← LL]; simpa using Mi, by rw [← LL, List.getElem?_set_ne OD]; exact k4⟩
 have gl := I.lst
 have a3 : fY [D.str a, .str b, .str (if mix = true then "mix" else "row"), .tup (its.map bT)] 3 = some (.tup (its.map bT)) := Ao
 have LM : ic [some (bf a b mix its), some (.con (names.map fun nm => .con [.str nm])), none, none, none, none] G = iT [some (bf a b mix its), some (.con (names.map fun nm => .con [.str nm])), some (.tup (its.map bT)), some (.obj (G.length + 1)), tF, none] H := by
  have ix : ∀ τ G, ay bQ (ah 0) (eC (.int 3)) (some (bf a b mix its) :: τ) G = .ok (.tup (its.map bT)) G := by
   intro τ G
   unfold bf
   simp! [Ao]
  have dn : ∀ τ, az bU (ai (rJ (cW 1 gG (ai (ah 0) aE)) (eC .cj)) aE) (some (bf a b mix its) :: τ) G = .ok (.obj (G.length + 1)) (G ++ [.d8 false (fS (lay0 its)), .lst [.obj G.length]]) := by
   intro τ
   have Rw : kQ .cj (.obj G.length) (cD (its.map fun _ => 0)) (G ++ [.d8 false []]) = .ok .cj (G ++ [.d8 false (fS (lay0 its))]) := np
   generalize bf a b mix its = R at nc ⊢
   generalize cD (its.map fun _ => 0) = Z at nc Rw
   generalize fS (lay0 its) = K0 at Rw ⊢
   simp! [nc, Rw, hz1, bU]
  unfold ic
  rw [br, cC, ix, dU, bJ]
  simp only [List.set_cons_succ, List.set_cons_zero]
  rw [br, cC, dn, dU, bJ]
  simp only [List.set_cons_succ, List.set_cons_zero]
  rw [br, jH]
  simp only [cQ, List.getElem?_cons_succ, List.getElem?_cons_zero, fy, kN, e1, bJ]
 generalize hR : bf a b mix its = R at LM
 generalize We : D.con (names.map fun nm => .con [.str nm]) = Ch at LM
 have Rx : iT [some R, some Ch, some (.tup (its.map bT)), some (.obj (G.length + 1)), tF, none] H = (bO (gN 5) gg ((fS (fU mix its names)).map fun kv => .tup (kv.1.map Bm)) [some R, some Ch, some (.tup (its.map bT)), some (.obj (G.length + 1)), tF, none] H2).sq (gb (eC .cj)) := by
  unfold iT
  simp only [br, nV, x8, qh, cQ, Ba, rB, Bb, List.getElem?_cons_succ, List.getElem?_cons_zero, fy, aI, bQ, aD, gl, hend, h4, LL, kN, CD]
 have fin : ∀ r, (bO (gN 5) gg ((fS (fU mix its names)).map fun kv => .tup (kv.1.map Bm)) [some R, some Ch, some (.tup (its.map bT)), some (.obj (G.length + 1)), tF, none] H2).sq (gb (eC .cj)) = .rt r H2 → r.closed = true → fQ [R, Ch] G = .ok r G := by
  intro r h hc
  unfold fQ
  refine jY (R := H2.drop G.length) ?_ hc
  rw [← hpre, jI]
  simp only [List.map_cons, List.map_nil, List.length_cons, List.length_nil, List.cons_append, List.nil_append, List.replicate]
  rw [LM, Rx, h, jJ]
 unfold accept
 cases GI : fU mix its names with
 | none =>
  rw [GI] at fin
  refine ⟨.cj, fin .cj ?_ lM, .inr ⟨rfl, rfl⟩⟩
  simp only [fS, List.map_nil, bO, bJ, iD, rB, kM]
 | some cv =>
  obtain ⟨c, v⟩ := cv
  rw [GI] at fin
  have en := wK its c hl H2
  obtain ⟨l, bk, hcl⟩ := back_eq mix its hl names hn L H2 (G.length + 1) Qv I.len VF c v GI
  rw [← jL] at hcl
  dsimp only
  generalize its.map bT = It at fin en bk
  cases he : bP its c with
  | true =>
   rw [he] at en
   refine ⟨.con l, fin _ ?_ hcl, .inl ⟨rfl, l, rfl⟩⟩
   simp only [fS, List.map_cons, List.map_nil, yF]
   generalize cD c = C at en bk ⊢
   generalize G.length + 1 = q at bk ⊢
   simp! [bO, gN, gg, en, bk]
  | false =>
   rw [he] at en
   refine ⟨.cj, fin _ ?_ lM, .inr ⟨rfl, rfl⟩⟩
   simp only [fS, List.map_cons, List.map_nil, yF]
   generalize cD c = C at en bk ⊢
   generalize G.length + 1 = q at bk ⊢
   simp! [bO, gN, gg, en]
theorem IY (a b : Str) (mix : Bool) (its : List Itm) (hl : its.length ≤ 100) (hs : ∀ i ∈ its, PyData.strOk i.nm = true) (hfit : ∀ nm, fits its nm = [] ∨ ∃ it k, fits its nm = [(it, k)]) (names : List Str) (hn : names.length ≤ 900) (hns : ∀ nm ∈ names, PyData.strOk nm = true) (G : DH) :
  rK [bf a b mix its, .con (names.map .str)] G = .ok (.bl (accept mix its names)) G := by
 obtain ⟨r, e1, hr⟩ := D3 a b mix its hl hs hfit names hn hns G
 have c1 := iE (τ := [some (bf a b mix its), some (.con (names.map .str))]) (G := G) (gO := oN) (ks := []) (te := eFn (az bU (ai (ah 0) (aE)))) (own := fun x => [x]) (f := fun x => .con [x]) (names.map .str) [] (by simp; omega) (fun x _ => rfl) (fun x hx acc => by
  obtain ⟨nm, _, rfl⟩ := List.mem_map.mp hx
  simp only [cX, iP, jo, cQ, jh, fy, aI, nu, List.map_cons, List.map_nil, List.cons_append, List.getElem?_cons_zero]
  rw [g6 (lz (by simp)) (by simp [cu, cY, bB])])
 rw [List.nil_append, List.map_map] at c1
 replace c1 : dI oN [] p9 (eFn (az bU (ai (ah 0) (aE)))) G.length (names.map .str) [some (bf a b mix its), some (.con (names.map .str))] (G ++ [.lst []]) = .ok (.obj G.length) (G ++ [.lst (names.map fun nm => .con [.str nm])]) := c1
 have hcl : aU (names.map fun nm => D.con [.str nm]) = true := bx fun _ => by simp [jL, cu, cY, bB]
 unfold rK
 refine iZ ?_ gF
 unfold yb
 generalize bf a b mix its = R at e1 c1 ⊢
 generalize (names.map fun nm => D.con [.str nm]) = Ch at e1 c1 hcl
 generalize names.map D.str = Ns at c1 ⊢
 rcases hr with ⟨ha, l, rfl⟩ | ⟨ha, rfl⟩
 ·rw [ha]
  simp! [c1, cX, ji hcl, e1, gn]
 ·rw [ha]
  simp! [c1, cX, ji hcl, e1, gn]
end K21
end
section
set_option Elab.async false
set_option linter.all false
set_option maxRecDepth 100000
set_option maxHeartbeats 1000000
namespace K21
open PySem PySem.Spec L2 L3
structure WF (its : List Itm) : Prop where
 nd : (its.map (·.nm)).Nodup
 lo : ∀ i ∈ its, 0 ≤ i.lo
 hi : ∀ i ∈ its, ∀ h, i.hi = some h → i.lo ≤ h
theorem nZ {its : List Itm} {nm : Str} (h : ∀ i ∈ its, i.nm ≠ nm) : fits its nm = [] := by
 unfold fits
 rw [List.filter_eq_nil_iff]
 rintro ⟨i, k⟩ hp
 rw [List.mem_zipIdx_iff_getElem?] at hp
 have := h i (List.mem_of_getElem? hp)
 simp
 exact fun e => this e.symm
theorem jQ {P R : List Itm} {it : Itm} (hnd : ((P ++ it :: R).map (·.nm)).Nodup) : fits (P ++ it :: R) it.nm = [(it, P.length)] := by
 unfold fits
 rw [List.map_append, List.map_cons, List.nodup_append] at hnd
 obtain ⟨_, h2, h3⟩ := hnd
 have hP : ∀ i ∈ P, i.nm ≠ it.nm := fun i hi e => h3 i.nm (List.mem_map.mpr ⟨i, hi, rfl⟩) it.nm (by simp) e
 have hR : ∀ i ∈ R, i.nm ≠ it.nm := fun i hi e => (List.nodup_cons.mp h2).1 (by rw [← e]; exact List.mem_map.mpr ⟨i, hi, rfl⟩)
 rw [List.zipIdx_append, List.filter_append, List.zipIdx_cons, List.filter_cons_of_pos (by simp)]
 have e1 : (P.zipIdx.filter fun p => it.nm == p.1.nm) = [] := by
  rw [List.filter_eq_nil_iff]
  rintro ⟨i, k⟩ hp
  rw [List.mem_zipIdx_iff_getElem?] at hp
  have := hP i (List.mem_of_getElem? hp)
  simp
  exact fun e => this e.symm
 have e2 : ∀ n, ((R.zipIdx n).filter fun p => it.nm == p.1.nm) = [] := by
  intro n
  rw [List.filter_eq_nil_iff]
  rintro ⟨i, k⟩ hp
  have := hR i (List.fst_mem_of_mem_zipIdx hp)
  simp
  exact fun e => this e.symm
 rw [e1, e2]
 simp
theorem BL {its : List Itm} (hnd : (its.map (·.nm)).Nodup) (nm : Str) : fits its nm = [] ∨ ∃ it k, fits its nm = [(it, k)] := by
 by_cases h : ∃ i ∈ its, i.nm = nm
 ·obtain ⟨i, hi, rfl⟩ := h
  obtain ⟨P, R, rfl⟩ := List.append_of_mem hi
  exact .inr ⟨i, P.length, jQ hnd⟩
 ·exact .inl (nZ fun i hi e => h ⟨i, hi, e⟩)
noncomputable def gB (mix : Bool) (its : List Itm) (l : Option (List Int × D)) (names : List Str) : Bool := match names.foldl (fun l nm => jP mix its (fits its nm) l) l with
 | some (c, _) => bP its c
 | none => false
theorem sI (mix : Bool) (its : List Itm) (names : List Str) : accept mix its names = gB mix its (lay0 its) names := rfl
theorem gS (mix : Bool) (its : List Itm) : ∀ names, gB mix its none names = false := by
 have : ∀ names : List Str, names.foldl (fun l nm => jP mix its (fits its nm) l) none = none := by
  intro names
  induction names with
  | nil => rfl
  | cons n t ih => rw [List.foldl_cons]; exact ih
 intro names
 unfold gB
 rw [this]
theorem rP (mix : Bool) (its : List Itm) (l : Option (List Int × D)) (n : Str) (t : List Str) : gB mix its l (n :: t) = gB mix its (jP mix its (fits its n) l) t := rfl
theorem pR : ∀ {A : List Itm} {cA : List Int} (B : List Itm) (cB : List Int), A.length = cA.length → bP (A ++ B) (cA ++ cB) = (bP A cA && bP B cB)
 | [], [], B, cB, _ => by simp [bP]
 | [], _ :: _, _, _, h => by simp at h
 | _ :: _, [], _, _, h => by simp at h
 | i :: A, x :: cA, B, cB, h => by
  have := pR (A := A) (cA := cA) B cB (by simpa using h)
  simp [bP, this, Bool.and_assoc]
theorem n6 : ∀ (P : List Itm), bP P (P.map (·.lo)) = true
 | [] => rfl
 | i :: P => by simp [bP, n6 P]
theorem nM : ∀ (A : List Itm) (c d : List Int), A.length ≤ c.length → bP A (c ++ d) = bP A c
 | [], c, d, _ => by simp [bP]
 | i :: A, [], d, h => by simp at h
 | i :: A, x :: c, d, h => by simp [bP, nM A c d (by simpa using h)]
noncomputable def inR (i : Itm) (n : Int) : Bool := decide (i.lo ≤ n) && (match i.hi with
 | some h => decide (n ≤ h)
 | none => true)
noncomputable def oE (i : Itm) (f : List Str → Bool) : Int → List Str → Bool
 | y, [] => inR i y && f []
 | y, n :: t => if n = i.nm then oE i f (y + 1) t else inR i y && f (n :: t)
noncomputable def fJ : List Itm → List Str → Bool
 | [], names => names.isEmpty
 | i :: R, names => oE i (fJ R) 0 names
theorem uS {i : Itm} {f : List Str → Bool} {h : Int} (hh : i.hi = some h) : ∀ (names : List Str) (y : Int), h < y → oE i f y names = false
 | [], y, hy => by
  have : ¬ y ≤ h := by omega
  simp [oE, inR, hh, this]
 | n :: t, y, hy => by
  have : ¬ y ≤ h := by omega
  rw [oE]
  by_cases hn : n = i.nm
  ·rw [if_pos hn]; exact uS hh t (y + 1) (by omega)
  ·rw [if_neg hn]; simp [inR, hh, this]
theorem wN {n : Str} {t : List Str} : ∀ {R : List Itm}, (∀ i ∈ R, i.nm ≠ n) → fJ R (n :: t) = false
 | [], _ => rfl
 | i :: R, h => by
  rw [fJ, oE, if_neg (fun e => h i (by simp) e.symm), wN fun j hj => h j (by simp [hj])]
  simp
noncomputable def mF (R : List Itm) : Bool := R.all fun i => decide (i.lo ≤ 0)
theorem OE {i : Itm} (hi : ∀ h, i.hi = some h → 0 ≤ h) : inR i 0 = decide (i.lo ≤ 0) := by
 unfold inR
 cases q : i.hi with
 | none => simp
 | some h => simp [hi h q]
theorem CM : ∀ {R : List Itm}, (∀ i ∈ R, ∀ h, i.hi = some h → 0 ≤ h) → fJ R [] = mF R
 | [], _ => rfl
 | i :: R, h => by
  rw [fJ, oE, CM fun j hj => h j (by simp [hj]), OE (h i (by simp))]
  simp [mF]
theorem Au {r : Itm} {R2 : List Itm} {t : List Str} : ∀ {R1 : List Itm}, (∀ i ∈ R1, i.nm ≠ r.nm) → (∀ i ∈ R1, ∀ h, i.hi = some h → 0 ≤ h) → fJ (R1 ++ r :: R2) (r.nm :: t) = (mF R1 && oE r (fJ R2) 1 t)
 | [], _, _ => by
  rw [List.nil_append, fJ, oE, if_pos rfl]
  simp [mF]
 | i :: R1, h, hh => by
  rw [List.cons_append, fJ, oE, if_neg (fun e => h i (by simp) e.symm), Au (fun j hj => h j (by simp [hj])) (fun j hj => hh j (by simp [hj])), OE (hh i (by simp))]
  simp [mF, Bool.and_assoc]
theorem nN : ∀ (R : List Itm), bP R (R.map fun _ => 0) = mF R
 | [] => rfl
 | i :: R => by
  have := nN R
  unfold mF at this ⊢
  simp [bP, this]
theorem qV : ∀ (R : List Itm), (R.map fun _ => (0 : Int)).sum = 0
 | [] => rfl
 | i :: R => by simp [qV R]
theorem uT : ∀ (c : List Int), (∀ x ∈ c, 0 ≤ x) → 0 ≤ c.sum
 | [], _ => by simp
 | x :: c, h => by
  have := h x (by simp)
  have := uT c fun y hy => h y (by simp [hy])
  simp; omega
noncomputable def cZ (it : Itm) (y : Int) : Int := if bL false it < y then bL false it else y
theorem yH : ∀ (names : List Str) (P : List Itm) (cur : Itm) (R : List Itm) (y : Int) (v : D), WF (P ++ cur :: R) → 0 ≤ y → (∀ h, cur.hi = some h → y ≤ h) → (P = [] ∨ 1 ≤ cZ cur y) →
  gB false (P ++ cur :: R) (some (P.map (·.lo) ++ cZ cur y :: R.map (fun _ => 0), v)) names = oE cur (fJ R) y names
 | [], P, cur, R, y, v, W, hy, hh, hP => by
  have hR : ∀ i ∈ R, ∀ h, i.hi = some h → 0 ≤ h := fun i hi h e => Int.le_trans (W.lo i (by simp [hi])) (W.hi i (by simp [hi]) h e)
  show bP (P ++ cur :: R) (P.map (·.lo) ++ cZ cur y :: R.map fun _ => 0) = _
  rw [pR _ _ (by simp), n6, oE, CM hR]
  simp only [bP, nN, Bool.true_and]
  congr 1
  unfold cZ bL inR
  cases q : cur.hi with
  | none =>
   simp only [Bool.and_true]
   rw [decide_eq_decide]
   simp
   split <;> split <;> omega
  | some h =>
   have := hh h q
   simp only
   rw [if_neg (by omega)]
   simp [this]
 | n :: t, P, cur, R, y, v, W, hy, hh, hP => by
  have Wf : 0 ≤ cZ cur y := by
   unfold cZ bL
   cases q : cur.hi with
   | none => simp only; split <;> (try split) <;> simp at * <;> omega
   | some h => have := hh h q; simp only; rw [if_neg (by omega)]; exact hy
  have hlen : (P.map (·.lo)).length = P.length := by simp
  have hR : ∀ i ∈ R, ∀ h, i.hi = some h → 0 ≤ h := fun i hi h e => Int.le_trans (W.lo i (by simp [hi])) (W.hi i (by simp [hi]) h e)
  rw [rP, oE]
  by_cases hn : n = cur.nm
  ·subst hn
   rw [if_pos rfl, jQ W.nd]
   have hk : (P.map (·.lo) ++ cZ cur y :: R.map fun _ => (0 : Int))[P.length]? = some (cZ cur y) := by
    rw [← hlen, List.getElem?_append_right (Nat.le_refl _)]; simp
   have hm : qU false (P ++ cur :: R) (P.map (·.lo) ++ cZ cur y :: R.map fun _ => 0) P.length cur (cZ cur y) = qT (cZ cur y) cur.hi := by
    unfold qU
    have e1 : (P.map (·.lo) ++ cZ cur y :: R.map fun _ => (0 : Int)).drop (P.length + 1) = R.map fun _ => 0 := by
     rw [← hlen, List.drop_append]; simp
    have e2 : (P ++ cur :: R).take P.length = P := by simp
    rw [e1, e2, qV, nM P _ _ (by simp), n6]
    simp
   have ht : d7 false (P ++ cur :: R) (P.map (·.lo) ++ cZ cur y :: R.map fun _ => 0) P.length cur (cZ cur y) = P.map (·.lo) ++ (if bL false cur < cZ cur y + 1 then bL false cur else cZ cur y + 1) :: R.map fun _ => 0 := by
    unfold d7
    have e1 : (P.map (·.lo) ++ cZ cur y :: R.map fun _ => (0 : Int)).drop (P.length + 1) = R.map fun _ => 0 := by
     rw [← hlen, List.drop_append]; simp
    have e2 : (P ++ cur :: R).take P.length = P := by simp
    rw [e1, e2]
    simp
   unfold jP
   dsimp only
   rw [hk]
   dsimp only
   rw [hm, ht]
   by_cases ho : qT (cZ cur y) cur.hi = true
   ·rw [if_pos ho]
    have hc : (if bL false cur < cZ cur y + 1 then bL false cur else cZ cur y + 1) = cZ cur (y + 1) := by
     unfold cZ
     split <;> split <;> (try split) <;> omega
    have Pg : ∀ h, cur.hi = some h → y + 1 ≤ h := by
     intro h q
     have := hh h q
     unfold qT at ho
     rw [q] at ho
     simp [cZ, bL, q] at ho
     split at ho <;> omega
    rw [hc]
    refine yH t P cur R (y + 1) _ W (by omega) Pg (.inr ?_)
    unfold cZ bL
    cases q : cur.hi with
    | none => simp only; simp; split <;> split <;> omega
    | some h => have := Pg h q; simp only; rw [if_neg (by omega)]; omega
   ·rw [if_neg ho, gS]
    cases q : cur.hi with
    | none => rw [q] at ho; exact (ho rfl).elim
    | some h =>
     have h1 := hh h q
     rw [q] at ho
     simp [qT, cZ, bL, q] at ho
     rw [if_neg (by omega)] at ho
     exact (uS q t (y + 1) (by omega)).symm
  ·rw [if_neg hn]
   have hle : inR cur y = decide (cur.lo ≤ cZ cur y) := by
    unfold cZ bL inR
    cases q : cur.hi with
    | none =>
     simp only [Bool.and_true]
     rw [decide_eq_decide]
     simp
     split <;> split <;> omega
    | some h =>
     have := hh h q
     simp only
     rw [if_neg (by omega)]
     simp [this]
   by_cases hr : ∃ r ∈ R, r.nm = n
   ·obtain ⟨r, hr, rfl⟩ := hr
    obtain ⟨R1, R2, rfl⟩ := List.append_of_mem hr
    have IZ : P ++ cur :: (R1 ++ r :: R2) = (P ++ cur :: R1) ++ r :: R2 := by simp
    have ec : P.map (·.lo) ++ cZ cur y :: (R1 ++ r :: R2).map (fun _ => (0 : Int)) = (P.map (·.lo) ++ cZ cur y :: R1.map fun _ => 0) ++ 0 :: R2.map fun _ => 0 := by simp
    have VG : ∀ i ∈ R1, i.nm ≠ r.nm := by
     intro i hi e
     have := W.nd
     rw [IZ, List.map_append, List.map_cons, List.nodup_append] at this
     exact this.2.2 i.nm (List.mem_map.mpr ⟨i, by simp [hi], rfl⟩) r.nm (by simp) e
    rw [Au VG fun i hi => hR i (by simp [hi])]
    rw [IZ] at W ⊢
    rw [ec, jQ W.nd]
    have hl2 : (P.map (·.lo) ++ cZ cur y :: R1.map fun _ => (0 : Int)).length = (P ++ cur :: R1).length := by simp
    have hk : ((P.map (·.lo) ++ cZ cur y :: R1.map fun _ => (0 : Int)) ++ 0 :: R2.map fun _ => 0)[(P ++ cur :: R1).length]? = some 0 := by
     rw [← hl2, List.getElem?_append_right (Nat.le_refl _)]; simp
    have ed : List.drop ((P ++ cur :: R1).length + 1) ((P.map (fun i : Itm => i.lo) ++ cZ cur y :: R1.map fun _ => (0 : Int)) ++ 0 :: R2.map fun _ => 0) = R2.map fun _ => 0 := by
     rw [← hl2, List.drop_append, List.drop_of_length_le (by omega), Nat.add_sub_cancel_left]; rfl
    have et : ((P ++ cur :: R1) ++ r :: R2).take (P ++ cur :: R1).length = P ++ cur :: R1 := by rw [List.take_left']; rfl
    have hm : qU false ((P ++ cur :: R1) ++ r :: R2) ((P.map (·.lo) ++ cZ cur y :: R1.map fun _ => (0 : Int)) ++ 0 :: R2.map fun _ => 0) (P ++ cur :: R1).length r 0 = (qT 0 r.hi && (inR cur y && mF R1)) := by
     unfold qU
     rw [ed, et, qV, nM _ _ _ (by simp), pR _ _ (by simp), n6, hle]
     simp [bP, nN]
    have ht : d7 false ((P ++ cur :: R1) ++ r :: R2) ((P.map (·.lo) ++ cZ cur y :: R1.map fun _ => (0 : Int)) ++ 0 :: R2.map fun _ => 0) (P ++ cur :: R1).length r 0 = (P ++ cur :: R1).map (·.lo) ++ (if bL false r < 0 + 1 then bL false r else 0 + 1) :: R2.map fun _ => 0 := by
     unfold d7
     rw [ed, et]
     simp
    unfold jP
    dsimp only
    rw [hk]
    dsimp only
    rw [hm, ht]
    cases hio : inR cur y && mF R1 with
    | false => rw [Bool.and_false, if_neg (by decide), gS, ← Bool.and_assoc, hio]; rfl
    | true =>
     rw [Bool.and_true, ← Bool.and_assoc, hio, Bool.true_and]
     have hlr := W.lo r (by simp)
     by_cases ho : qT 0 r.hi = true
     ·rw [if_pos ho]
      have hr1 : ∀ h, r.hi = some h → 1 ≤ h := by
       intro h q
       rw [q] at ho
       simp [qT] at ho
       omega
      have hc : (if bL false r < 0 + 1 then bL false r else 0 + 1) = cZ r 1 := by simp [cZ]
      have h1 : 1 ≤ cZ r 1 := by
       unfold cZ bL
       cases q : r.hi with
       | none => simp only; simp; split <;> (try split) <;> omega
       | some h => have := hr1 h q; simp only; rw [if_neg (by omega)]; omega
      rw [hc]
      exact yH t (P ++ cur :: R1) r R2 1 _ W (by omega) hr1 (.inr h1)
     ·rw [if_neg ho, gS]
      cases q : r.hi with
      | none => rw [q] at ho; exact (ho rfl).elim
      | some h =>
       rw [q] at ho
       simp [qT] at ho
       exact (uS q t 1 (by omega)).symm
   ·rw [wN fun i hi e => hr ⟨i, hi, e⟩, Bool.and_false]
    by_cases hp : ∃ q ∈ P, q.nm = n
    ·obtain ⟨q, hq, rfl⟩ := hp
     obtain ⟨P1, P2, rfl⟩ := List.append_of_mem hq
     have Iz : 1 ≤ cZ cur y := by
      rcases hP with h | h
      ·simp at h
      ·exact h
     have IZ : (P1 ++ q :: P2) ++ cur :: R = P1 ++ q :: (P2 ++ cur :: R) := by simp
     have ec : (P1 ++ q :: P2).map (·.lo) ++ cZ cur y :: R.map (fun _ => (0 : Int)) = P1.map (·.lo) ++ q.lo :: (P2.map (·.lo) ++ cZ cur y :: R.map fun _ => 0) := by simp
     rw [IZ] at W ⊢
     rw [ec, jQ W.nd]
     have hl2 : (P1.map (·.lo)).length = P1.length := by simp
     have hk : (P1.map (·.lo) ++ q.lo :: (P2.map (·.lo) ++ cZ cur y :: R.map fun _ => (0 : Int)))[P1.length]? = some q.lo := by
      rw [← hl2, List.getElem?_append_right (Nat.le_refl _)]; simp
     have ed : (P1.map (·.lo) ++ q.lo :: (P2.map (·.lo) ++ cZ cur y :: R.map fun _ => (0 : Int))).drop (P1.length + 1) = P2.map (·.lo) ++ cZ cur y :: R.map fun _ => 0 := by
      rw [← hl2, List.drop_append, List.drop_of_length_le (by omega), Nat.add_sub_cancel_left]; rfl
     have hs := uT (P2.map (·.lo)) fun x hx => by
      obtain ⟨i, hi, rfl⟩ := List.mem_map.mp hx
      exact W.lo i (by simp [hi])
     have hm : qU false (P1 ++ q :: (P2 ++ cur :: R)) (P1.map (·.lo) ++ q.lo :: (P2.map (·.lo) ++ cZ cur y :: R.map fun _ => 0)) P1.length q q.lo = false := by
      unfold qU
      rw [ed]
      have : ((P2.map (·.lo) ++ cZ cur y :: R.map fun _ => (0 : Int)).sum == 0) = false := by
       rw [List.sum_append, List.sum_cons, qV]
       simp
       omega
      rw [this]
      simp
     unfold jP
     dsimp only
     rw [hk]
     dsimp only
     rw [hm, if_neg (by decide), gS]
    ·rw [nZ fun i hi e => ?_]
     ·exact gS _ _ _
     ·rcases List.mem_append.mp hi with h | h
      ·exact hp ⟨i, h, e⟩
      ·rcases List.mem_cons.mp h with rfl | h
       ·exact hn e.symm
       ·exact hr ⟨i, h, e⟩
theorem BN (its : List Itm) (W : WF its) (names : List Str) : accept false its names = fJ its names := by
 rw [sI]
 cases its with
 | nil =>
  cases names with
  | nil => rfl
  | cons n t =>
   rw [rP, nZ (by simp)]
   exact gS _ _ _
 | cons i R =>
  have hc : cZ i 0 = 0 := by
   have h0 := W.lo i (by simp)
   unfold cZ bL
   cases q : i.hi with
   | none => simp only; simp; intro h; split at h <;> omega
   | some h => have := W.hi i (by simp) h q; simp only; rw [if_neg (by omega)]
  have := yH names [] i R 0 .cj W (by omega) (fun h q => Int.le_trans (W.lo i (by simp)) (W.hi i (by simp) h q)) (.inl rfl)
  rw [hc] at this
  exact this
end K21
end
section
set_option Elab.async false
set_option linter.all false
set_option maxRecDepth 100000
set_option maxHeartbeats 1000000
namespace K21
open PySem PySem.Spec L2 L3
noncomputable def d9 (it : Itm) (y : Int) : Int := if bL true it < y then bL true it else y
noncomputable def cnt (names : List Str) (nm : Str) : Int := ((names.filter fun n => n == nm).length : Nat)
noncomputable def jx : List Itm → List Int → List Str → Bool
 | i :: its, y :: ys, names => inR i (y + cnt names i.nm) && jx its ys names
 | _, _, _ => true
noncomputable def D4 : List Itm → List Int → Prop
 | [], [] => True
 | i :: its, y :: ys => (0 ≤ y ∧ ∀ h, i.hi = some h → y ≤ h) ∧ D4 its ys
 | _, _ => False
theorem wO : ∀ {P : List Itm} {it : Itm} {R : List Itm} {ys : List Int}, D4 (P ++ it :: R) ys → ∃ yP y yR, ys = yP ++ y :: yR ∧ D4 P yP ∧ (0 ≤ y ∧ ∀ h, it.hi = some h → y ≤ h) ∧ D4 R yR
 | [], it, R, [], h => by simp [D4] at h
 | [], it, R, y :: ys, h => ⟨[], y, ys, rfl, trivial, h.1, h.2⟩
 | i :: P, it, R, [], h => by simp [D4] at h
 | i :: P, it, R, y :: ys, h => by
  obtain ⟨yP, y', yR, e, h1, h2, h3⟩ := wO (P := P) (it := it) (R := R) h.2
  exact ⟨y :: yP, y', yR, by rw [e]; rfl, ⟨h.1, h1⟩, h2, h3⟩
theorem CN : ∀ {P : List Itm} {ys : List Int}, D4 P ys → P.length = ys.length
 | [], [], _ => rfl
 | [], _ :: _, h => h.elim
 | _ :: _, [], h => h.elim
 | i :: P, y :: ys, h => by simp [CN h.2]
theorem Av : ∀ {P : List Itm} {yP : List Int} {it : Itm} {R : List Itm} {y : Int} {yR : List Int}, D4 P yP → (0 ≤ y ∧ ∀ h, it.hi = some h → y ≤ h) → D4 R yR → D4 (P ++ it :: R) (yP ++ y :: yR)
 | [], [], it, R, y, yR, _, h2, h3 => ⟨h2, h3⟩
 | [], _ :: _, _, _, _, _, h, _, _ => h.elim
 | _ :: _, [], _, _, _, _, h, _, _ => h.elim
 | i :: P, z :: yP, it, R, y, yR, h1, h2, h3 => ⟨h1.1, Av h1.2 h2 h3⟩
theorem uU : ∀ {P : List Itm} {yP : List Int} {B : List Itm} {yB : List Int} {names : List Str}, P.length = yP.length → jx (P ++ B) (yP ++ yB) names = (jx P yP names && jx B yB names)
 | [], [], B, yB, names, _ => by simp [jx]
 | [], _ :: _, _, _, _, h => by simp at h
 | _ :: _, [], _, _, _, h => by simp at h
 | i :: P, y :: yP, B, yB, names, h => by
  have := uU (P := P) (yP := yP) (B := B) (yB := yB) (names := names) (by simpa using h)
  simp [jx, this, Bool.and_assoc]
theorem LN {n nm : Str} {t : List Str} (h : nm ≠ n) : cnt (n :: t) nm = cnt t nm := by
 unfold cnt
 rw [List.filter_cons_of_neg (by simpa using fun e => h e.symm)]
theorem LO {n : Str} {t : List Str} : cnt (n :: t) n = cnt t n + 1 := by
 unfold cnt
 rw [List.filter_cons_of_pos (by simp)]
 simp
theorem LP (t : List Str) (n : Str) : 0 ≤ cnt t n := by unfold cnt; omega
theorem rQ {n : Str} {t : List Str} : ∀ {P : List Itm} {yP : List Int}, (∀ i ∈ P, i.nm ≠ n) → jx P yP (n :: t) = jx P yP t
 | [], _, _ => by simp [jx]
 | _ :: _, [], _ => by simp [jx]
 | i :: P, y :: yP, h => by
  rw [jx, jx, LN (h i (by simp)), rQ fun j hj => h j (by simp [hj])]
theorem I8 {i : Itm} {y : Int} (h : 0 ≤ y ∧ ∀ h, i.hi = some h → y ≤ h) : decide (i.lo ≤ d9 i y) = inR i y := by
 unfold d9 bL inR
 cases q : i.hi with
 | none =>
  simp only [Bool.and_true]
  rw [decide_eq_decide]
  simp
  split <;> omega
 | some z =>
  have := h.2 z q
  simp only
  rw [if_neg (by omega)]
  simp [this]
theorem CO : ∀ {its : List Itm} {ys : List Int}, D4 its ys → bP its (List.zipWith d9 its ys) = jx its ys []
 | [], [], _ => rfl
 | [], _ :: _, h => h.elim
 | _ :: _, [], h => h.elim
 | i :: its, y :: ys, h => by
  have e : y + cnt [] i.nm = y := by simp [cnt]
  rw [List.zipWith_cons_cons, bP, jx, CO h.2, e, I8 h.1]
noncomputable def known (its : List Itm) (names : List Str) : Bool := names.all fun n => its.any fun i => i.nm == n
theorem CP (its : List Itm) (W : WF its) : ∀ (names : List Str) (ys : List Int) (v : D), D4 its ys → gB true its (some (List.zipWith d9 its ys, v)) names = (known its names && jx its ys names)
 | [], ys, v, h => by
  show bP its (List.zipWith d9 its ys) = _
  rw [CO h]
  simp [known]
 | n :: t, ys, v, h => by
  rw [rP]
  by_cases hk : ∃ i ∈ its, i.nm = n
  ·obtain ⟨it, hi, rfl⟩ := hk
   have hkn : known its (it.nm :: t) = known its t := by
    unfold known
    rw [List.all_cons, List.any_eq_true.mpr ⟨it, hi, by simp⟩, Bool.true_and]
   rw [hkn]
   obtain ⟨P, R, rfl⟩ := List.append_of_mem hi
   obtain ⟨yP, y, yR, rfl, o1, o2, o3⟩ := wO h
   have hP : ∀ i ∈ P, i.nm ≠ it.nm := by
    intro i hi e
    have := W.nd
    rw [List.map_append, List.map_cons, List.nodup_append] at this
    exact this.2.2 i.nm (List.mem_map.mpr ⟨i, hi, rfl⟩) it.nm (by simp) e
   have hR : ∀ i ∈ R, i.nm ≠ it.nm := by
    intro i hi e
    have := W.nd
    rw [List.map_append, List.map_cons, List.nodup_append] at this
    exact (List.nodup_cons.mp this.2.1).1 (by rw [← e]; exact List.mem_map.mpr ⟨i, hi, rfl⟩)
   have hl := CN o1
   have Ry : (List.zipWith d9 P yP).length = P.length := by simp [hl]
   have ez : List.zipWith d9 (P ++ it :: R) (yP ++ y :: yR) = List.zipWith d9 P yP ++ d9 it y :: List.zipWith d9 R yR := by
    rw [List.zipWith_append hl]; rfl
   have hk : (List.zipWith d9 P yP ++ d9 it y :: List.zipWith d9 R yR)[P.length]? = some (d9 it y) := by
    rw [← Ry, List.getElem?_append_right (Nat.le_refl _)]; simp
   have hm : qU true (P ++ it :: R) (List.zipWith d9 P yP ++ d9 it y :: List.zipWith d9 R yR) P.length it (d9 it y) = qT (d9 it y) it.hi := by simp [qU]
   have ht : d7 true (P ++ it :: R) (List.zipWith d9 P yP ++ d9 it y :: List.zipWith d9 R yR) P.length it (d9 it y) = List.zipWith d9 P yP ++ (if bL true it < d9 it y + 1 then bL true it else d9 it y + 1) :: List.zipWith d9 R yR := by
    unfold d7
    rw [if_pos rfl, ← Ry, List.take_left', List.drop_append, List.drop_of_length_le (by omega), Nat.add_sub_cancel_left]
    ·simp
    ·rfl
   have em : jx (P ++ it :: R) (yP ++ y :: yR) (it.nm :: t) = (jx P yP t && (inR it (y + (cnt t it.nm + 1)) && jx R yR t)) := by
    rw [uU hl, rQ hP, jx, LO, rQ hR]
   rw [ez, jQ W.nd]
   unfold jP
   dsimp only
   rw [hk]
   dsimp only
   rw [hm, ht]
   by_cases ho : qT (d9 it y) it.hi = true
   ·rw [if_pos ho]
    have hc : (if bL true it < d9 it y + 1 then bL true it else d9 it y + 1) = d9 it (y + 1) := by
     unfold d9
     split <;> split <;> (try split) <;> omega
    have Pg : ∀ h, it.hi = some h → y + 1 ≤ h := by
     intro h q
     have := o2.2 h q
     rw [q] at ho
     simp [qT, d9, bL, q] at ho
     split at ho <;> omega
    have VH : List.zipWith d9 P yP ++ d9 it (y + 1) :: List.zipWith d9 R yR = List.zipWith d9 (P ++ it :: R) (yP ++ (y + 1) :: yR) := by
     rw [List.zipWith_append hl]; rfl
    rw [hc, VH, CP _ W t (yP ++ (y + 1) :: yR) _ (Av o1 ⟨by omega, Pg⟩ o3), em, uU hl, jx]
    rw [show y + 1 + cnt t it.nm = y + (cnt t it.nm + 1) by omega]
   ·rw [if_neg ho, gS, em]
    cases q : it.hi with
    | none => rw [q] at ho; exact (ho rfl).elim
    | some h =>
     have h1 := o2.2 h q
     rw [q] at ho
     simp [qT, d9, bL, q] at ho
     rw [if_neg (by omega)] at ho
     have h2 := LP t it.nm
     have : inR it (y + (cnt t it.nm + 1)) = false := by
      unfold inR
      rw [q]
      simp
      intro _
      omega
     rw [this]
     simp
  ·rw [nZ fun i hi e => hk ⟨i, hi, e⟩]
   have : known its (n :: t) = false := by
    unfold known
    rw [List.all_cons, List.any_eq_false.mpr (fun i hi => by simpa using fun e => hk ⟨i, hi, e⟩), Bool.false_and]
   rw [this, Bool.false_and]
   exact gS _ _ _
theorem BO (its : List Itm) (W : WF its) (names : List Str) : accept true its names = (known its names && jx its (its.map fun _ => 0) names) := by
 rw [sI]
 have hz : ∀ l : List Itm, (∀ i ∈ l, 0 ≤ i.lo) → (∀ i ∈ l, ∀ h, i.hi = some h → i.lo ≤ h) → D4 l (l.map fun _ => 0) ∧ List.zipWith d9 l (l.map fun _ => 0) = l.map fun _ => 0 := by
  intro l
  induction l with
  | nil => intro _ _; exact ⟨trivial, rfl⟩
  | cons i l ih =>
   intro h1 h2
   obtain ⟨a1, a2⟩ := ih (fun j hj => h1 j (by simp [hj])) (fun j hj => h2 j (by simp [hj]))
   have h0 := h1 i (by simp)
   refine ⟨⟨⟨Int.le_refl 0, fun h q => ?_⟩, a1⟩, ?_⟩
   ·have := h2 i (by simp) h q
    show (0 : Int) ≤ h
    omega
   ·rw [List.map_cons, List.zipWith_cons_cons, a2]
    congr 1
    unfold d9 bL
    cases q : i.hi with
    | none => simp only; simp; omega
    | some h => have := h2 i (by simp) h q; simp only; rw [if_neg (by omega)]
 obtain ⟨a1, a2⟩ := hz its W.lo W.hi
 have := CP its W names _ .cj a1
 rw [a2] at this
 exact this
end K21
end
section
set_option Elab.async false
set_option linter.all false
set_option maxRecDepth 100000
set_option maxHeartbeats 1000000
namespace K21
open PySem PySem.Spec L2 L3
theorem mG {τ : DS} {G : DH} {gO : D → Option (List D)} {ks : List Bool} {tt : DS → M Bool} {te : DS → M D} {α : Type} {own : α → List D} {dat f : α → D} {c : α → Bool} {n : Nat} {as : List α} (hg : G[n]? = some (.lst (as.map dat))) (hl : as.length ≤ 1000) (h1 : ∀ x ∈ as, gO (dat x) = some (own x))
  (h2 : ∀ x ∈ as, ∀ acc, tt ((own x).map some ++ mask ks τ) (G ++ [.lst acc]) = .ok (c x) (G ++ [.lst acc])) (h3 : ∀ x ∈ as, ∀ acc, te ((own x).map some ++ mask ks τ) (G ++ [.lst acc]) = .ok (f x) (G ++ [.lst acc])) :
  ∀ (fu k : Nat) (acc : List D), k ≤ as.length → as.length < fu + k → acc.length ≤ k → oJ gO ks tt te G.length n fu k τ (G ++ [.lst acc]) = .ok (.obj G.length) (G ++ [.lst (acc ++ ((as.drop k).filter c).map f)])
 | 0, k, acc, hk, hf, ha => by omega
 | fu + 1, k, acc, hk, hf, ha => by
  have hz : acc.length < sizeLine := Nat.lt_of_lt_of_le (by omega) (lz (n := 1001) (by omega))
  rw [oJ, jB hg]
  dsimp only
  by_cases hlt : k < as.length
  ·have hx : (as.map dat)[k]? = some (dat as[k]) := by rw [List.getElem?_map, List.getElem?_eq_getElem hlt]; rfl
   have hm : as[k] ∈ as := List.getElem_mem hlt
   rw [hx, List.drop_eq_getElem_cons hlt]
   dsimp only
   have hp := h2 _ hm acc
   cases hc : c as[k] with
   | false =>
    rw [hc] at hp
    rw [uB (h1 _ hm) hp]
    dsimp only
    rw [mG hg hl h1 h2 h3 fu (k + 1) acc (by omega) (by omega) (by omega), List.filter_cons_of_neg (by rw [hc]; decide)]
   | true =>
    rw [hc] at hp
    rw [sd (h1 _ hm) hp (h3 _ hm acc) hz]
    dsimp only
    rw [mG hg hl h1 h2 h3 fu (k + 1) (acc ++ [f as[k]]) (by omega) (by omega) (by simp; omega), List.filter_cons_of_pos hc]
    simp
  ·have : (as.map dat)[k]? = none := by rw [List.getElem?_eq_none]; simp; omega
   rw [this, List.drop_of_length_le (by omega)]
   simp
theorem GJ (ws : List Str) (h : ∀ w ∈ ws, PyData.strOk w = true) : PyData.canLayAll0 (ws.map PyData.str) = true := by
 induction ws with
 | nil => rfl
 | cons w ws ih => rw [List.map_cons, PyData.canLayAll0, ih fun x hx => h x (by simp [hx]), PyData.canLay0, h w (by simp)]; rfl
theorem D5 (its : List Itm) (n : Str) : (its.map (·.nm)).any (· == n) = its.any fun i => i.nm == n := by
 rw [List.any_map]; rfl
theorem uV (its : List Itm) (hs : ∀ i ∈ its, PyData.strOk i.nm = true) (names : List Str) (hns : ∀ nm ∈ names, PyData.strOk nm = true) (G : DH) (n : Nat) (hg : G[n]? = some (.lst (names.map .str))) (d0 d1 d2 : D) (o5 o6 o7 o8 : Option D) :
  ∀ (fu k : Nat) (o4 : Option D), k ≤ names.length → names.length < fu + k → ∃ tF : Option D, rj (gN 4) gH n fu k [some d0, some d1, some d2, some (.con ((its.map (·.nm)).map .str)), o4, o5, o6, o7, o8] G =
   if known its (names.drop k) = true then .nx [some d0, some d1, some d2, some (.con ((its.map (·.nm)).map .str)), tF, o5, o6, o7, o8] G else .rt (.bl false) G
 | 0, k, o4, hk, hf => by omega
 | fu + 1, k, o4, hk, hf => by
  by_cases hlt : k < names.length
  ·have hx : (names.map D.str)[k]? = some (.str names[k]) := by rw [List.getElem?_map, List.getElem?_eq_getElem hlt]; rfl
   have hin := uc names[k] (its.map (·.nm)) G (hns _ (List.getElem_mem hlt)) (GJ _ (by
    intro w hw
    obtain ⟨i, hi, rfl⟩ := List.mem_map.mp hw
    exact hs i hi))
   rw [D5] at hin
   have hd : known its (names.drop k) = ((its.any fun i => i.nm == names[k]) && known its (names.drop (k + 1))) := by
    unfold known
    rw [List.drop_eq_getElem_cons hlt, List.all_cons]
   rw [hd]
   cases hb : its.any fun i => i.nm == names[k] with
   | false =>
    rw [hb] at hin
    refine ⟨none, ?_⟩
    have step : ∀ Kn, D9 (.str names[k]) Kn G = some false → gH [some d0, some d1, some d2, some (.con Kn), some (.str names[k]), o5, o6, o7, o8] G = .rt (.bl false) G := by
     intro Kn hin
     simp! [gH, AS, hin]
    rw [rj, hg]
    dsimp only
    rw [hx]
    simp only [gN, List.set_cons_succ, List.set_cons_zero, step _ hin, Bool.false_and, Bool.false_eq_true, if_false]
   | true =>
    rw [hb] at hin
    have step : ∀ Kn, D9 (.str names[k]) Kn G = some true → gH [some d0, some d1, some d2, some (.con Kn), some (.str names[k]), o5, o6, o7, o8] G = .nx [some d0, some d1, some d2, some (.con Kn), some (.str names[k]), o5, o6, o7, o8] G := by
     intro Kn hin
     simp! [gH, AS, hin]
    obtain ⟨tF, ih⟩ := uV its hs names hns G n hg d0 d1 d2 o5 o6 o7 o8 fu (k + 1) (some (.str names[k])) (by omega) (by omega)
    refine ⟨tF, ?_⟩
    rw [Bool.true_and, ← ih, rj, hg]
    dsimp only
    rw [hx]
    simp only [gN, List.set_cons_succ, List.set_cons_zero, step _ hin]
  ·refine ⟨o4, ?_⟩
   have : (names.map D.str)[k]? = none := by rw [List.getElem?_eq_none]; simp; omega
   rw [rj, hg]
   dsimp only
   rw [this, List.drop_of_length_le (by omega), if_pos (by rfl)]
theorem rangeT (lo x : Int) (hi : Option Int) (G : DH) (τ : DS) (h7 : τ[7]? = some (some (.int x))) (h5 : τ[5]? = some (some (.int lo))) (h6 : τ[6]? = some (some (mX hi))) :
  AU (je (ay O1 (ah 7) (ah 5))) (kI (je (ay (gn true) (ah 6) (eC .cj))) (je (ay EI (ah 7) (ah 6)))) τ G = .ok (!inR ⟨"", lo, hi⟩ x) G := by
 unfold inR
 by_cases h1 : x < lo
 ·have h2 : ¬ lo ≤ x := by omega
  simp! [h7, h5, h6, h1, h2]
 ·have h2 : lo ≤ x := by omega
  cases hi with
  | none => simp! [h7, h5, h6, h1, h2, mX, gn]
  | some h =>
   by_cases h3 : h < x
   ·have h4 : ¬ x ≤ h := by omega
    simp! [h7, h5, h6, h1, h2, mX, gn, h3, h4]
   ·have h4 : x ≤ h := by omega
    simp! [h7, h5, h6, h1, h2, mX, gn, h3, h4]
theorem count_eq (names : List Str) (hns : ∀ nm ∈ names, PyData.strOk nm = true) (hl : names.length ≤ 900) (G : DH) (n : Nat) (hg : G[n]? = some (.lst (names.map .str))) (nm : Str) (hnm : PyData.strOk nm = true) (d0 : D) (o2 o3 o5 o6 o7 o8 : Option D) :
  az kJ (ai (eFn (jF oN [false, false, false, false, true] (ah 1) (je (ay (kD false) (ah 0) (ah 5))) (ah 0))) (aE)) [some d0, some (.obj n), o2, o3, some (.str nm), o5, o6, o7, o8] G = .ok (.int (cnt names nm)) G := by
 have c1 := mG (τ := [some d0, some (.obj n), o2, o3, some (.str nm), o5, o6, o7, o8]) (G := G) (gO := oN) (ks := [false, false, false, false, true]) (tt := je (ay (kD false) (ah 0) (ah 5))) (te := ah 0) (own := fun x : Str => [.str x]) (dat := D.str) (f := D.str) (c := fun x => x == nm) hg (by omega) (fun x _ => rfl) (fun x hx acc => by
  have := sZ false x nm (G ++ [.lst acc]) (hns x hx) hnm
  simp! [mask, this]) (fun x hx acc => by simp! [mask]) (names.length + 1) 0 [] (by omega) (by omega) (by simp)
 rw [List.nil_append, List.drop_zero] at c1
 have hcl : aU ((names.filter fun x => x == nm).map D.str) = true := bx fun _ => bB
 unfold cnt
 generalize hF : (names.filter fun x => x == nm) = F at c1 hcl ⊢
 have ze : (names.map D.str).length = names.length := by simp
 have VI : F.length ≤ sizeLine := lz (by rw [← hF]; have := List.length_filter_le (fun x => x == nm) names; omega)
 generalize names.map D.str = Ns at hg ze
 simp! [hg, ze, c1, cX, ji hcl, VI]
end K21
end
section
set_option Elab.async false
set_option linter.all false
set_option maxRecDepth 100000
set_option maxHeartbeats 1000000
namespace K21
open PySem PySem.Spec L2 L3
theorem GK (i : Itm) (x : Int) : inR ⟨"", i.lo, i.hi⟩ x = inR i x := rfl
theorem wQ : ∀ (its : List Itm) (names : List Str), jx its (its.map fun _ => 0) names = its.all fun i => inR i (cnt names i.nm)
 | [], _ => rfl
 | i :: its, names => by rw [List.map_cons, jx, wQ its names, List.all_cons, Int.zero_add]
theorem Aw (names : List Str) (hns : ∀ nm ∈ names, PyData.strOk nm = true) (hl : names.length ≤ 900) (G : DH) (n : Nat) (hg : G[n]? = some (.lst (names.map .str))) (d0 : D) (o2 o3 o8 : Option D) :
  ∀ (its : List Itm), (∀ i ∈ its, PyData.strOk i.nm = true) → ∀ (o4 o5 o6 o7 : Option D), ∃ tF BP BQ Rz : Option D, bO (IG 4 5 6) j4 (its.map bT) [some d0, some (.obj n), o2, o3, o4, o5, o6, o7, o8] G =
   if (its.all fun i => inR i (cnt names i.nm)) = true then .nx [some d0, some (.obj n), o2, o3, tF, BP, BQ, Rz, o8] G else .rt (.bl false) G
 | [], hs, o4, o5, o6, o7 => ⟨o4, o5, o6, o7, by simp [bO]⟩
 | i :: its, hs, o4, o5, o6, o7 => by
  have ce := count_eq names hns hl G n hg i.nm (hs i (by simp)) d0 o2 o3 (some (.int i.lo)) (some (mX i.hi)) o7 o8
  have rt := rangeT i.lo (cnt names i.nm) i.hi G [some d0, some (.obj n), o2, o3, some (.str i.nm), some (.int i.lo), some (mX i.hi), some (.int (cnt names i.nm)), o8] rfl rfl rfl
  rw [GK] at rt
  obtain ⟨a4, a5, a6, a7, ih⟩ := Aw names hns hl G n hg d0 o2 o3 o8 its (fun j hj => hs j (by simp [hj])) (some (.str i.nm)) (some (.int i.lo)) (some (mX i.hi)) (some (.int (cnt names i.nm)))
  refine ⟨a4, a5, a6, a7, ?_⟩
  rw [List.map_cons, bO, List.all_cons]
  have step : j4 [some d0, some (.obj n), o2, o3, some (.str i.nm), some (.int i.lo), some (mX i.hi), o7, o8] G = if inR i (cnt names i.nm) = true then .nx [some d0, some (.obj n), o2, o3, some (.str i.nm), some (.int i.lo), some (mX i.hi), some (.int (cnt names i.nm)), o8] G else .rt (.bl false) G := by
   unfold j4
   rw [br, cC, ce, dU, bJ]
   simp only [List.set_cons_succ, List.set_cons_zero]
   rw [rZ, rt]
   cases inR i (cnt names i.nm) with
   | true => simp only [Bool.not_true, zy, jW, if_true]
   | false => simp only [Bool.not_false, zx, iD, rB, kM, Bool.false_eq_true, if_false]
  have gs : IG 4 5 6 (bT i) [some d0, some (.obj n), o2, o3, o4, o5, o6, o7, o8] = some [some d0, some (.obj n), o2, o3, some (.str i.nm), some (.int i.lo), some (mX i.hi), o7, o8] := rfl
  rw [gs]
  dsimp only
  rw [step]
  cases hb : inR i (cnt names i.nm) with
  | true =>
   rw [if_pos rfl, Bool.true_and]
   exact ih
  | false => rw [if_neg (by decide), Bool.false_and, if_neg (by decide)]
theorem Ja (a b : Str) (its : List Itm) (hil : its.length ≤ 100) (hs : ∀ i ∈ its, PyData.strOk i.nm = true) (names : List Str) (hns : ∀ nm ∈ names, PyData.strOk nm = true) (hl : names.length ≤ 900) (G : DH) (n : Nat) (hg : G[n]? = some (.lst (names.map .str))) :
  eG [bf a b true its, .obj n] G = .ok (.bl (known its names && jx its (its.map fun _ => 0) names)) G := by
 rw [wQ]
 unfold eG
 refine iZ ?_ gF
 have c1 := iE (τ := [some (bf a b true its), some (.obj n), some (.tup (its.map bT)), none, none, none, none, none, none]) (G := G) (gO := oN) (ks := []) (te := ay bQ (ah 0) (eC (.int 0))) (own := fun x => [x]) (f := fun d => match d with | .tup (x :: _) => x | _ => .cj) (its.map bT) [] (by simp; omega) (fun x _ => rfl) (fun y hy acc => by
  obtain ⟨i, hi, rfl⟩ := List.mem_map.mp hy
  unfold bT
  simp! [IW, mask])
 have e2 : (its.map bT).map (fun d => match d with | .tup (x :: _) => x | _ => D.cj) = (its.map (·.nm)).map .str := by
  rw [List.map_map, List.map_map]
  exact List.map_congr_left fun i _ => rfl
 rw [List.nil_append, e2] at c1
 have hcl : aU ((its.map (·.nm)).map D.str) = true := bx fun _ => bB
 obtain ⟨o4, kl⟩ := uV its hs names hns G n hg (bf a b true its) (.obj n) (.tup (its.map bT)) none none none none (names.length + 1) 0 none (by omega) (by omega)
 rw [List.drop_zero] at kl
 obtain ⟨a4, a5, a6, a7, ml⟩ := Aw names hns hl G n hg (bf a b true its) (some (.tup (its.map bT))) (some (.con ((its.map (·.nm)).map .str))) none its hs o4 none none none
 have ix : ∀ τ G, ay bQ (ah 0) (eC (.int 3)) (some (bf a b true its) :: τ) G = .ok (.tup (its.map bT)) G := by
  intro τ G
  unfold bf
  simp! [Ao]
 have tm : ∀ τ, je (ay (kD false) (ay bQ (ah 0) (eC (.int 2))) (eC (.str "mix"))) (some (bf a b true its) :: τ) G = .ok true G := by
  intro τ
  have := tE true G
  rw [if_pos rfl] at this
  unfold bf
  simp! [at2, this]
 have ze : (names.map D.str).length = names.length := by simp
 rw [jI]
 unfold iF sr sj sf
 simp only [List.map_cons, List.map_nil, List.length_cons, List.length_nil, List.cons_append, List.nil_append, List.replicate]
 rw [br, cC, ix, dU, bJ]
 simp only [List.set_cons_succ, List.set_cons_zero]
 rw [br, rZ, tm, zx, br, cC, cX, tw]
 simp only [cQ, List.getElem?_cons_succ, List.getElem?_cons_zero, fy, c1, ji hcl, dU, bJ, List.set_cons_succ, List.set_cons_zero]
 rw [br, jH]
 simp only [cQ, List.getElem?_cons_succ, List.getElem?_cons_zero, kN, hg, ze, kl]
 cases hk : known its names with
 | false =>
  simp only [Bool.false_eq_true, if_false, rY, jJ, Bool.false_and]
 | true =>
  simp only [if_true, bJ]
  rw [br, jH]
  simp only [cQ, List.getElem?_cons_succ, List.getElem?_cons_zero, kN, ml]
  cases hm : its.all fun i => inR i (cnt names i.nm) with
  | false => simp only [Bool.false_eq_true, if_false, rY, jJ, Bool.and_false]
  | true => simp only [if_true, bJ, iD, rB, kM, rY, jJ, Bool.and_true]
end K21
end
section
set_option Elab.async false
set_option linter.all false
set_option maxRecDepth 100000
set_option maxHeartbeats 1000000
namespace K21
open PySem PySem.Spec L2 L3
noncomputable def jR (nm : Str) : List Str → Nat
 | [] => 0
 | n :: t => if n = nm then jR nm t + 1 else 0
noncomputable def jb (nm : Str) : List Str → List Str
 | [] => []
 | n :: t => if n = nm then jb nm t else n :: t
theorem wR {nm : Str} : ∀ {names : List Str} {x : Str}, x ∈ jb nm names → x ∈ names
 | [], x, h => by simp [jb] at h
 | n :: t, x, h => by
  rw [jb] at h
  by_cases e : n = nm
  ·rw [if_pos e] at h; exact List.mem_cons_of_mem _ (wR h)
  ·rw [if_neg e] at h; exact h
theorem wU {nm : Str} : ∀ {names : List Str}, (jb nm names).length ≤ names.length
 | [] => by simp [jb]
 | n :: t => by
  rw [jb]
  have := wU (nm := nm) (names := t)
  by_cases e : n = nm
  ·rw [if_pos e]; simp; omega
  ·rw [if_neg e]; simp
theorem Ax (i : Itm) (f : List Str → Bool) : ∀ (names : List Str) (y : Int), oE i f y names = (inR i (y + (jR i.nm names : Nat)) && f (jb i.nm names))
 | [], y => by simp [oE, jR, jb]
 | n :: t, y => by
  rw [oE, jR, jb]
  by_cases e : n = i.nm
  ·rw [if_pos e, if_pos e, if_pos e, Ax i f t (y + 1)]
   congr 2
   omega
  ·rw [if_neg e, if_neg e, if_neg e]; simp
theorem JP (nm : Str) (hnm : PyData.strOk nm = true) (A : DH) (d0 d1 d2 : D) (o3 o5 o6 : Option D) : ∀ (names : List Str) (y : Int) (fu : Nat), names.length < fu → names.length ≤ 900 → (∀ n ∈ names, PyData.strOk n = true) →
  gZ (kI (je (ay EI (az kJ (ai (ah 8) (aE))) (eC (.int 0)))) (je (ay (kD false) (ay bQ (ah 8) (eC (.int 0))) (ah 4)))) j5 fu [some d0, some d1, some d2, o3, some (.str nm), o5, o6, some (.int y), some (.obj A.length)] (A ++ [.lst (names.map .str)]) =
   .nx [some d0, some d1, some d2, o3, some (.str nm), o5, o6, some (.int (y + (jR nm names : Nat))), some (.obj A.length)] (A ++ [.lst ((jb nm names).map .str)])
 | names, y, 0, hf, _, _ => by omega
 | [], y, fu + 1, hf, hl, hs => by
  rw [qj]
  simp! [vg, jR, jb]
 | n :: t, y, fu + 1, hf, hl, hs => by
  have hz : t.length + 1 ≤ sizeLine := lz (by simp at hl; omega)
  have hi : ((t.length : Int) + 1) > 0 := by omega
  have a0 : fY (D.str n :: t.map D.str) 0 = some (.str n) := dH (j := 0) rfl
  have de := sZ false n nm (A ++ [.lst (.str n :: t.map D.str)]) (hs n (by simp)) hnm
  rw [qj, List.map_cons, jR, jb]
  by_cases e : n = nm
  ·have hb : (n == nm) = true := by simpa using e
   rw [hb] at de
   rw [if_pos e, if_pos e]
   have ct : kI (je (ay EI (az kJ (ai (ah 8) (aE))) (eC (.int 0)))) (je (ay (kD false) (ay bQ (ah 8) (eC (.int 0))) (ah 4))) [some d0, some d1, some d2, o3, some (.str nm), o5, o6, some (.int y), some (.obj A.length)] (A ++ [.lst (.str n :: t.map .str)]) = .ok true (A ++ [.lst (.str n :: t.map .str)]) := by
    simp! [vg, hz, hi, a0, de]
   have bd : j5 [some d0, some d1, some d2, o3, some (.str nm), o5, o6, some (.int y), some (.obj A.length)] (A ++ [.lst (.str n :: t.map .str)]) = .nx [some d0, some d1, some d2, o3, some (.str nm), o5, o6, some (.int (y + 1)), some (.obj A.length)] (A ++ [.lst (t.map .str)]) := by
    unfold j5
    simp! [vg, G5, uz]
   rw [ct, zx, Fy, bd, ud, JP nm hnm A d0 d1 d2 o3 o5 o6 t (y + 1) fu (by simp at hf; omega) (by simp at hl; omega) (fun x hx => hs x (by simp [hx]))]
   rw [show y + 1 + (jR nm t : Int) = y + ((jR nm t + 1 : Nat) : Int) by omega]
  ·have hb : (n == nm) = false := by simpa using e
   rw [hb] at de
   rw [if_neg e, if_neg e]
   have ct : kI (je (ay EI (az kJ (ai (ah 8) (aE))) (eC (.int 0)))) (je (ay (kD false) (ay bQ (ah 8) (eC (.int 0))) (ah 4))) [some d0, some d1, some d2, o3, some (.str nm), o5, o6, some (.int y), some (.obj A.length)] (A ++ [.lst (.str n :: t.map .str)]) = .ok false (A ++ [.lst (.str n :: t.map .str)]) := by
    simp! [vg, hz, hi, a0, de]
   rw [ct, zy, jW]
   simp
theorem Ay (A : DH) (d0 d1 d2 : D) (o3 : Option D) : ∀ (its : List Itm), (∀ i ∈ its, PyData.strOk i.nm = true) → ∀ (names : List Str), names.length ≤ 900 → (∀ n ∈ names, PyData.strOk n = true) → ∀ (o4 o5 o6 o7 : Option D),
  (∃ (rest : List Str) (tF BP BQ Rz : Option D), rest.length ≤ 900 ∧ (∀ n ∈ rest, PyData.strOk n = true) ∧ fJ its names = rest.isEmpty ∧ bO (IG 4 5 6) gJ (its.map bT) [some d0, some d1, some d2, o3, o4, o5, o6, o7, some (.obj A.length)] (A ++ [.lst (names.map .str)]) = .nx [some d0, some d1, some d2, o3, tF, BP, BQ, Rz, some (.obj A.length)] (A ++ [.lst (rest.map .str)])) ∨
  (∃ B : DH, fJ its names = false ∧ bO (IG 4 5 6) gJ (its.map bT) [some d0, some d1, some d2, o3, o4, o5, o6, o7, some (.obj A.length)] (A ++ [.lst (names.map .str)]) = .rt (.bl false) (A ++ B))
 | [], hs, names, hl, hns, o4, o5, o6, o7 => .inl ⟨names, o4, o5, o6, o7, hl, hns, rfl, by simp [bO]⟩
 | i :: its, hs, names, hl, hns, o4, o5, o6, o7 => by
  have w := JP i.nm (hs i (by simp)) A d0 d1 d2 o3 (some (.int i.lo)) (some (mX i.hi)) names 0 fuel (by show names.length < 100000; omega) hl hns
  rw [Int.zero_add] at w
  have rt := rangeT i.lo (jR i.nm names : Nat) i.hi (A ++ [.lst ((jb i.nm names).map .str)]) [some d0, some d1, some d2, o3, some (.str i.nm), some (.int i.lo), some (mX i.hi), some (.int (jR i.nm names : Nat)), some (.obj A.length)] rfl rfl rfl
  rw [GK] at rt
  have step : gJ [some d0, some d1, some d2, o3, some (.str i.nm), some (.int i.lo), some (mX i.hi), o7, some (.obj A.length)] (A ++ [.lst (names.map .str)]) = if inR i (jR i.nm names : Nat) = true then .nx [some d0, some d1, some d2, o3, some (.str i.nm), some (.int i.lo), some (mX i.hi), some (.int (jR i.nm names : Nat)), some (.obj A.length)] (A ++ [.lst ((jb i.nm names).map .str)]) else .rt (.bl false) (A ++ [.lst ((jb i.nm names).map .str)]) := by
   unfold gJ
   rw [br, cC, rB, dU, bJ]
   simp only [List.set_cons_succ, List.set_cons_zero]
   rw [br, w, bJ, rZ, rt]
   cases inR i (jR i.nm names : Nat) with
   | true => simp only [Bool.not_true, zy, jW, if_true]
   | false => simp only [Bool.not_false, zx, iD, rB, kM, Bool.false_eq_true, if_false]
  have gs : IG 4 5 6 (bT i) [some d0, some d1, some d2, o3, o4, o5, o6, o7, some (.obj A.length)] = some [some d0, some d1, some d2, o3, some (.str i.nm), some (.int i.lo), some (mX i.hi), o7, some (.obj A.length)] := rfl
  rw [List.map_cons, fJ, Ax, Int.zero_add]
  rw [bO, gs]
  dsimp only
  rw [step]
  cases hb : inR i (jR i.nm names : Nat) with
  | false =>
   rw [if_neg (by decide)]
   exact .inr ⟨_, by simp, rfl⟩
  | true =>
   rw [if_pos rfl, Bool.true_and]
   exact Ay A d0 d1 d2 o3 its (fun j hj => hs j (by simp [hj])) (jb i.nm names) (Nat.le_trans wU hl) (fun x hx => hns x (wR hx)) _ _ _ _
theorem Jb (G : DH) (k : Nat) (rest : List Str) (hk : G[k]? = some (.lst (rest.map .str))) (h : ∀ n ∈ rest, PyData.strOk n = true) : kD false (.obj k) (.con []) G = .ok (.bl rest.isEmpty) G := by
 cases rest with
 | nil => exact Iw false [] k G hk rfl (by simp [AB])
 | cons n t =>
  have hp : gq ((n :: t).map D.str) = true := rH (by
   intro x hx
   obtain ⟨w, hw, rfl⟩ := List.mem_map.mp hx
   rw [D.plain]; exact h w hw)
  have R6 : AB ((n :: t).map D.str) ≤ 0 := Bj (by
   intro x hx
   obtain ⟨w, hw, rfl⟩ := List.mem_map.mp hx
   simp [D.dp])
  have e1 : kF G deep (.obj k) = some (D.con ((n :: t).map D.str)).pd := by
   show (match G[k]? with
    | some (.lst ds) => (bR (kF G 599) ds).map PyData.list
    | _ => none) = _
   rw [hk]
   dsimp only
   rw [nX G _ 599 hp (by omega), D.pd]; rfl
  have AA : (D.con ((n :: t).map D.str)).plain = true := by rw [D.plain]; exact hp
  have hd1 := wB (.con ((n :: t).map D.str))
  have hd2 : (D.con ((n :: t).map D.str)).dp ≤ 1 := by rw [D.dp]; omega
  have e2 : kF G deep (.con []) = some (D.con []).pd := uo G (.con []) deep rfl (by show (D.con []).dp < 600; simp [D.dp, AB])
  have ev : PyData.eqv (D.con ((n :: t).map D.str)).pd (D.con []).pd = false := by simp [D.pd, zN, PyData.eqv, PyData.eqvAll]
  have VJ := wB (.con [])
  have Wg : (D.con []).dp = 1 := by simp [D.dp, AB]
  have l1 := lay_of _ AA
  have l2 := lay_of (.con []) rfl
  generalize (D.con ((n :: t).map D.str)).pd = p1 at e1 ev l1 hd1
  generalize (D.con []).pd = p2 at e2 ev l2 VJ
  generalize (D.con ((n :: t).map D.str)).dp = q1 at hd1 hd2
  unfold kD yY
  rw [e1, e2]
  dsimp only
  rw [if_pos (by rw [l1, l2]; simp; omega), ev]
  rfl
theorem Jc (a b : Str) (its : List Itm) (hs : ∀ i ∈ its, PyData.strOk i.nm = true) (names : List Str) (hns : ∀ nm ∈ names, PyData.strOk nm = true) (hl : names.length ≤ 900) (G : DH) (n : Nat) (hg : G[n]? = some (.lst (names.map .str))) :
  eG [bf a b false its, .obj n] G = .ok (.bl (fJ its names)) G := by
 unfold eG
 have ix : ∀ τ G, ay bQ (ah 0) (eC (.int 3)) (some (bf a b false its) :: τ) G = .ok (.tup (its.map bT)) G := by
  intro τ G
  unfold bf
  simp! [Ao]
 have tm : ∀ τ, je (ay (kD false) (ay bQ (ah 0) (eC (.int 2))) (eC (.str "mix"))) (some (bf a b false its) :: τ) G = .ok false G := by
  intro τ
  have := tE false G
  rw [if_neg (by decide)] at this
  unfold bf
  simp! [at2, this]
 have hz : (names.map D.str).length ≤ sizeLine := lz (by simp; omega)
 have ls : ∀ τ, az lJ (ai (ah 1) aE) (some (bf a b false its) :: some (.obj n) :: τ) G = .ok (.obj G.length) (G ++ [.lst (names.map .str)]) := by
  intro τ
  generalize names.map D.str = Ns at hg hz ⊢
  simp only [iP, jo, jh, cQ, List.getElem?_cons_succ, List.getElem?_cons_zero, fy, aI, nu, lJ, aD, hg, bU, if_pos hz]
 have pre : ∀ r, (bO (IG 4 5 6) gJ (its.map bT) [some (bf a b false its), some (.obj n), some (.tup (its.map bT)), none, none, none, none, none, some (.obj G.length)] (G ++ [.lst (names.map .str)])).sq (gb (ay (kD false) (ah 8) (eFn (az bU (aE))))) = r → fq 9 iF [bf a b false its, .obj n] G = r.fn := by
  intro r hr
  rw [jI]
  unfold iF
  simp only [List.map_cons, List.map_nil, List.length_cons, List.length_nil, List.cons_append, List.nil_append, List.replicate]
  rw [br, cC, ix, dU, bJ]
  simp only [List.set_cons_succ, List.set_cons_zero]
  rw [br, rZ, tm, zy, jW, bJ, br, cC, ls, dU, bJ]
  simp only [List.set_cons_succ, List.set_cons_zero]
  rw [br, jH]
  simp only [cQ, List.getElem?_cons_succ, List.getElem?_cons_zero, kN]
  rw [hr]
 rcases Ay G (bf a b false its) (.obj n) (.tup (its.map bT)) none its hs names hl hns none none none none with ⟨rest, o4, o5, o6, o7, hrl, hrs, hd, hf⟩ | ⟨B, hd, hf⟩
 ·refine jY (R := [.lst (rest.map .str)]) ?_ gF
  rw [pre (.rt (.bl (fJ its names)) (G ++ [.lst (rest.map .str)])) ?_, jJ]
  have de := Jb (G ++ [.lst (rest.map .str)]) G.length rest (by rw [vg]) hrs
  rw [hf, bJ, iD, qh]
  simp only [cQ, List.getElem?_cons_succ, List.getElem?_cons_zero, fy, aI, cX, iP, jh, nu]
  rw [g6 (Nat.zero_le _) rfl]
  simp only [fy, de, kM, hd]
 ·refine jY (R := B) ?_ gF
  rw [pre (.rt (.bl (fJ its names)) (G ++ B)) (by rw [hf, hd, rY]), jJ]
end K21
end
section
set_option Elab.async false
set_option linter.all false
set_option maxRecDepth 100000
set_option maxHeartbeats 1000000
namespace K21
open PySem PySem.Spec L2 L3
theorem LQ (a b : Str) (mix : Bool) (its : List Itm) (W : WF its) (hil : its.length ≤ 100) (hs : ∀ i ∈ its, PyData.strOk i.nm = true) (names : List Str) (hns : ∀ nm ∈ names, PyData.strOk nm = true) (hl : names.length ≤ 900) (G : DH) (n : Nat) (hg : G[n]? = some (.lst (names.map .str))) :
  eG [bf a b mix its, .obj n] G = .ok (.bl (accept mix its names)) G := by
 cases mix with
 | true => rw [Ja a b its hil hs names hns hl G n hg, BO its W]
 | false => rw [Jc a b its hs names hns hl G n hg, BN its W]
theorem D6 (ns pre : List Int) (G : DH) (k : Nat) (m : Int) (c : Option D) (hl : ns.length ≤ 63) (hp : pre.length ≤ 1000) :
  ∃ (x : Int) (c' : Option D), gf [some (.con (ns.map .int)), some (.int m), some (.obj G.length), some (.int (0 + (k : Int))), c] (G ++ [.lst (pre.map .int)]) =
   .nx [some (.con (ns.map .int)), some (.int m), some (.obj G.length), some (.int (0 + (k : Int))), c'] (G ++ [.lst ((pre ++ [x]).map .int)]) := by
 have Ph : pre.length < sizeLine := Nat.lt_of_lt_of_le (by omega) (lz (n := 2000) (by omega))
 by_cases h0 : 0 < ns.length
 ·have hm : (0 : Int) ≤ (k : Int) % (ns.length : Int) ∧ (k : Int) % (ns.length : Int) < ns.length := ⟨Int.emod_nonneg _ (by omega), Int.emod_lt_of_pos _ (by omega)⟩
  obtain ⟨d, ed, OF⟩ := zw (xs := ns.map D.int) (i := (k : Int) % (ns.length : Int)) hm.1 (by simpa using hm.2)
  obtain ⟨v, ev⟩ : ∃ v, d = .int v := by
   have := List.mem_of_getElem? OF
   simp at this
   obtain ⟨v, _, rfl⟩ := this
   exact ⟨v, rfl⟩
  subst ev
  have VL : (if 1 < ns.length then (ns.length : Int) else 1) = ns.length := by split <;> omega
  have hlt : ns.length < 1073741824 := by omega
  have RA : (if (1 : Int) < (ns.length : Int) then (ns.length : Int) else 1) = ns.length := by split <;> omega
  have RB : (ns.length : Int) < 1073741824 := by omega
  have VM : (0 : Int) < (ns.length : Int) := by omega
  refine ⟨v % 1000000000000000000 + 7919 * ((k : Int) / (ns.length : Int)), some (.int (v % 1000000000000000000)), ?_⟩
  simp! [gf, h0, ed, VL, hlt, Ph, RA, RB, VM, vg, G5]
 ·have h1 : ns = [] := by
   cases ns with
   | nil => rfl
   | cons a r => exact absurd (by simp) h0
  subst h1
  refine ⟨0 + 7919 * ((k : Int) / 1), some (.int 0), ?_⟩
  simp! [gf, Ph, vg, G5]
theorem uW (ns : List Int) (G : DH) (mm : Int) (hl : ns.length ≤ 63) : ∀ (m j : Nat) (pre : List Int) (a3 a4 : Option D), pre.length + m ≤ 1000 →
  ∃ (ds : List Int) (b3 b4 : Option D), ds.length = m ∧ bO (gN 3) gf ((List.range' j m).map fun (k : Nat) => .int (0 + (k : Int))) [some (.con (ns.map .int)), some (.int mm), some (.obj G.length), a3, a4] (G ++ [.lst (pre.map .int)]) =
   .nx [some (.con (ns.map .int)), some (.int mm), some (.obj G.length), b3, b4] (G ++ [.lst ((pre ++ ds).map .int)])
 | 0, j, pre, a3, a4, h => ⟨[], a3, a4, rfl, by simp [bO]⟩
 | m + 1, j, pre, a3, a4, h => by
  obtain ⟨x, c', e⟩ := D6 ns pre G j mm a4 hl (by omega)
  obtain ⟨ds, b3, b4, hd, ih⟩ := uW ns G mm hl m (j + 1) (pre ++ [x]) (some (.int (0 + (j : Int)))) c' (by simp; omega)
  refine ⟨x :: ds, b3, b4, by simp [hd], ?_⟩
  rw [List.range'_succ, List.map_cons, nW rfl]
  simp only [List.set_cons_succ, List.set_cons_zero, e, ud]
  rw [ih]
  simp
theorem GL (ns : List Int) (m : Nat) (hm : m ≤ 900) (hl : ns.length ≤ 63) (G : DH) : ∃ ds : List Int, ds.length = m ∧ eF [.con (ns.map .int), .int m] G = .ok (.con (ds.map .int)) G := by
 obtain ⟨ds, b3, b4, hd, e⟩ := uW ns G m hl m 0 [] none none (by simp; omega)
 refine ⟨ds, hd, ?_⟩
 have hr := xO (j := (m : Int)) (by omega) (by omega)
 rw [Int.toNat_natCast] at hr
 unfold eF
 refine jY (R := [.dead]) ?_ (by rw [jL]; exact bx fun _ => eE)
 generalize ((List.range' 0 m).map fun (k : Nat) => D.int (0 + (k : Int))) = its at hr e
 simp only [List.map_nil, List.nil_append] at e
 simp! [jq, hr, e, FT, bU]
noncomputable def lets : Str := "abcdefghijklmnopqrstuvwxyz"
theorem CQ (i : Int) (G : DH) : ∃ s, bQ (.str lets) (.int (i % 26)) G = .ok (.str s) G ∧ PyData.strOk s = true ∧ s.length = 1 :=
 Lf lets (i % 26) G (by omega) (by show i % 26 < ((26 : Nat) : Int); omega) (by decide +kernel) (by decide +kernel)
theorem wV (c : Int) (G : DH) : ∀ (m j : Nat) (t : Str) (a3 a4 a5 : Option D), j + m ≤ 7 → PyData.strOk t = true → t.length ≤ j + 1 →
  ∃ (u : Str) (b3 b4 : Option D), PyData.strOk u = true ∧ u.length ≤ j + m + 1 ∧ bO (gN 3) g7 ((List.range' j m).map fun (k : Nat) => .int (0 + (k : Int))) [some (.int c), some (.str lets), some (.str t), a3, a4, a5] G = .nx [some (.int c), some (.str lets), some (.str u), b3, b4, a5] G
 | 0, j, t, a3, a4, a5, h, k1, k2 => ⟨t, a3, a4, k1, by omega, by simp [bO]⟩
 | m + 1, j, t, a3, a4, a5, h, k1, k2 => by
  obtain ⟨s, es, ks, ls⟩ := CQ (c / 208 + 7 * (j : Int) * (j : Int) + c / 5408 % 26 * (j : Int)) G
  have hz : t.length + s.length ≤ sizeLine := lz (by omega)
  have hz2 : t.length + 1 ≤ sizeLine := lz (by omega)
  have hjl : -18446744073709551616 < (j : Int) := by omega
  have VN : (j : Int) < 18446744073709551616 := by omega
  have e : g7 [some (.int c), some (.str lets), some (.str t), some (.int (0 + (j : Int))), a4, a5] G = .nx [some (.int c), some (.str lets), some (.str (t ++ s)), some (.int (0 + (j : Int))), some (.int (c / 208 + 7 * (j : Int) * (j : Int) + c / 5408 % 26 * (j : Int))), a5] G := by
   simp [g7, br, cC, qh, cQ, rB, fy, aI, iX, nu, aL, dU, bJ, es, hz, hz2, ls, hjl, VN]
  obtain ⟨u, b3, b4, ku, lu, ih⟩ := wV c G m (j + 1) (t ++ s) (some (.int (0 + (j : Int)))) (some (.int (c / 208 + 7 * (j : Int) * (j : Int) + c / 5408 % 26 * (j : Int)))) a5 (by omega) (good_add k1 ks) (by rw [tu]; omega)
  refine ⟨u, b3, b4, ku, by omega, ?_⟩
  rw [List.range'_succ, List.map_cons, nW rfl]
  simp only [List.set_cons_succ, List.set_cons_zero, e, ud]
  rw [ih]
theorem yI (c : Int) (G : DH) : ∃ t : Str, PyData.strOk t = true ∧ t.length ≤ 9 ∧ cE [.int c] G = .ok (.str t) G := by
 obtain ⟨s, es, ks, ls⟩ := CQ c G
 obtain ⟨u, b3, b4, ku, lu, e⟩ := wV c G (c / 26 % 8).toNat 0 s none none none (by omega) ks (by omega)
 have hr := xO (j := c / 26 % 8) (by omega) (by omega)
 generalize ((List.range' 0 (c / 26 % 8).toNat).map fun (k : Nat) => D.int (0 + (k : Int))) = its at hr e
 have hz : u.length + ("z" : Str).length ≤ sizeLine := by
  have : ("z" : Str).length = 1 := by decide +kernel
  exact lz (by omega)
 have hin := uc u ["start", "rule", "row", "mix", "many", "any", "kind", "not", "both", "either", "way", "mark"] G ku (by decide +kernel)
 have hcl : aU [D.str "start", .str "rule", .str "row", .str "mix", .str "many", .str "any", .str "kind", .str "not", .str "both", .str "either", .str "way", .str "mark"] = true := by simp [cu, cY, bB]
 have hfw := g6 (G := G) (ds := [D.str "start", .str "rule", .str "row", .str "mix", .str "many", .str "any", .str "kind", .str "not", .str "both", .str "either", .str "way", .str "mark"]) (lz (by simp)) hcl
 generalize (["start", "rule", "row", "mix", "many", "any", "kind", "not", "both", "either", "way", "mark"] : List Str).any (· == u) = bb at hin
 simp only [List.map_cons, List.map_nil] at hin
 have es' : bQ (.str "abcdefghijklmnopqrstuvwxyz") (.int (c % 26)) G = .ok (.str s) G := es
 have e' : bO (gN 3) g7 its [some (.int c), some (.str "abcdefghijklmnopqrstuvwxyz"), some (.str s), none, none, none] G = .nx [some (.int c), some (.str "abcdefghijklmnopqrstuvwxyz"), some (.str u), b3, b4, none] G := e
 have hz1 : PyData.strOk ("z" : Str) = true := by decide +kernel
 have Ry : ("z" : Str).length = 1 := by decide +kernel
 cases bb with
 | true =>
  refine ⟨u ++ "z", good_add ku hz1, by rw [tu]; omega, ?_⟩
  unfold cE
  refine iZ ?_ bB
  simp [i7, jI, br, cC, qh, cQ, rB, fy, aI, iX, nu, aL, dU, bJ, es', nU, jo, jh, kN, hr, e', lQ, cX, iP, hfw, rZ, Ck, AS, aD, hin, xQ, zx, zy, iD, hz, kM, rY, jJ, jW]
 | false =>
  refine ⟨u, ku, by omega, ?_⟩
  unfold cE
  refine iZ ?_ bB
  simp [i7, jI, br, cC, qh, cQ, rB, fy, aI, iX, nu, aL, dU, bJ, es', nU, jo, jh, kN, hr, e', lQ, cX, iP, hfw, rZ, Ck, AS, aD, hin, xQ, zx, zy, iD, hz, kM, rY, jJ, jW]
end K21
end
section
set_option Elab.async false
set_option linter.all false
set_option maxRecDepth 100000
set_option maxHeartbeats 1000000
namespace K21
open PySem PySem.Spec L2 L3
theorem dX (ds : List Int) (k : Nat) (h : k < ds.length) : ∃ v, fY (ds.map D.int) (k : Int) = some (.int v) := by
 refine ⟨ds[k], wH ?_⟩
 rw [List.getElem?_map, List.getElem?_eq_getElem h]; rfl
noncomputable def BR (lo : Int) (w : Int) : Option Int := if w = 0 then none else if w = 1 then some lo else if w = 2 then some 2 else some (lo + (2 - lo) / 2)
theorem VO (lo w : Int) (h0 : 0 ≤ w) (h4 : w < 4) : fY [D.cj, .int lo, .int 2, .int (lo + (2 - lo) / 2)] w = some (mX (BR lo w)) := by
 have : w = 0 ∨ w = 1 ∨ w = 2 ∨ w = 3 := by omega
 rcases this with rfl | rfl | rfl | rfl
 ·exact dH (j := 0) rfl
 ·exact dH (j := 1) rfl
 ·exact dH (j := 2) rfl
 ·exact dH (j := 3) rfl
theorem D7 (ds : List Int) (hd : ds.length = 24) (p0 p1 p2 : Str) (pre : List Itm) (hp : pre.length ≤ 10) (k : Nat) (hk : k < 4) (s4 : Int) (h4 : fY (ds.map D.int) 4 = some (.int s4)) (G : DH) (o4 o5 o6 : Option D) :
  ∃ (lo : Int) (hi : Option Int) (tF BP BQ : Option D), 0 ≤ lo ∧ (∀ h, hi = some h → lo ≤ h ∧ h ≤ 2) ∧ lo ≤ 2 ∧
   iQ [some (.con (ds.map .int)), some (.con [.str p0, .str p1, .str p2]), some (.obj G.length), some (.int (0 + (k : Int))), o4, o5, o6] (G ++ [.lst (pre.map bT)]) =
   .nx [some (.con (ds.map .int)), some (.con [.str p0, .str p1, .str p2]), some (.obj G.length), some (.int (0 + (k : Int))), tF, BP, BQ] (G ++ [.lst ((pre ++ [Itm.mk ([p0, p1, p2].getD ((s4 + (k : Int)) % 3).toNat "") lo hi]).map bT)]) := by
 obtain ⟨v, hv⟩ := dX ds (1 + k) (by omega)
 have hv' : fY (ds.map D.int) (1 + (0 + (k : Int))) = some (.int v) := by
  rw [show (1 + (0 + (k : Int))) = ((1 + k : Nat) : Int) by omega]; exact hv
 have a4 := VO (v % 3) (v / 3 % 4) (by omega) (by omega)
 have Ph : pre.length < sizeLine := Nat.lt_of_lt_of_le (by omega) (lz (n := 100) (by omega))
 have hp3 : fY [D.str p0, .str p1, .str p2] ((s4 + (0 + (k : Int))) % 3) = some (.str ([p0, p1, p2].getD ((s4 + (k : Int)) % 3).toNat "")) := by
  rw [Int.zero_add]
  have : (s4 + (k : Int)) % 3 = 0 ∨ (s4 + (k : Int)) % 3 = 1 ∨ (s4 + (k : Int)) % 3 = 2 := by omega
  rcases this with e | e | e <;> rw [e]
  ·exact dH (j := 0) rfl
  ·exact dH (j := 1) rfl
  ·exact dH (j := 2) rfl
 have hcl : aU [D.cj, .int (v % 3), .int 2, .int (v % 3 + (2 - v % 3) / 2)] = true := by simp [cu, cY, eE, lM]
 have hfw := g6 (G := G ++ [.lst (pre.map bT)]) (ds := [D.cj, .int (v % 3), .int 2, .int (v % 3 + (2 - v % 3) / 2)]) (lz (by simp)) hcl
 have h3 : (3 : Nat) ≤ sizeLine := lz (by omega)
 refine ⟨v % 3, BR (v % 3) (v / 3 % 4), some (.int v), some (.int (v % 3)), some (mX (BR (v % 3) (v / 3 % 4))), by omega, ?_, by omega, ?_⟩
 ·intro h e
  unfold BR at e
  split at e
  ·cases e
  ·split at e
   ·cases e; omega
   ·split at e <;> (cases e; omega)
 ·generalize [p0, p1, p2].getD ((s4 + (k : Int)) % 3).toNat "" = nm at hp3 ⊢
  have hlen : (pre.map bT).length < sizeLine := by simpa using Ph
  rw [List.map_append, List.map_cons, List.map_nil]
  have e1 : bT ⟨nm, v % 3, BR (v % 3) (v / 3 % 4)⟩ = .tup [.str nm, .int (v % 3), mX (BR (v % 3) (v / 3 % 4))] := rfl
  rw [e1]
  generalize pre.map bT = Pre at hfw hlen ⊢
  generalize mX (BR (v % 3) (v / 3 % 4)) = Hi at a4 ⊢
  generalize ds.map D.int = Ds at hv' h4 ⊢
  unfold iQ
  rw [Int.zero_add] at hv' hp3 ⊢
  simp! [hv', h4, cX, hfw, a4, hp3, h3, hlen, vg, G5]
noncomputable def Jd (p0 p1 p2 : Str) (s4 : Int) (k : Nat) : Str := [p0, p1, p2].getD ((s4 + (k : Int)) % 3).toNat ""
theorem uX (ds : List Int) (hd : ds.length = 24) (p0 p1 p2 : Str) (s4 : Int) (h4 : fY (ds.map D.int) 4 = some (.int s4)) (G : DH) : ∀ (m j : Nat) (pre : List Itm) (o3 o4 o5 o6 : Option D), j + m ≤ 3 → pre.length + m ≤ 10 →
  ∃ (its : List Itm) (OG tF BP BQ : Option D), its.map (·.nm) = (List.range' j m).map (Jd p0 p1 p2 s4) ∧ (∀ i ∈ its, 0 ≤ i.lo ∧ i.lo ≤ 2 ∧ ∀ h, i.hi = some h → i.lo ≤ h ∧ h ≤ 2) ∧
   bO (gN 3) iQ ((List.range' j m).map fun (k : Nat) => .int (0 + (k : Int))) [some (.con (ds.map .int)), some (.con [.str p0, .str p1, .str p2]), some (.obj G.length), o3, o4, o5, o6] (G ++ [.lst (pre.map bT)]) =
   .nx [some (.con (ds.map .int)), some (.con [.str p0, .str p1, .str p2]), some (.obj G.length), OG, tF, BP, BQ] (G ++ [.lst ((pre ++ its).map bT)])
 | 0, j, pre, o3, o4, o5, o6, h1, h2 => ⟨[], o3, o4, o5, o6, rfl, by simp, by simp [bO]⟩
 | m + 1, j, pre, o3, o4, o5, o6, h1, h2 => by
  obtain ⟨lo, hi, a4, a5, a6, k1, k2, k3, e⟩ := D7 ds hd p0 p1 p2 pre (by omega) j (by omega) s4 h4 G o4 o5 o6
  obtain ⟨its, OG, tF, BP, BQ, g1, g2, ih⟩ := uX ds hd p0 p1 p2 s4 h4 G m (j + 1) (pre ++ [Itm.mk ([p0, p1, p2].getD ((s4 + (j : Int)) % 3).toNat "") lo hi]) (some (.int (0 + (j : Int)))) a4 a5 a6 (by omega) (by simp; omega)
  refine ⟨Itm.mk ([p0, p1, p2].getD ((s4 + (j : Int)) % 3).toNat "") lo hi :: its, OG, tF, BP, BQ, ?_, ?_, ?_⟩
  ·rw [List.range'_succ, List.map_cons, List.map_cons, g1]; rfl
  ·intro i hi'
   rcases List.mem_cons.mp hi' with rfl | hi'
   ·exact ⟨k1, k3, k2⟩
   ·exact g2 i hi'
  ·rw [List.range'_succ, List.map_cons, nW rfl]
   simp only [List.set_cons_succ, List.set_cons_zero, e, ud]
   rw [ih]
   simp
theorem GN (p0 p1 p2 : Str) (h01 : p0 ≠ p1) (h02 : p0 ≠ p2) (h12 : p1 ≠ p2) (s4 : Int) (m : Nat) (hm : m ≤ 3) : ((List.range' 0 m).map (Jd p0 p1 p2 s4)).Nodup := by
 have full : ((List.range' 0 3).map (Jd p0 p1 p2 s4)).Nodup := by
  have : s4 % 3 = 0 ∨ s4 % 3 = 1 ∨ s4 % 3 = 2 := by omega
  have l3 : List.range' 0 3 = [0, 1, 2] := rfl
  rw [l3]
  rcases this with e | e | e
  ·have e0 : ((s4 + ((0 : Nat) : Int)) % 3).toNat = 0 := by omega
   have e1 : ((s4 + ((1 : Nat) : Int)) % 3).toNat = 1 := by omega
   have e2 : ((s4 + ((2 : Nat) : Int)) % 3).toNat = 2 := by omega
   simp only [List.map_cons, List.map_nil, Jd, e0, e1, e2]
   simp [h01, h02, h12]
  ·have e0 : ((s4 + ((0 : Nat) : Int)) % 3).toNat = 1 := by omega
   have e1 : ((s4 + ((1 : Nat) : Int)) % 3).toNat = 2 := by omega
   have e2 : ((s4 + ((2 : Nat) : Int)) % 3).toNat = 0 := by omega
   simp only [List.map_cons, List.map_nil, Jd, e0, e1, e2]
   simp [h01.symm, h02.symm, h12]
  ·have e0 : ((s4 + ((0 : Nat) : Int)) % 3).toNat = 2 := by omega
   have e1 : ((s4 + ((1 : Nat) : Int)) % 3).toNat = 0 := by omega
   have e2 : ((s4 + ((2 : Nat) : Int)) % 3).toNat = 1 := by omega
   simp only [List.map_cons, List.map_nil, Jd, e0, e1, e2]
   simp [h01, h02.symm, h12.symm]
 have sub : List.Sublist ((List.range' 0 m).map (Jd p0 p1 p2 s4)) ((List.range' 0 3).map (Jd p0 p1 p2 s4)) := by
  apply List.Sublist.map
  have : m = 0 ∨ m = 1 ∨ m = 2 ∨ m = 3 := by omega
  rcases this with rfl | rfl | rfl | rfl <;> decide
 exact sub.nodup full
theorem GO (ds : List Int) (hd : ds.length = 24) (p0 p1 p2 : Str) (h01 : p0 ≠ p1) (h02 : p0 ≠ p2) (h12 : p1 ≠ p2) (k0 : PyData.strOk p0 = true) (k1 : PyData.strOk p1 = true) (k2 : PyData.strOk p2 = true) (G : DH) :
  ∃ its : List Itm, its.length ≤ 3 ∧ WF its ∧ (∀ i ∈ its, PyData.strOk i.nm = true ∧ i.lo ≤ 2 ∧ ∀ h, i.hi = some h → h ≤ 2) ∧ fO [.con (ds.map .int), .con [.str p0, .str p1, .str p2]] G = .ok (.tup (its.map bT)) G := by
 obtain ⟨s4, h4⟩ := dX ds 4 (by omega)
 obtain ⟨s0, h0⟩ := dX ds 0 (by omega)
 have hm : (s0 % 4).toNat ≤ 3 := by omega
 obtain ⟨its, o3, o4, o5, o6, g1, g2, e⟩ := uX ds hd p0 p1 p2 s4 h4 G (s0 % 4).toNat 0 [] none none none none (by omega) (by simp; omega)
 have hl : its.length ≤ 3 := by
  have := congrArg List.length g1
  simp at this; omega
 have hr := xO (j := s0 % 4) (by omega) (by omega)
 refine ⟨its, hl, ⟨?_, fun i hi => (g2 i hi).1, fun i hi h q => ((g2 i hi).2.2 h q).1⟩, fun i hi => ⟨?_, (g2 i hi).2.1, fun h q => ((g2 i hi).2.2 h q).2⟩, ?_⟩
 ·rw [g1]; exact GN p0 p1 p2 h01 h02 h12 s4 _ hm
 ·have : i.nm ∈ its.map (·.nm) := List.mem_map.mpr ⟨i, hi, rfl⟩
  rw [g1] at this
  obtain ⟨k, _, hk⟩ := List.mem_map.mp this
  rw [← hk]
  unfold Jd
  have : (s4 + (k : Int)) % 3 = 0 ∨ (s4 + (k : Int)) % 3 = 1 ∨ (s4 + (k : Int)) % 3 = 2 := by omega
  rcases this with e | e | e <;> rw [e]
  ·exact k0
  ·exact k1
  ·exact k2
 ·have h0' : fY (ds.map D.int) 0 = some (.int s0) := h0
  unfold fO
  refine jY (R := [.lst (its.map bT)]) ?_ (by rw [pD]; exact bx BJ)
  have hz : (its.map bT).length ≤ sizeLine := lz (by simp; omega)
  rw [List.map_nil, List.nil_append] at e
  generalize ((List.range' 0 (s0 % 4).toNat).map fun (k : Nat) => D.int (0 + (k : Int))) = R at hr e
  generalize its.map bT = I at e hz ⊢
  generalize ds.map D.int = Ds at e h0' ⊢
  generalize [D.str p0, .str p1, .str p2] = Pl at e ⊢
  unfold jr
  simp! [bU, hr, e, h0', ko, vg, hz]
end K21
end
section
set_option Elab.async false
set_option linter.all false
set_option maxRecDepth 100000
set_option maxHeartbeats 1000000
namespace K21
open PySem PySem.Spec L2 L3
theorem LR (nm : Str) (c : Nat) (hc : c ≤ 100) (H : DH) (d0 d1 d2 d3 : D) (lo : D) (hi : D) (o6 : Option D) :
  Mh (JI (ay r8 (az bU (ai (ay bQ (ah 4) (eC (.int 0))) (aE))) (ah 5))) [some d0, some d1, some d2, some d3, some (.tup [.str nm, lo, hi]), some (.int c), o6] H = .ok (.con ((List.replicate c nm).map .str)) H := by
 have hz1 : (1 : Nat) ≤ sizeLine := lz (by omega)
 have hf : (List.replicate c [D.str nm]).flatten = (List.replicate c nm).map .str := by
  induction c with
  | zero => rfl
  | succ c ih => rw [List.replicate_succ, List.flatten_cons, ih (by omega)]; rfl
 have hcl : (D.con ((List.replicate c nm).map D.str)).closed = true := by rw [jL]; exact bx fun _ => bB
 have hlen : ((List.replicate c nm).map D.str).length ≤ sizeLine := lz (by simp; omega)
 have e1 : az bU (ai (ay bQ (ah 4) (eC (.int 0))) (aE)) [some d0, some d1, some d2, some d3, some (.tup [.str nm, lo, hi]), some (.int c), o6] H = .ok (.obj H.length) (H ++ [.lst [.str nm]]) := by
  simp! [IW, bU, hz1]
 have e2 : r8 (.obj H.length) (.int c) (H ++ [.lst [.str nm]]) = .ok (.obj (H.length + 1)) (H ++ [.lst [.str nm], .lst ((List.replicate c nm).map .str)]) := by
  unfold r8
  dsimp only
  rw [vg]
  dsimp only
  rw [if_pos ⟨by omega, by omega, lz (by simp; omega)⟩, Int.toNat_natCast, hf, bU, if_pos hlen]
  simp
 rw [Gm, Cs, qh, e1]
 simp only [fy, aI, cQ, List.getElem?_cons_succ, List.getElem?_cons_zero, e2]
 rw [FU, N1 hcl]
theorem Je (ds : List Int) (its : List Itm) (k : Nat) (it : Itm) (hlo : 0 ≤ it.lo ∧ it.lo ≤ 2) (hhi : ∀ h, it.hi = some h → it.lo ≤ h ∧ h ≤ 2) (v : Int) (H : DH) (d0 d1 d2 d3 : D) :
  ∃ c : Nat, c ≤ 25 ∧ ve (je (ay (gn false) (ay bQ (ah 4) (eC (.int 2))) (eC .cj))) (bE 5 (ay aL (ah 5) (ay fj (ah 6) (ay bQ (eFn (az bU (ai (eC (.int 3)) (ai (eC (.int 20)) (aE))))) (ay fj (ay mJ (ah 6) (eC (.int 3))) (eC (.int 2))))))) (bE 5 (ay aL (ah 5) (ay fj (ah 6) (ay aL (ay Dl (ay bQ (ah 4) (eC (.int 2))) (ay bQ (ah 4) (eC (.int 1)))) (eC (.int 1))))))
   [some d0, some d1, some d2, some d3, some (bT it), some (.int it.lo), some (.int v)] H = .nx [some d0, some d1, some d2, some d3, some (bT it), some (.int (c : Int)), some (.int v)] H := by
 have hfw := g6 (G := H) (ds := [D.int 3, .int 20]) (lz (by simp)) (by simp [cu, cY, eE])
 obtain ⟨nm, lo, hi⟩ := it
 dsimp only at hlo hhi ⊢
 unfold bT
 cases hi with
 | none =>
  have hw : v / 3 % 2 = 0 ∨ v / 3 % 2 = 1 := by omega
  rcases hw with hw | hw
  ·refine ⟨(lo + v % 3).toNat, by omega, ?_⟩
   have e : (((lo + v % 3).toNat : Nat) : Int) = lo + v % 3 := by omega
   rw [e]
   have a0 : fY [D.int 3, .int 20] 0 = some (.int 3) := GB
   simp! [nL, mX, gn, cX, hfw, hw, a0]
  ·refine ⟨(lo + v % 20).toNat, by omega, ?_⟩
   have e : (((lo + v % 20).toNat : Nat) : Int) = lo + v % 20 := by omega
   rw [e]
   have a0 : fY [D.int 3, .int 20] 1 = some (.int 20) := GC
   simp! [nL, mX, gn, cX, hfw, hw, a0]
 | some h =>
  have hh := hhi h rfl
  have hp : 0 < h - lo + 1 := by omega
  have hm1 := Int.emod_nonneg v (show h - lo + 1 ≠ 0 by omega)
  have hm2 := Int.emod_lt_of_pos v hp
  refine ⟨(lo + v % (h - lo + 1)).toNat, by omega, ?_⟩
  have e : (((lo + v % (h - lo + 1)).toNat : Nat) : Int) = lo + v % (h - lo + 1) := by omega
  rw [e]
  simp! [vS, nL, mX, gn, hp]
end K21
end
section
set_option Elab.async false
set_option linter.all false
set_option maxRecDepth 100000
set_option maxHeartbeats 1000000
namespace K21
open PySem PySem.Spec L2 L3
theorem Jf (Ds Is : List D) (s8 s9 : Int) (h8 : fY Ds 8 = some (.int s8)) (h9 : fY Ds 9 = some (.int s9)) (hI : 0 < Is.length) (Wh : Is.length ≤ 100) (k : Nat) (it : Itm) (hlo : 0 ≤ it.lo ∧ it.lo ≤ 2) (hhi : ∀ h, it.hi = some h → it.lo ≤ h ∧ h ≤ 2) (c : Nat) (hc : c ≤ 25) (v : D) (H : DH) (d2 : D) :
  ∃ c' : Nat, c' ≤ 30 ∧ ve (kI (je (ay EI (ay fj (ay bQ (ah 0) (eC (.int 8))) (eC (.int 3))) (eC (.int 0)))) (je (ay (kD false) (ay fj (ay bQ (ah 0) (eC (.int 9))) (az kJ (ai (ah 1) (aE)))) (ah 3)))) (bE 5 (az (gX fun i j => if j > i then j else i) (ai (eC (.int 0)) (ai (ay bQ (eFn (az bU (ai (ay Dl (ay bQ (ah 4) (eC (.int 1))) (eC (.int 1))) (ai (ay aL (DW (ay bQ (ah 4) (eC (.int 2))) (ah 5)) (eC (.int 1))) (aE))))) (ay fj (ay mJ (ay bQ (ah 0) (eC (.int 8))) (eC (.int 3))) (eC (.int 2)))) (aE))))) (gW)
   [some (.con Ds), some (.tup Is), some d2, some (.int k), some (bT it), some (.int (c : Int)), some v] H = .nx [some (.con Ds), some (.tup Is), some d2, some (.int k), some (bT it), some (.int (c' : Int)), some v] H := by
 have hz : Is.length ≤ sizeLine := lz (by omega)
 have RC : (0 : Int) < (Is.length : Int) := by omega
 by_cases h1 : 0 < s8 % 3
 ·by_cases h2 : s9 % (Is.length : Int) = (k : Int)
  ·
   obtain ⟨nm, lo, hi⟩ := it
   dsimp only at hlo hhi ⊢
   have hor : ∃ y : Int, 0 ≤ y ∧ y ≤ 25 ∧ DW (ay bQ (ah 4) (eC (.int 2))) (ah 5) [some (.con Ds), some (.tup Is), some d2, some (.int k), some (.tup [.str nm, .int lo, mX hi]), some (.int (c : Int)), some v] H = .ok (.int y) H := by
    cases hi with
    | none =>
     refine ⟨c, by omega, by omega, ?_⟩
     simp! [nL, mX]
    | some h =>
     have hh := hhi h rfl
     by_cases h0 : h = 0
     ·subst h0
      refine ⟨c, by omega, by omega, ?_⟩
      simp! [nL, mX]
     ·refine ⟨h, by omega, by omega, ?_⟩
      simp! [nL, mX, h0]
   obtain ⟨y, Wi, hy1, hor⟩ := hor
   have hfw := g6 (G := H) (ds := [D.int (lo - 1), .int (y + 1)]) (lz (by simp)) (by simp [cu, cY, eE])
   have hw : s8 / 3 % 2 = 0 ∨ s8 / 3 % 2 = 1 := by omega
   unfold bT
   dsimp only
   generalize DW (ay bQ (ah 4) (eC (.int 2))) (ah 5) = E at hor ⊢
   have hb : (s9 % (Is.length : Int) == (k : Int)) = true := by simpa using h2
   rcases hw with hw | hw
   ·have a0 : fY [D.int (lo - 1), .int (y + 1)] 0 = some (.int (lo - 1)) := GB
    refine ⟨(if lo - 1 > 0 then lo - 1 else 0).toNat, by split <;> omega, ?_⟩
    have e : (((if lo - 1 > 0 then lo - 1 else 0).toNat : Nat) : Int) = if 0 < lo - 1 then lo - 1 else 0 := by split <;> omega
    rw [e]
    simp! [h8, h9, h1, hz, hI, RC, fM, hb, vS, hor, cX, hfw, hw, a0]
   ·have a0 : fY [D.int (lo - 1), .int (y + 1)] 1 = some (.int (y + 1)) := GC
    refine ⟨(y + 1).toNat, by omega, ?_⟩
    have e : (((y + 1).toNat : Nat) : Int) = y + 1 := by omega
    have e2 : (0 : Int) < y + 1 := by omega
    rw [e]
    simp! [h8, h9, h1, hz, hI, RC, fM, hb, vS, hor, cX, hfw, hw, a0, e2]
  ·have hb : (s9 % (Is.length : Int) == (k : Int)) = false := by simpa using h2
   refine ⟨c, by omega, ?_⟩
   generalize bT it = I
   simp! [h8, h9, h1, hz, hI, RC, fM, hb]
 ·refine ⟨c, by omega, ?_⟩
  generalize bT it = I
  simp! [h8, h1]
theorem GP (ds : List Int) (hd : ds.length = 24) (its : List Itm) (hl : its.length ≤ 3) (k : Nat) (it : Itm) (hk : its[k]? = some it) (hlo : 0 ≤ it.lo ∧ it.lo ≤ 2) (hhi : ∀ h, it.hi = some h → it.lo ≤ h ∧ h ≤ 2) (names : List Str) (hn : names.length ≤ 500) (H : DH) (q : Nat) (hq : H[q]? = some (.lst (names.map .str))) (o5 o6 : Option D) :
  ∃ (c : Nat) (BP BQ : Option D), c ≤ 30 ∧ eZ [some (.con (ds.map .int)), some (.tup (its.map bT)), some (.obj q), some (.int k), some (bT it), o5, o6] H = .nx [some (.con (ds.map .int)), some (.tup (its.map bT)), some (.obj H.length), some (.int k), some (bT it), BP, BQ] (H ++ [.lst ((names ++ List.replicate c it.nm).map .str)]) := by
 have hk' : k < its.length := (List.getElem?_eq_some_iff.mp hk).1
 obtain ⟨v, hv⟩ := dX ds (5 + k) (by omega)
 obtain ⟨s8, h8⟩ := dX ds 8 (by omega)
 obtain ⟨s9, h9⟩ := dX ds 9 (by omega)
 have hv' : fY (ds.map D.int) (5 + (k : Int)) = some (.int v) := by
  rw [show (5 + (k : Int)) = ((5 + k : Nat) : Int) by omega]; exact hv
 obtain ⟨c1, hc1, e1⟩ := Je ds its k it hlo hhi v H (.con (ds.map .int)) (.tup (its.map bT)) (.obj q) (.int k)
 obtain ⟨c2, hc2, e2⟩ := Jf (ds.map .int) (its.map bT) s8 s9 h8 h9 (by simp; omega) (by simp; omega) k it hlo hhi c1 hc1 (.int v) H (.obj q)
 have e3 := LR it.nm c2 (by omega) H (.con (ds.map .int)) (.tup (its.map bT)) (.obj q) (.int k) (.int it.lo) (mX it.hi) (some (.int v))
 refine ⟨c2, some (.int (c2 : Int)), some (.int v), hc2, ?_⟩
 have hz : (names.map D.str ++ (List.replicate c2 it.nm).map D.str).length ≤ sizeLine := lz (by simp; omega)
 have i1 : ∀ τ, ay bQ (ah 4) (eC (.int 1)) (some (.con (ds.map .int)) :: some (.tup (its.map bT)) :: some (.obj q) :: some (.int (k : Int)) :: some (bT it) :: τ) H = .ok (.int it.lo) H := by
  intro τ
  unfold bT
  simp! [vS]
 have i2 : ∀ τ, ay bQ (ah 0) (ay aL (eC (.int 5)) (ah 3)) (some (.con (ds.map .int)) :: some (.tup (its.map bT)) :: some (.obj q) :: some (.int (k : Int)) :: τ) H = .ok (.int v) H := by
  intro τ
  generalize ds.map D.int = Ds at hv' ⊢
  simp! [hv']
 unfold eZ
 rw [br, cC, i1, dU, bJ]
 simp only [List.set_cons_succ, List.set_cons_zero]
 rw [br, cC, i2, dU, bJ]
 simp only [List.set_cons_succ, List.set_cons_zero]
 rw [br, e1, bJ, br, e2, bJ, cC, qh]
 have VP : Mh (JI (ay r8 (az bU (ai (ay bQ (ah 4) (eC (.int 0))) (aE))) (ah 5))) [some (.con (ds.map .int)), some (.tup (its.map bT)), some (.obj q), some (.int (k : Int)), some (bT it), some (.int (c2 : Int)), some (.int v)] H = .ok (.con ((List.replicate c2 it.nm).map .str)) H := e3
 simp only [cQ, List.getElem?_cons_succ, List.getElem?_cons_zero, fy, aI, VP]
 rw [List.map_append]
 have ha : aL (.obj q) (.con ((List.replicate c2 it.nm).map .str)) H = bU (names.map .str ++ (List.replicate c2 it.nm).map .str) H := by
  simp only [aL, uf, hq]
 rw [ha, bU, if_pos hz, dU]
 simp only [List.set_cons_succ, List.set_cons_zero]
theorem GQ (its : List Itm) (k : Nat) (hk : k < its.length) : its.zipIdx.drop k = (its[k], k) :: its.zipIdx.drop (k + 1) := by
 rw [List.drop_eq_getElem_cons (by simpa using hk)]
 simp
theorem wW (ds : List Int) (hd : ds.length = 24) (its : List Itm) (hl : its.length ≤ 3) (hlo : ∀ i ∈ its, 0 ≤ i.lo ∧ i.lo ≤ 2) (hhi : ∀ i ∈ its, ∀ h, i.hi = some h → i.lo ≤ h ∧ h ≤ 2) (hs : ∀ i ∈ its, PyData.strOk i.nm = true) (G : DH) : ∀ (m k : Nat), k + m = its.length → ∀ (names : List Str), names.length ≤ 100 * k → (∀ n ∈ names, PyData.strOk n = true) → ∀ (J : DH) (q : Nat), G.length ≤ q → (G ++ J)[q]? = some (.lst (names.map .str)) → ∀ (o3 o4 o5 o6 : Option D),
  ∃ (names' : List Str) (J' : DH) (q' : Nat) (OG tF BP BQ : Option D), names'.length ≤ 300 ∧ (∀ n ∈ names', PyData.strOk n = true) ∧ G.length ≤ q' ∧ (G ++ J')[q']? = some (.lst (names'.map .str)) ∧
   bO (gP 3 4) eZ ((its.zipIdx.drop k).map fun p => D.tup [.int p.2, bT p.1]) [some (.con (ds.map .int)), some (.tup (its.map bT)), some (.obj q), o3, o4, o5, o6] (G ++ J) = .nx [some (.con (ds.map .int)), some (.tup (its.map bT)), some (.obj q'), OG, tF, BP, BQ] (G ++ J')
 | 0, k, hkm, names, hn, hns, J, q, hq1, hq, o3, o4, o5, o6 => by
  refine ⟨names, J, q, o3, o4, o5, o6, by omega, hns, hq1, hq, ?_⟩
  rw [List.drop_of_length_le (by simp; omega)]
  simp [bO]
 | m + 1, k, hkm, names, hn, hns, J, q, hq1, hq, o3, o4, o5, o6 => by
  have hk : k < its.length := by omega
  have hm : its[k] ∈ its := List.getElem_mem hk
  obtain ⟨c, a5, a6, hc, e⟩ := GP ds hd its hl k its[k] (List.getElem?_eq_getElem hk) (hlo _ hm) (hhi _ hm) names (by omega) (G ++ J) q hq o5 o6
  rw [List.append_assoc] at e
  obtain ⟨names', J', q', b3, b4, b5, b6, g1, g2, g3, g4, ih⟩ := wW ds hd its hl hlo hhi hs G m (k + 1) (by omega) (names ++ List.replicate c its[k].nm) (by simp; omega) (fun n hn' => by
   rcases List.mem_append.mp hn' with h | h
   ·exact hns n h
   ·rw [(List.mem_replicate.mp h).2]; exact hs _ hm) (J ++ [.lst ((names ++ List.replicate c its[k].nm).map .str)]) (G ++ J).length (by simp) (by rw [← List.append_assoc, vg]) (some (.int (k : Int))) (some (bT its[k])) a5 a6
  refine ⟨names', J', q', b3, b4, b5, b6, g1, g2, g3, g4, ?_⟩
  rw [GQ its k hk, List.map_cons, nW (τ1 := [some (.con (ds.map .int)), some (.tup (its.map bT)), some (.obj q), some (.int (k : Int)), some (bT its[k]), o5, o6]) rfl, e, ud]
  exact ih
theorem Jg (ds : List Int) (hd : ds.length = 24) (its : List Itm) (hl : its.length ≤ 3) (hlo : ∀ i ∈ its, 0 ≤ i.lo ∧ i.lo ≤ 2) (hhi : ∀ i ∈ its, ∀ h, i.hi = some h → i.lo ≤ h ∧ h ≤ 2) (hs : ∀ i ∈ its, PyData.strOk i.nm = true) (G : DH) :
  ∃ names : List Str, names.length ≤ 300 ∧ (∀ n ∈ names, PyData.strOk n = true) ∧ eL [.con (ds.map .int), .tup (its.map bT)] G = .ok (.obj G.length) (G ++ [.lst (names.map .str)]) := by
 obtain ⟨names', J', q', b3, b4, b5, b6, g1, g2, g3, g4, e⟩ := wW ds hd its hl hlo hhi hs G its.length 0 (by omega) [] (by simp) (by simp) [.lst []] G.length (Nat.le_refl _) (by rw [vg]; rfl) none none none none
 refine ⟨names', g1, g2, ?_⟩
 have en := DX (g := gP 3 4) (body := eZ) (xs := its.map bT) (τ := [some (.con (ds.map .int)), some (.tup (its.map bT)), some (.obj G.length), none, none, none, none]) (G := G ++ [.lst []])
 rw [Ar] at en
 rw [List.drop_zero] at e
 rw [e] at en
 have hcl : aU (names'.map D.str) = true := bx fun _ => bB
 have run : fq 7 g9 [.con (ds.map .int), .tup (its.map bT)] G = .ok (.obj q') (G ++ J') := by
  rw [jI]
  unfold g9
  simp only [List.map_cons, List.map_nil, List.length_cons, List.length_nil, List.cons_append, List.nil_append, List.replicate]
  generalize its.map bT = I at en ⊢
  generalize ds.map D.int = Ds at en ⊢
  have h0 : (0 : Nat) ≤ sizeLine := Nat.zero_le _
  have VQ : nj (gP 3 4) eZ (jK I) (I.length + 1) 0 [some (.con Ds), some (.tup I), some (.obj G.length), none, none, none, none] (G ++ [.lst []]) = _ := en
  rw [br, cC, iP, jh, fy, bU, if_pos (show ([] : List D).length ≤ sizeLine from h0), dU, bJ]
  simp only [List.set_cons_succ, List.set_cons_zero]
  rw [br, nV, uh, jo]
  simp only [cQ, List.getElem?_cons_succ, List.getElem?_cons_zero, fy, aI, jh, nu, aD, kN, VQ, bJ, iD, kM, jJ]
 unfold eL
 have hb : iw ((G ++ J').take G.length) G = true := by simp [gD]
 have hc : iw ((G ++ J').take G.length) G = true ∧ G.length ≤ q' ∧ aU (names'.map D.str) = true := ⟨hb, g3, hcl⟩
 unfold xV
 dsimp only
 rw [run]
 dsimp only
 rw [g4]
 dsimp only
 rw [if_pos hc]
end K21
end
section
set_option Elab.async false
set_option linter.all false
set_option maxRecDepth 100000
set_option maxHeartbeats 1000000
namespace K21
open PySem PySem.Spec L2 L3
theorem sJ (ds : List Int) (hd : ds.length = 24) (names : List Str) (hn : names.length ≤ 300) (hns : ∀ n ∈ names, PyData.strOk n = true) (G : DH) (q : Nat) (hq : G[q]? = some (.lst (names.map .str))) (o2 o3 : Option D) : ∀ (fu k : Nat), k ≤ names.length → names.length < fu + k → ∀ (found : List Str), found.length = k → (∀ n ∈ found, PyData.strOk n = true) → ∀ (o5 o6 : Option D),
  ∃ (found' : List Str) (BP BQ : Option D), found'.length ≤ 300 ∧ (∀ n ∈ found', PyData.strOk n = true) ∧ nj (gP 5 6) iR (nt (.obj q)) fu k [some (.con (ds.map .int)), some (.obj q), o2, o3, some (.obj G.length), o5, o6] (G ++ [.lst (found.map .str)]) = .nx [some (.con (ds.map .int)), some (.obj q), o2, o3, some (.obj G.length), BP, BQ] (G ++ [.lst (found'.map .str)])
 | 0, k, hk, hf, found, hfl, hfs, o5, o6 => by omega
 | fu + 1, k, hk, hf, found, hfl, hfs, o5, o6 => by
  have hq' : (G ++ [.lst (found.map D.str)])[q]? = some (.lst (names.map .str)) := jB hq
  by_cases hlt : k < names.length
  ·have hx : (names.map D.str)[k]? = some (.str names[k]) := by rw [List.getElem?_map, List.getElem?_eq_getElem hlt]; rfl
   obtain ⟨v, hv⟩ := dX ds ((11 + k) % 24) (by omega)
   have hv' : fY (ds.map D.int) ((11 + (k : Int)) % 24) = some (.int v) := by
    rw [show ((11 + (k : Int)) % 24) = (((11 + k) % 24 : Nat) : Int) by omega]; exact hv
   have hi1 := Int.emod_nonneg (v / (1 + (k : Int))) (show (k : Int) + 1 ≠ 0 by omega)
   have hi2 := Int.emod_lt_of_pos (v / (1 + (k : Int))) (show 0 < (k : Int) + 1 by omega)
   have hz : found.length < sizeLine := Nat.lt_of_lt_of_le (by omega) (lz (n := 1000) (by omega))
   have hp1 : (0 : Int) < 1 + (k : Int) := by omega
   have hp2 : (1 : Int) + (k : Int) < 1073741824 := by omega
   have hp3 : (0 : Int) < (k : Int) + 1 := by omega
   generalize hix : v / (1 + (k : Int)) % ((k : Int) + 1) = ix at hi1 hi2
   have LS : ix < 1000 := by omega
   have step : iR [some (.con (ds.map .int)), some (.obj q), o2, o3, some (.obj G.length), some (.int (k : Int)), some (.str names[k])] (G ++ [.lst (found.map .str)]) = .nx [some (.con (ds.map .int)), some (.obj q), o2, o3, some (.obj G.length), some (.int (k : Int)), some (.str names[k])] (G ++ [.lst ((found.take ix.toNat ++ names[k] :: found.drop ix.toNat).map .str)]) := by
    have OH : (found.map D.str).length < sizeLine := by simpa using hz
    rw [List.map_append, List.map_cons, List.map_take, List.map_drop]
    generalize ds.map D.int = Ds at hv' ⊢
    generalize found.map D.str = Fs at OH ⊢
    unfold iR
    simp! [hv', hp1, hp2, hp3, hix, vg, G5, jZ, hi1, LS, OH]
   obtain ⟨found', b5, b6, g1, g2, ih⟩ := sJ ds hd names hn hns G q hq o2 o3 fu (k + 1) (by omega) (by omega) (found.take ix.toNat ++ names[k] :: found.drop ix.toNat) (by simp; omega) (fun n hn' => by
    rcases List.mem_append.mp hn' with h | h
    ·exact hfs n (List.mem_of_mem_take h)
    ·rcases List.mem_cons.mp h with rfl | h
     ·exact hns _ (List.getElem_mem hlt)
     ·exact hfs n (List.mem_of_mem_drop h)) (some (.int (k : Int))) (some (.str names[k]))
   refine ⟨found', b5, b6, g1, g2, ?_⟩
   rw [nj]
   dsimp only
   have hvw : nt (.obj q) (G ++ [.lst (found.map D.str)]) k = some (some (.tup [.int k, .str names[k]])) := by
    simp only [nt, aD, hq', hx, Option.map_some]
   rw [hvw]
   simp only [gP, List.set_cons_succ, List.set_cons_zero, step]
   exact ih
  ·refine ⟨found, o5, o6, by omega, hfs, ?_⟩
   rw [nj]
   dsimp only
   have hvw : nt (.obj q) (G ++ [.lst (found.map D.str)]) k = some none := by
    have : (names.map D.str)[k]? = none := by rw [List.getElem?_eq_none]; simp; omega
    simp only [nt, aD, hq', this, Option.map_none]
   rw [hvw]
theorem GR (ds : List Int) (hd : ds.length = 24) (names : List Str) (hn : names.length ≤ 300) (hns : ∀ n ∈ names, PyData.strOk n = true) (G : DH) (q : Nat) (hq : G[q]? = some (.lst (names.map .str))) :
  ∃ (names' : List Str) (q' : Nat) (R : DH), names'.length ≤ 300 ∧ (∀ n ∈ names', PyData.strOk n = true) ∧ (G ++ R)[q']? = some (.lst (names'.map .str)) ∧ fP [.con (ds.map .int), .obj q] G = .ok (.obj q') (G ++ R) := by
 obtain ⟨Fb, Nz⟩ := dX ds 10 (by omega)
 obtain ⟨L8, h11⟩ := dX ds 11 (by omega)
 have BS : fY (ds.map D.int) 10 = some (.int Fb) := Nz
 have LU : fY (ds.map D.int) 11 = some (.int L8) := h11
 have hz : names.length ≤ sizeLine := lz (by omega)
 have hlen : (names.map D.str).length = names.length := by simp
 unfold fP
 by_cases h0 : Fb % 3 = 0 ∨ names.length = 0
 ·refine ⟨names, q, [], hn, hns, by simpa using hq, ?_⟩
  rw [List.append_nil]
  generalize ds.map D.int = Ds at BS ⊢
  generalize names.map D.str = Ns at hq hlen
  unfold g8
  by_cases h1 : Fb % 3 = 0
  ·simp! [BS, fM, h1]
  ·have NU : (Fb % 3 == 0) = false := by simpa using h1
   have h2 : names.length = 0 := by omega
   have h2' : Ns.length = 0 := by omega
   simp! [BS, fM, NU, hq, h2']
 ·have h1 : (Fb % 3 == 0) = false := beq_eq_false_iff_ne.mpr (by omega)
  have h2 : ((names.length : Int) == 0) = false := beq_eq_false_iff_ne.mpr (by omega)
  have hpos : 0 < names.length := by omega
  by_cases h3 : Fb % 3 = 1
  ·
   have hm1 := Int.emod_nonneg L8 (show (names.length : Int) ≠ 0 by omega)
   have hm2 := Int.emod_lt_of_pos L8 (show 0 < (names.length : Int) by omega)
   obtain ⟨a, ha⟩ : ∃ a : Nat, L8 % (names.length : Int) = (a : Int) := ⟨(L8 % (names.length : Int)).toNat, by omega⟩
   have hal : a < names.length := by omega
   refine ⟨names.drop a ++ names.take a, G.length, [.lst ((names.drop a ++ names.take a).map .str)], by simp; omega, fun n hn' => ?_, by rw [vg], ?_⟩
   ·rcases List.mem_append.mp hn' with h | h
    ·exact hns n (List.mem_of_mem_drop h)
    ·exact hns n (List.mem_of_mem_take h)
   ·have e1 : Az (.obj q) (some (a : Int)) none G = bU ((names.drop a).map .str) G := by
     simp only [Az, aD, hq]
     congr 1
     unfold cutD
     rw [HT.pV, HT.mZ, hlen, Nat.min_eq_left (by omega), List.map_drop, List.take_of_length_le (by simp)]
    have e2 : Az (.obj q) none (some (a : Int)) G = bU ((names.take a).map .str) G := by
     simp only [Az, aD, hq]
     congr 1
     unfold cutD
     rw [HT.pV, HT.mZ, hlen, Nat.min_eq_left (by omega), List.map_take]
     simp
    have f1 := g6 (G := G) (ds := (names.drop a).map .str) (lz (by simp; omega)) (bx fun _ => bB)
    have f2 := g6 (G := G) (ds := (names.take a).map .str) (lz (by simp; omega)) (bx fun _ => bB)
    have RD : ((names.drop a).map D.str ++ (names.take a).map D.str).length ≤ sizeLine := lz (by simp; omega)
    rw [List.map_append]
    have f3 : aL (.con ((names.drop a).map .str)) (.con ((names.take a).map .str)) G = .ok (.obj G.length) (G ++ [.lst ((names.drop a).map .str ++ (names.take a).map .str)]) := by
     show bU _ G = _
     rw [bU, if_pos RD]
    generalize (names.drop a).map D.str = X1 at e1 f1 f3 ⊢
    generalize (names.take a).map D.str = X2 at e2 f2 f3 ⊢
    generalize ds.map D.int = Ds at BS LU ⊢
    generalize names.map D.str = Ns at hq hlen
    have OI : (0 : Int) < (names.length : Int) := by omega
    have h3' : (Fb % 3 == 1) = true := by simpa using h3
    unfold g8 oK
    dsimp! [BS, LU, fM, h1, h2, h3', hq, hlen, hz, hpos, OI, ha, e1, e2, cX, f1, f2, f3]
  ·have h3' : (Fb % 3 == 1) = false := beq_eq_false_iff_ne.mpr h3
   obtain ⟨found, b5, b6, g1, g2, e⟩ := sJ ds hd names hn hns G q hq (some (.int (Fb % 3))) none (names.length + 1) 0 (by omega) (by omega) [] rfl (by simp) none none
   refine ⟨found, G.length, [.lst (found.map .str)], g1, g2, by rw [vg], ?_⟩
   have hq1 : (G ++ [DO.lst []])[q]? = some (.lst (names.map .str)) := jB hq
   rw [List.map_nil] at e
   generalize found.map D.str = Fs at e ⊢
   generalize ds.map D.int = Ds at BS LU e ⊢
   generalize names.map D.str = Ns at hq hq1 hlen
   unfold g8
   simp! [BS, fM, h1, h2, h3', hq, hq1, hlen, hz, bU, e]
end K21
end
section
set_option Elab.async false
set_option linter.all false
set_option maxRecDepth 100000
set_option maxHeartbeats 1000000
namespace K21
open PySem PySem.Spec L2 L3
theorem GS (x : Str) (l u : Option Int) (h : PyData.strOk x = true) : PyData.strOk (Txt.slice x l u) = true := by
 unfold Txt.slice
 split
 ·exact h
 ·unfold PyData.strOk at h ⊢
  simp only [List.all_toArray, List.all_eq_true, List.mem_filterMap] at h ⊢
  rintro c ⟨i, _, hi⟩
  have h2 := Array.all_eq_true'.mp h c (Array.mem_of_getElem? hi)
  exact h2
noncomputable def pn (w : Int) (core o : Str) : Str := if w = 0 then core ++ "x" ++ o else o ++ "x" ++ core
theorem CS (a b : Str) : (a ++ b).cps.toList = a.cps.toList ++ b.cps.toList := by
 show (a.cps ++ b.cps).toList = _
 simp
theorem GU (w : Int) (core a b : Str) (h : a ≠ b) : pn w core a ≠ pn w core b := by
 intro e
 apply h
 have e2 := congrArg (fun s : Str => s.cps.toList) e
 unfold pn at e2
 have : a.cps.toList = b.cps.toList := by
  split at e2
  ·simp only [CS] at e2
   exact List.append_cancel_left e2
  ·simp only [CS, List.append_assoc] at e2
   exact List.append_cancel_right e2
 cases a; cases b
 congr 1
 exact Array.ext' this
theorem VR : (("abc" : Str).cps.toList.map fun c => D.str ⟨#[c]⟩) = [.str "a", .str "b", .str "c"] := by
 have : (("abc" : Str).cps.toList.map fun c => (⟨#[c]⟩ : Str)) = (["a", "b", "c"] : List Str) := by decide +kernel
 rw [show (fun c => D.str ⟨#[c]⟩) = D.str ∘ (fun c => (⟨#[c]⟩ : Str)) from rfl, ← List.map_map, this]; rfl
theorem LV (ds : List D) (k : Nat) (G : DH) (hk : G[k]? = some (.lst ds)) (h : gq ds = true) (hn : AB ds ≤ 570) : kD false (.con ds) (.obj k) G = .ok (.bl true) G := by
 have hd := uq ds
 have e1 : kF G deep (.obj k) = some (D.con ds).pd := by
  show (match G[k]? with
   | some (.lst ds) => (bR (kF G 599) ds).map PyData.list
   | _ => none) = _
  rw [hk]
  dsimp only
  rw [nX G ds 599 h (by omega), D.pd]; rfl
 have hp : (D.con ds).plain = true := by rw [D.plain]; exact h
 have R6 : (D.con ds).dp ≤ 580 := by rw [D.dp]; omega
 have := wB (.con ds)
 unfold kD yY
 rw [e1, uo G (.con ds) deep hp (by show (D.con ds).dp < 600; omega)]
 dsimp only
 rw [if_pos (by rw [lay_of _ hp]; simp; omega), ql]
 rfl
theorem Jh (ds : List Int) (n8 : Int) (OJ : fY (ds.map D.int) 13 = some (.int n8)) (core : Str) (hc : core.length ≤ 20) (d0 : D) (o3 o4 o5 o6 o7 o8 : Option D) (G : DH) :
  eFn (jF oN [false, true, true] (eC (.str "abc")) (p9) (ay bQ (eFn (az bU (ai (ay aL (ay aL (ah 3) (eC (.str "x"))) (ah 0)) (ai (ay aL (ay aL (ah 0) (eC (.str "x"))) (ah 3)) (aE))))) (ay fj (ay bQ (ah 2) (eC (.int 13))) (eC (.int 2)))))
   [some d0, some (.con (ds.map .int)), some (.str core), o3, o4, o5, o6, o7, o8] G = .ok (.con [.str (pn (n8 % 2) core "a"), .str (pn (n8 % 2) core "b"), .str (pn (n8 % 2) core "c")]) G := by
 have Iz : ("x" : Str).length = 1 := by decide +kernel
 have c1 := iE (τ := [some d0, some (.con (ds.map .int)), some (.str core), o3, o4, o5, o6, o7, o8]) (G := G) (gO := oN) (ks := [false, true, true]) (te := ay bQ (eFn (az bU (ai (ay aL (ay aL (ah 3) (eC (.str "x"))) (ah 0)) (ai (ay aL (ay aL (ah 0) (eC (.str "x"))) (ah 3)) (aE))))) (ay fj (ay bQ (ah 2) (eC (.int 13))) (eC (.int 2)))) (own := fun x => [x]) (f := fun d => match d with | .str o => .str (pn (n8 % 2) core o) | _ => .cj) [.str "a", .str "b", .str "c"] [] (by simp) (fun x _ => rfl) (fun x hx acc => by
  obtain ⟨o, ho, rfl⟩ : ∃ o : Str, o.length = 1 ∧ x = .str o := by
   simp at hx
   rcases hx with rfl | rfl | rfl
   ·exact ⟨"a", by decide +kernel, rfl⟩
   ·exact ⟨"b", by decide +kernel, rfl⟩
   ·exact ⟨"c", by decide +kernel, rfl⟩
  have hz1 : core.length + 1 ≤ sizeLine := lz (by omega)
  have hz2 : core.length + 1 + 1 ≤ sizeLine := lz (by omega)
  have RD : 1 + 1 ≤ sizeLine := lz (by omega)
  have VS : 1 + 1 + core.length ≤ sizeLine := lz (by omega)
  have hfw := g6 (G := G ++ [.lst acc]) (ds := [D.str (core ++ "x" ++ o), .str (o ++ "x" ++ core)]) (lz (by simp)) (by simp [cu, cY, bB])
  have l1 : (core ++ "x").length = core.length + 1 := by rw [tu, Iz]
  have l2 : (o ++ "x").length = 1 + 1 := by rw [tu, Iz, ho]
  have a1 : aL (.str core) (.str "x") (G ++ [.lst acc]) = .ok (.str (core ++ "x")) (G ++ [.lst acc]) := by
   show (if core.length + ("x" : Str).length ≤ sizeLine then _ else _) = _
   rw [Iz, if_pos hz1]
  have a2 : aL (.str (core ++ "x")) (.str o) (G ++ [.lst acc]) = .ok (.str (core ++ "x" ++ o)) (G ++ [.lst acc]) := by
   show (if (core ++ "x").length + o.length ≤ sizeLine then _ else _) = _
   rw [l1, ho, if_pos hz2]
  have a3 : aL (.str o) (.str "x") (G ++ [.lst acc]) = .ok (.str (o ++ "x")) (G ++ [.lst acc]) := by
   show (if o.length + ("x" : Str).length ≤ sizeLine then _ else _) = _
   rw [Iz, ho, if_pos RD]
  have a4 : aL (.str (o ++ "x")) (.str core) (G ++ [.lst acc]) = .ok (.str (o ++ "x" ++ core)) (G ++ [.lst acc]) := by
   show (if (o ++ "x").length + core.length ≤ sizeLine then _ else _) = _
   rw [l2, if_pos VS]
  have hw : n8 % 2 = 0 ∨ n8 % 2 = 1 := by omega
  have p0 : n8 % 2 = 0 → pn (n8 % 2) core o = core ++ "x" ++ o := fun h => by simp [pn, h]
  have p1 : n8 % 2 = 1 → pn (n8 % 2) core o = o ++ "x" ++ core := fun h => by simp [pn, h]
  generalize core ++ "x" ++ o = S1 at a2 hfw p0 ⊢
  generalize o ++ "x" ++ core = S2 at a4 hfw p1 ⊢
  generalize core ++ "x" = S3 at a1 a2
  generalize o ++ "x" = S4 at a3 a4
  generalize ds.map D.int = Ds at OJ ⊢
  rcases hw with hw | hw
  ·have a0 : fY [D.str S1, .str S2] 0 = some (.str S1) := GB
   show _ = Out.ok (D.str (pn (n8 % 2) core o)) _
   rw [p0 hw]
   dsimp! [mask, a1, a2, a3, a4, cX, hfw, OJ, hw, a0]
  ·have a0 : fY [D.str S1, .str S2] 1 = some (.str S2) := GC
   show _ = Out.ok (D.str (pn (n8 % 2) core o)) _
   rw [p1 hw]
   dsimp! [mask, a1, a2, a3, a4, cX, hfw, OJ, hw, a0])
 rw [cX, tw, rB]
 simp only [fy]
 rw [VR, c1]
 simp only [List.nil_append, List.map_cons, List.map_nil]
 rw [ji (by simp [cu, cY, bB])]
theorem BU (names : List Str) (h : ∀ n ∈ names, PyData.strOk n = true) : gq (names.map D.str) = true := rH (by
 intro x hx
 obtain ⟨w, hw, rfl⟩ := List.mem_map.mp hx
 rw [D.plain]; exact h w hw)
theorem Ji (names : List Str) : AB (names.map D.str) ≤ 0 := Bj (by
 intro x hx
 obtain ⟨w, hw, rfl⟩ := List.mem_map.mp hx
 simp [D.dp])
theorem Jj (a b : Str) (mix : Bool) (its : List Itm) (hl : its.length ≤ 3) (W : WF its) (hs : ∀ i ∈ its, PyData.strOk i.nm = true) (names : List Str) (hn : names.length ≤ 400) (hns : ∀ n ∈ names, PyData.strOk n = true) (H : DH) (q : Nat) (hq : H[q]? = some (.lst (names.map .str))) (d0 d1 d2 d3 d4 : D) :
  bA (bE 7 (eFn (az lJ (ai (ah 6) (aE))))) (bA (bE 8 (cW 2 rK (ai (ah 5) (ai (ah 7) (aE))))) (gb (AW (EZ .bl (ah 8)) (AW (ay (kD false) (ah 8) (cW 2 eG (ai (ah 5) (ai (ah 6) (aE))))) (ay (kD false) (ah 7) (ah 6))))))
   [some d0, some d1, some d2, some d3, some d4, some (bf a b mix its), some (.obj q), none, none] H = .rt (.bl true) H := by
 have l1 := IY a b mix its (by omega) hs (BL W.nd) names (by omega) hns H
 have l2 := LQ a b mix its W (by omega) hs names hns (by omega) H q hq
 have hf := g6 (G := H) (ds := names.map .str) (lz (by simp; omega)) (bx fun _ => bB)
 have e1 := FY false (.bl (accept mix its names)) H rfl (by simp [D.dp])
 have e2 := LV (names.map .str) q H hq (BU names hns) (Nat.le_trans (Ji names) (by omega))
 generalize bf a b mix its = R at l1 l2 ⊢
 generalize accept mix its names = A at l1 l2 e1
 generalize names.map D.str = Ns at l1 hq hf e2
 simp! [cX, lJ, hq, hf, l1, l2, e1, e2]
theorem GV (ns : List Int) (hl : ns.length ≤ 63) : ∃ G, CG [.con (ns.map .int)] [] = .ok (.bl true) G := by
 obtain ⟨ds, hd, ed⟩ := GL ns 24 (by omega) hl []
 obtain ⟨s12, h12⟩ := dX ds 12 (by omega)
 obtain ⟨n8, OJ⟩ := dX ds 13 (by omega)
 obtain ⟨Tr, VT⟩ := dX ds 14 (by omega)
 obtain ⟨Tt, VU⟩ := dX ds 15 (by omega)
 obtain ⟨Pj, VV⟩ := dX ds 16 (by omega)
 obtain ⟨OL, Tu⟩ := dX ds 17 (by omega)
 obtain ⟨Pk, VW⟩ := dX ds 18 (by omega)
 obtain ⟨t, kt, lt, et⟩ := yI s12 []
 obtain ⟨a, ka, la, ea⟩ := yI Tr []
 obtain ⟨b, kb, lb, eb⟩ := yI Tt []
 have hcl : (Txt.slice t none (some 6)).length ≤ 20 := Nat.le_trans (Txt.slice_le t _ _) (by omega)
 have kc := GS t none (some 6) kt
 have hsl : Az (.str t) none (some 6) [] = .ok (.str (Txt.slice t none (some 6))) [] := by
  simp only [Az, aD]
  rw [if_pos (lz (by omega))]
 generalize Txt.slice t none (some 6) = core at hcl kc hsl
 have po := fun o3 o4 o5 o6 o7 o8 => Jh ds n8 OJ core hcl (.con (ns.map .int)) o3 o4 o5 o6 o7 o8 []
 have RG : ∀ o : Str, PyData.strOk o = true → PyData.strOk (pn (n8 % 2) core o) = true := by
  intro o ho
  have hx : PyData.strOk ("x" : Str) = true := by decide +kernel
  unfold pn
  split
  ·exact good_add (good_add kc hx) ho
  ·exact good_add (good_add ho hx) kc
 obtain ⟨its, hil, W, hi2, ei⟩ := GO ds hd (pn (n8 % 2) core "a") (pn (n8 % 2) core "b") (pn (n8 % 2) core "c") (GU _ _ _ _ (by decide +kernel)) (GU _ _ _ _ (by decide +kernel)) (GU _ _ _ _ (by decide +kernel)) (RG _ (by decide +kernel)) (RG _ (by decide +kernel)) (RG _ (by decide +kernel)) []
 have hs : ∀ i ∈ its, PyData.strOk i.nm = true := fun i hi => (hi2 i hi).1
 obtain ⟨n1, l1, k1, e1⟩ := Jg ds hd its hil (fun i hi => ⟨W.lo i hi, (hi2 i hi).2.1⟩) (fun i hi h q => ⟨W.hi i hi h q, (hi2 i hi).2.2 h q⟩) hs []
 rw [List.nil_append] at e1
 obtain ⟨n2, q, R, l2, k2, hq, e2⟩ := GR ds hd n1 l1 k1 [.lst (n1.map .str)] 0 rfl
 generalize [DO.lst (n1.map .str)] ++ R = H at hq e2
 have hmix : ∃ mix : Bool, fY [D.str "row", .str "mix"] (Pj % 2) = some (.str (if mix = true then "mix" else "row")) := by
  have : Pj % 2 = 0 ∨ Pj % 2 = 1 := by omega
  rcases this with e | e <;> rw [e]
  ·exact ⟨false, GB⟩
  ·exact ⟨true, GC⟩
 obtain ⟨mix, hm⟩ := hmix
 have h4 : (4 : Nat) ≤ sizeLine := lz (by omega)
 have hfr := g6 (G := []) (ds := [D.str "row", .str "mix"]) (lz (by simp)) (by simp [cu, cY, bB])
 have OM : ∃ (n3 : List Str) (H3 : DH), n3.length ≤ 400 ∧ (∀ n ∈ n3, PyData.strOk n = true) ∧ H3[q]? = some (.lst (n3.map .str)) ∧
   ve (je (ay (kD false) (ay fj (ay bQ (ah 1) (eC (.int 17))) (eC (.int 8))) (eC (.int 7)))) (mK (gp "list" jZ (ah 6) (ai (ay fj (ay bQ (ah 1) (eC (.int 18))) (ay aL (az kJ (ai (ah 6) (aE))) (eC (.int 1)))) (ai (ay aL (ah 2) (eC (.str "xd"))) (aE))))) (gW)
    [some (.con (ns.map .int)), some (.con (ds.map .int)), some (.str core), some (.con [.str (pn (n8 % 2) core "a"), .str (pn (n8 % 2) core "b"), .str (pn (n8 % 2) core "c")]), some (.tup (its.map bT)), some (bf a b mix its), some (.obj q), none, none] H =
   .nx [some (.con (ns.map .int)), some (.con (ds.map .int)), some (.str core), some (.con [.str (pn (n8 % 2) core "a"), .str (pn (n8 % 2) core "b"), .str (pn (n8 % 2) core "c")]), some (.tup (its.map bT)), some (bf a b mix its), some (.obj q), none, none] H3 := by
  by_cases h7 : OL % 8 = 7
  ·have Lm : (OL % 8 == 7) = true := by simpa using h7
   have hxd : ("xd" : Str).length = 2 := by decide +kernel
   have VX : PyData.strOk ("xd" : Str) = true := by decide +kernel
   have hp : (0 : Int) < (n2.length : Int) + 1 := by omega
   have hi1 := Int.emod_nonneg Pk (show (n2.length : Int) + 1 ≠ 0 by omega)
   have hi2 := Int.emod_lt_of_pos Pk hp
   generalize hix : Pk % ((n2.length : Int) + 1) = ix at hi1 hi2
   have LS : ix < 1000 := by omega
   have Mi : q < H.length := (List.getElem?_eq_some_iff.mp hq).1
   refine ⟨n2.take ix.toNat ++ (core ++ "xd") :: n2.drop ix.toNat, H.set q (.lst ((n2.take ix.toNat ++ (core ++ "xd") :: n2.drop ix.toNat).map .str)), by simp; omega, fun n hn' => ?_, by rw [List.getElem?_set, if_pos rfl, if_pos Mi], ?_⟩
   ·rcases List.mem_append.mp hn' with h | h
    ·exact k2 n (List.mem_of_mem_take h)
    ·rcases List.mem_cons.mp h with rfl | h
     ·exact good_add kc VX
     ·exact k2 n (List.mem_of_mem_drop h)
   ·have hlen : (n2.map D.str).length = n2.length := by simp
    have hz : n2.length ≤ sizeLine := lz (by omega)
    have hz2 : n2.length < sizeLine := Nat.lt_of_lt_of_le (by omega) (lz (n := 1000) (by omega))
    have ax : aL (.str core) (.str "xd") H = .ok (.str (core ++ "xd")) H := by
     show (if core.length + ("xd" : Str).length ≤ sizeLine then _ else _) = _
     rw [hxd, if_pos (lz (by omega))]
    rw [List.map_append, List.map_cons, List.map_take, List.map_drop]
    have GW : fY (ds.map D.int) 17 = some (.int OL) := Tu
    have ON : fY (ds.map D.int) 18 = some (.int Pk) := VW
    generalize bf a b mix its = Rr
    generalize its.map bT = I
    generalize ds.map D.int = Ds at GW ON ⊢
    generalize ns.map D.int = Nn
    generalize core ++ "xd" = Cx at ax ⊢
    generalize n2.map D.str = Ns at hq hlen ⊢
    have hlen2 : Ns.length < sizeLine := by omega
    dsimp! [GW, ON, fM, Lm, hq, hlen, hz, hz2, hlen2, hp, hix, ax, jZ, hi1, LS]
  ·have Lm : (OL % 8 == 7) = false := beq_eq_false_iff_ne.mpr h7
   refine ⟨n2, H, by omega, k2, hq, ?_⟩
   have GW : fY (ds.map D.int) 17 = some (.int OL) := Tu
   generalize bf a b mix its = Rr
   generalize its.map bT = I
   generalize ds.map D.int = Ds at GW ⊢
   simp! [GW, fM, Lm]
 obtain ⟨n3, H3, l3, k3, VY, e3⟩ := OM
 have e4 := Jj a b mix its hil W hs n3 l3 k3 H3 q VY (.con (ns.map .int)) (.con (ds.map .int)) (.str core) (.con [.str (pn (n8 % 2) core "a"), .str (pn (n8 % 2) core "b"), .str (pn (n8 % 2) core "c")]) (.tup (its.map bT))
 refine ⟨[], ?_⟩
 unfold CG
 refine jY (R := H3) ?_ gF
 rw [List.nil_append, jI]
 unfold CF Gs
 have i1 : ∀ τ, cW 2 eF (ai (ah 0) (ai (eC (.int 24)) (aE))) (some (.con (ns.map .int)) :: τ) [] = .ok (.con (ds.map .int)) [] := by
  intro τ
  have OF : eF [.con (ns.map .int), .int 24] [] = .ok (.con (ds.map .int)) [] := ed
  generalize ns.map D.int = Nn at OF ⊢
  generalize ds.map D.int = Ds at OF ⊢
  simp! [OF]
 have i2 : ∀ τ, eFn (B6 (cW 1 cE (ai (ay bQ (ah 1) (eC (.int 12))) (aE))) (kH) (jD (eC (.int 6)))) (some (.con (ns.map .int)) :: some (.con (ds.map .int)) :: τ) [] = .ok (.str core) [] := by
  intro τ
  have OO : fY (ds.map D.int) 12 = some (.int s12) := h12
  generalize ns.map D.int = Nn
  generalize ds.map D.int = Ds at OO ⊢
  simp! [OO, et, hsl, cX]
 have i4 : ∀ d0 d2 τ, cW 2 fO (ai (ah 1) (ai (ah 3) (aE))) (d0 :: some (.con (ds.map .int)) :: d2 :: some (.con [.str (pn (n8 % 2) core "a"), .str (pn (n8 % 2) core "b"), .str (pn (n8 % 2) core "c")]) :: τ) [] = .ok (.tup (its.map bT)) [] := by
  intro d0 d2 τ
  generalize ds.map D.int = Ds at ei ⊢
  generalize [D.str (pn (n8 % 2) core "a"), .str (pn (n8 % 2) core "b"), .str (pn (n8 % 2) core "c")] = Pl at ei ⊢
  generalize its.map bT = I at ei ⊢
  simp! [ei]
 have i5 : ∀ d0 d2 d3 τ, az kE (ai (cW 1 cE (ai (ay bQ (ah 1) (eC (.int 14))) (aE))) (ai (cW 1 cE (ai (ay bQ (ah 1) (eC (.int 15))) (aE))) (ai (ay bQ (eFn (az bU (ai (eC (.str "row")) (ai (eC (.str "mix")) (aE))))) (ay fj (ay bQ (ah 1) (eC (.int 16))) (eC (.int 2)))) (ai (ah 4) (aE))))) (d0 :: some (.con (ds.map .int)) :: d2 :: d3 :: some (.tup (its.map bT)) :: τ) [] = .ok (bf a b mix its) [] := by
  intro d0 d2 d3 τ
  have OP : fY (ds.map D.int) 14 = some (.int Tr) := VT
  have OQ : fY (ds.map D.int) 15 = some (.int Tt) := VU
  have OR : fY (ds.map D.int) 16 = some (.int Pj) := VV
  unfold bf
  generalize (if mix = true then ("mix" : Str) else "row") = w at hm ⊢
  generalize ds.map D.int = Ds at OP OQ OR ⊢
  generalize its.map bT = I
  simp! [OP, OQ, OR, ea, eb, cX, hfr, hm, h4]
 have i6 : ∀ d0 d2 d3 τ, cW 2 fP (ai (ah 1) (ai (cW 2 eL (ai (ah 1) (ai (ah 4) (aE)))) (aE))) (d0 :: some (.con (ds.map .int)) :: d2 :: d3 :: some (.tup (its.map bT)) :: τ) [] = .ok (.obj q) H := by
  intro d0 d2 d3 τ
  have xw : eL [.con (ds.map .int), .tup (its.map bT)] [] = .ok (.obj 0) [.lst (n1.map .str)] := e1
  generalize ds.map D.int = Ds at xw e2 ⊢
  generalize its.map bT = I at xw ⊢
  generalize [DO.lst (n1.map .str)] = H0 at xw e2
  simp! [xw, e2]
 simp only [List.map_cons, List.map_nil, List.length_cons, List.length_nil, List.cons_append, List.nil_append, List.replicate]
 rw [br, cC, i1, dU, bJ]
 simp only [List.set_cons_succ, List.set_cons_zero]
 rw [br, cC, i2, dU, bJ]
 simp only [List.set_cons_succ, List.set_cons_zero]
 rw [br, cC, po, dU, bJ]
 simp only [List.set_cons_succ, List.set_cons_zero]
 rw [br, cC, i4, dU, bJ]
 simp only [List.set_cons_succ, List.set_cons_zero]
 rw [br, cC, i5, dU, bJ]
 simp only [List.set_cons_succ, List.set_cons_zero]
 rw [br, cC, i6, dU, bJ]
 simp only [List.set_cons_succ, List.set_cons_zero]
 rw [br, e3, bJ, e4, jJ]
end K21
end
end
section
set_option Elab.async false
set_option linter.all false
set_option maxRecDepth 100000
set_option maxHeartbeats 4000000
namespace K21
open PySem PySem.Spec L2 L3
theorem walk {l : PySem.W.OpenLaw} {qq : Program} {loose : List Str} {XP : (Str → Option Value) → Heap → Prop} {YP : World → Heap → Prop} {d : DefRec} {K : Params → PySem.W.Frag} (hn : l.most = some 63) (hdf : d.params.defaults = [])
    (hY : ∀ (w : World) (h : Heap), YP w h → (K w.params).In h)
    (F : ∀ (w : World) (mg : Str → Option Value) (fa : Addr) (h : Heap), (K w.params).In h → h.Ns mainGlobals mg → mg d.name = some (.ref fa) → ∃ t, Txt (K w.params) mg t ∧ (t.f 14) = fa ∧ ∀ (s : Shared) (u : Value), BindsTo s (t.d 14) ⟨[u], []⟩ [("_law_script", u)]) :
    PySem.W.WalkO qq loose XP YP l.row.toRowW d [] (fun f vs => PySem.call f vs) :=
  L2.HF (n := 63) (k := 6) (x := "_law_script") (CX := fun w => fV l.prog w) (sp := fun w => Jt (K w.params)) hn (by decide) hdf ⟨rfl, by decide, by decide⟩ hY (fun w mg fa h KX G hm => by
    obtain ⟨t, T, rfl, hb⟩ := F w mg fa h KX G hm
    exact ⟨(t.d 14), hb, fun base _ _ => (LI T).imp (Fe GV)⟩) (fun _ _ a ns hl hO hS => ⟨a, ns, rfl, La hO hS, hl, fun _ => rfl⟩) fun _ _ _ _ _ ⟨_, _, _, _, _, _, _, _, z⟩ => z
end K21
end
open PySem PySem.W PyProof.Rows
set_option maxRecDepth 100000 in
set_option maxHeartbeats 0 in
theorem PySem.Challenge.cw_pathshape_k21_rows_let_by_holds : PySem.Challenge.rw_pathshape_k21_rows_let_by.Holds := by
  w_on; o_law; k_head; (case hw => w_witness2)
  k_fill
  refine K21.walk (l := PySem.Challenge.rw_pathshape_k21_rows_let_by) rfl rfl (fun w h Y => PySem.W.kIn_of Y) ?F
  case F =>
    intro w mg fa h KX G hmg
    have T : ∃ t, K21.Txt (L2.KOf KX) mg t ∧ ∃ kV dc pm an cd ct, (t.d 14) = PySem.W.fnOf "law" "law" (L2.aR K21.b8) (L2.aO K21.b8) (L2.aa K21.b8) .none kV dc pm an cd ct := by
      dsimp only [L2.KOf]
      refine' K21.LB KX G ?my_a0 ?my_l0 ?my_c0 ?my_k0 ?my_a1 ?my_l1 ?my_c1 ?my_k1 ?my_a2 ?my_l2 ?my_c2 ?my_k2 ?my_a3 ?my_l3 ?my_c3 ?my_k3 ?my_a4 ?my_l4 ?my_c4 ?my_k4 ?my_a5 ?my_l5 ?my_c5 ?my_k5 ?my_a6 ?my_l6 ?my_c6 ?my_k6 ?my_a7 ?my_l7 ?my_c7 ?my_k7 ?my_a8 ?my_l8 ?my_c8 ?my_k8 ?my_a9 ?my_l9 ?my_c9 ?my_k9 ?my_a10 ?my_l10 ?my_c10 ?my_k10 ?my_a11 ?my_l11 ?my_c11 ?my_k11 ?my_a12 ?my_l12 ?my_c12 ?my_k12 ?my_a13 ?my_l13 ?my_c13 ?my_k13 ?my_a14 ?my_l14 ?my_c14 ?my_k14 ?my_z0 ?my_z1 ?my_z2 ?my_z3 ?my_z4 ?my_z5 ?my_z6 ?my_z7 ?my_z8 ?my_z9 ?my_z10 ?my_z11 ?my_z12
      (case my_a0 => k_is)
      (case my_l0 => k_is)
      (case my_c0 => k_is)
      (case my_k0 => k_is)
      (case my_a1 => k_is)
      (case my_l1 => k_is)
      (case my_c1 => k_is)
      (case my_k1 => k_is)
      (case my_a2 => k_is)
      (case my_l2 => k_is)
      (case my_c2 => k_is)
      (case my_k2 => k_is)
      (case my_a3 => k_is)
      (case my_l3 => k_is)
      (case my_c3 => k_is)
      (case my_k3 => k_is)
      (case my_a4 => k_is)
      (case my_l4 => k_is)
      (case my_c4 => k_is)
      (case my_k4 => k_is)
      (case my_a5 => k_is)
      (case my_l5 => k_is)
      (case my_c5 => k_is)
      (case my_k5 => k_is)
      (case my_a6 => k_is)
      (case my_l6 => k_is)
      (case my_c6 => k_is)
      (case my_k6 => k_is)
      (case my_a7 => k_is)
      (case my_l7 => k_is)
      (case my_c7 => k_is)
      (case my_k7 => k_is)
      (case my_a8 => k_is)
      (case my_l8 => k_is)
      (case my_c8 => k_is)
      (case my_k8 => k_is)
      (case my_a9 => k_is)
      (case my_l9 => k_is)
      (case my_c9 => k_is)
      (case my_k9 => k_is)
      (case my_a10 => k_is)
      (case my_l10 => k_is)
      (case my_c10 => k_is)
      (case my_k10 => k_is)
      (case my_a11 => k_is)
      (case my_l11 => k_is)
      (case my_c11 => k_is)
      (case my_k11 => k_is)
      (case my_a12 => k_is)
      (case my_l12 => k_is)
      (case my_c12 => k_is)
      (case my_k12 => k_is)
      (case my_a13 => k_is)
      (case my_l13 => k_is)
      (case my_c13 => k_is)
      (case my_k13 => k_is)
      (case my_a14 => k_is)
      (case my_l14 => k_is)
      (case my_c14 => k_is)
      (case my_k14 => k_is)
      (case my_z0 => k_is)
      (case my_z1 => k_is)
      (case my_z2 => k_is)
      (case my_z3 => k_is)
      (case my_z4 => k_is)
      (case my_z5 => k_is)
      (case my_z6 => k_is)
      (case my_z7 => k_is)
      (case my_z8 => k_is)
      (case my_z9 => k_is)
      (case my_z10 => k_is)
      (case my_z11 => k_is)
      (case my_z12 => k_is)
    obtain ⟨t, T, kV, dc, pm, an, cd, ct, e⟩ := T
    have e0 := hmg.symm.trans T.M_law
    cases e0
    exact ⟨t, T, rfl, fun s u => by rw [e]; exact .of_eq rfl⟩
