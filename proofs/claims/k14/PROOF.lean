import PyProof.Rows.All
import Wide.All
import OpenK.AllK
import Wide.FinOn
import Lean
import PyProof.EqAt
import PyProof.EqKinds
import PyProof.TupleCall
import PyProof.StrWalks
import KE.KTryMore
import PyProof.ZipIter
import PyProof.Rows.Range3
import PyProof.Draws
import PyProof.WalksMore
import PyProof.ExcBaseAll.ValueError
import PyProof.StrReplace2
import PyProof.FactsAll.range_2
import KE.KRevIter
import PySem.Challenge.RW_pathshape_k14_ways_written
section
set_option Elab.async false
set_option linter.all false
set_option maxRecDepth 100000
namespace L2
open PySem PySem.Spec PyProof.Rows
noncomputable abbrev Key := Sum Int Str
noncomputable def LL : Key → Value → Bool
  | .inl k, v => Value.isInt k v
  | .inr x, v => Value.isStrOf x v
noncomputable def S1 (w : World) : Key → Int
  | .inl k => hashInt k
  | .inr x => hashStr w x
theorem fG : ∀ {k : Key} {v : Value}, LL k v = true → (∃ i t, k = Sum.inl i ∧ v = Value.int i t) ∨ (∃ x t, k = Sum.inr x ∧ v = Value.str x t)
  | .inl i, v, h => by
    obtain ⟨t, e⟩ := Value.isInt_shape (k := i) (v := v) h
    exact .inl ⟨i, t, rfl, e⟩
  | .inr x, v, h => by
    obtain ⟨t, e⟩ := Value.isStrOf_shape (x := x) (v := v) h
    exact .inr ⟨x, t, rfl, e⟩
theorem Mq (a b : Int) : decide ((Sum.inl a : Key) = Sum.inl b) = (a == b) := by
  by_cases e : a = b
  · subst e; simp
  · have h : ¬ (Sum.inl a : Key) = Sum.inl b := fun q => e (Sum.inl.inj q)
    rw [decide_eq_false h]
    exact (beq_eq_false_iff_ne.mpr e).symm
theorem Mr (a b : Str) : decide ((Sum.inr a : Key) = Sum.inr b) = decide (a = b) := by
  by_cases e : a = b
  · subst e; simp
  · have h : ¬ (Sum.inr a : Key) = Sum.inr b := fun q => e (Sum.inr.inj q)
    rw [decide_eq_false h, decide_eq_false e]
theorem Ms (a : Int) (b : Str) : decide ((Sum.inl a : Key) = Sum.inr b) = false := decide_eq_false (fun q => nomatch q)
theorem Mt (a : Str) (b : Int) : decide ((Sum.inr a : Key) = Sum.inl b) = false := decide_eq_false (fun q => nomatch q)
noncomputable def Aw (prog : Program) (w : World) : PySem.KeyKind prog w Key where
  is := LL
  hash := S1 w
  inj := fun v a b ha hb => by
    rcases fG ha with ⟨i, t, rfl, rfl⟩ | ⟨x, t, rfl, rfl⟩
    · rcases fG hb with ⟨j, u, rfl, e⟩ | ⟨y, u, rfl, e⟩
      · injection e with e1 _; rw [e1]
      · exact nomatch e
    · rcases fG hb with ⟨j, u, rfl, e⟩ | ⟨y, u, rfl, e⟩
      · exact nomatch e
      · injection e with e1 _; rw [e1]
  byValue := fun k v h => by
    rcases fG h with ⟨i, t, rfl, rfl⟩ | ⟨x, t, rfl, rfl⟩ <;> rfl
  pyHash := fun hv h => by
    rcases fG hv with ⟨i, t, rfl, rfl⟩ | ⟨x, t, rfl, rfl⟩
    · exact wpAny_pyHash_int h
    · exact wpAny_pyHash_str h
  eqBool := fun hu hv h => by
    rcases fG hu with ⟨i, t, rfl, rfl⟩ | ⟨x, t, rfl, rfl⟩
    · rcases fG hv with ⟨j, u, rfl, rfl⟩ | ⟨y, u, rfl, rfl⟩
      · rw [Mq] at h; exact wpAny_eqBool_int h
      · rw [Ms] at h; exact SeqAt.EqAt.int_str i t y u _ _ _ _ h
    · rcases fG hv with ⟨j, u, rfl, rfl⟩ | ⟨y, u, rfl, rfl⟩
      · rw [Mt] at h; exact SeqAt.EqAt.str_int x t j u _ _ _ _ h
      · rw [Mr] at h; exact wpAny_eqBool_str h
  «strs» := fun k x t v h => by
    rcases fG h with ⟨i, u, rfl, e⟩ | ⟨y, u, rfl, e⟩
    · exact nomatch e
    · injection e with e1 _
      subst e1
      cases v <;> rfl
end L2
namespace L2
open PySem PySem.Spec PyProof.Rows
inductive V where
  | kr | bl (b : Bool) | int (i : Int) | str (x : Str) | OY (b : Array UInt8) | OZ (b : UInt64) | ref (a : Addr) | ty (n : String)
  deriving DecidableEq
noncomputable def RelV : V → Value → Prop
  | .kr, u => u = Value.none
  | .bl b, u => u = Value.bool b
  | .int i, u => ∃ t, u = Value.int i t
  | .str x, u => ∃ t, u = Value.str x t
  | .OY b, u => ∃ t, u = Value.bytes b t
  | .OZ b, u => ∃ t, u = Value.float b t
  | .ref a, u => u = Value.ref a
  | .ty n, u => u = Value.type n
noncomputable abbrev Vals : List V → List Value → Prop := Paired RelV
theorem Vals.length {xs : List V} {us : List Value} (r : Vals xs us) : xs.length = us.length := Paired.length r
theorem Vals.get : ∀ {xs : List V} {us : List Value} {i : Nat} {x : V}, Vals xs us → xs[i]? = some x → ∃ u, us[i]? = some u ∧ RelV x u
  | _, _, _, _, .nil, e => by simp at e
  | _, _, 0, _, .cons r _, e => by simp at e; subst e; exact ⟨_, rfl, r⟩
  | _, _, i + 1, x, .cons _ t, e => by
    obtain ⟨u, h1, h2⟩ := Vals.get (i := i) (x := x) t (by simpa using e)
    exact ⟨u, by simpa using h1, h2⟩
theorem Vals.set {x : V} {u : Value} (r : RelV x u) : ∀ {xs : List V} {us : List Value} (i : Nat), Vals xs us → Vals (xs.set i x) (us.set i u)
  | _, _, _, .nil => .nil
  | _, _, 0, .cons _ t => .cons r t
  | _, _, i + 1, .cons q t => .cons q (Vals.set r i t)
theorem Vals.append : ∀ {xs ys : List V} {us ws : List Value}, Vals xs us → Vals ys ws → Vals (xs ++ ys) (us ++ ws)
  | _, _, _, _, .nil, s => s
  | _, _, _, _, .cons r t, s => .cons r (Vals.append t s)
theorem Vals.take : ∀ {xs : List V} {us : List Value} (n : Nat), Vals xs us → Vals (xs.take n) (us.take n)
  | _, _, 0, _ => .nil
  | _, _, _ + 1, .nil => .nil
  | _, _, n + 1, .cons r t => .cons r (Vals.take n t)
theorem Vals.drop : ∀ {xs : List V} {us : List Value} (n : Nat), Vals xs us → Vals (xs.drop n) (us.drop n)
  | _, _, 0, r => r
  | _, _, _ + 1, .nil => .nil
  | _, _, n + 1, .cons _ t => Vals.drop n t
noncomputable def J3 : Option V → Option Value → Prop
  | some v, some u => RelV v u
  | none, none => True
  | _, _ => False
noncomputable def KV {κ : Type} : List (κ × V) → List (κ × Value) → Prop := Paired fun (p : κ × V) (q : κ × Value) => p.1 = q.1 ∧ RelV p.2 q.2
noncomputable def kV : Key → V
  | .inl i => .int i
  | .inr x => .str x
inductive HO where
  | lst (xs : List V)
  | tup (xs : List V)
  | dK (kvs : List (Key × V)) | dT (kvs : List (List Key × V))
  | set (S : Int → Bool) (n : Nat)
  | ins (C dx : Addr) (fs : List (Str × V))
  | own (x : Addr)
  | xd (fs : List (Str × V))
  | met (f x : Addr)
  | FN (lo hi : Int)
  | oE (o : Obj) (u : HO)
  | BI (ps : Array Value)
  | ext (φ : Heap → Prop)
noncomputable abbrev Hp := Addr → Option HO
noncomputable def upd (H : Hp) (a : Addr) (o : HO) : Hp := fun b => if b = a then some o else H b
theorem gB {H : Hp} {a : Addr} {o : HO} : upd H a o a = some o := by unfold upd; rw [if_pos rfl]
theorem bL {H : Hp} {a b : Addr} {o : HO} (h : b ≠ a) : upd H a o b = H b := by unfold upd; rw [if_neg h]
theorem mP {H : Hp} {a b : Addr} {o u : HO} (h : H a = some o) (h' : H b = some u) (d : o ≠ u) : a ≠ b := by
  intro e; subst e; rw [h] at h'; exact d (Option.some.inj h')
theorem e8 {H : Hp} {a b : Addr} {o : HO} (h : H a = some o) (h' : H b = none) : a ≠ b := by
  intro e; subst e; rw [h] at h'; cases h'
section
variable (P : Program) (w : World)
noncomputable def lS (H : Hp) (h : Heap) (a : Addr) : HO → Prop
  | .lst xs => xs.length ≤ sizeLine ∧ ∃ (its : List Value) (n : Nat), Vals xs its ∧ h.get? a = some { cls := .type "list", data := .seq its.toArray n }
  | .tup xs => xs.length ≤ sizeLine ∧ ∃ its : List Value, Vals xs its ∧ IsTup h a its.toArray
  | .dK kvs => kvs.length ≤ sizeLine ∧ (a == sysModules) = false ∧ ∃ vs, KV kvs vs ∧ h.DictOf (Aw P w) a vs
  | .dT kvs => kvs.length ≤ sizeLine ∧ (a == sysModules) = false ∧ ∃ xs : List (List Key × Addr × Value),
      Paired (fun (p : List Key × V) (q : List Key × Addr × Value) => p.1 = q.1 ∧ H q.2.1 = some (.tup (p.1.map kV)) ∧ RelV p.2 q.2.2) kvs xs ∧
      ∃ o es ep, h.get? a = some o ∧ o.ExactDict ∧ o.data = .dict es ep ∧ es.toList = xs.map (entryOfKey (tupleKind (Aw P w))) ∧ (xs.map (·.1)).Nodup
  | .set S n => h.SetOf (intKind P w) a S n
  | .ins C dx fs => H dx = some (.own a) ∧ fs.length ≤ 1000 ∧ dx ≠ a ∧ h.get? a = some (PySem.W.instObj C dx) ∧
      ∃ mA, h.Ns1 dx mA ∧ (∀ f, J3 (fs.lookup f) (mA f)) ∧ PySem.Within mA (fs.map (·.1))
  | .own _ => ∃ o, h.get? a = some o
  | .xd fs => ∃ mA, h.Ns1 a mA ∧ ∀ f, J3 (fs.lookup f) (mA f)
  | .FN lo hi => ∃ t u v, h.get? a = some { cls := .type "range", data := .fields #[.int lo t, .int hi u, .int 1 v] }
  | .oE o u => h.get? a = some o ∧ lS H h a u
  | .BI ps => h.get? a = some { cls := .none, data := .fields ps }
  | .met f x => h.get? a = some (PySem.W.methodObj (.ref f) (.ref x))
  | .ext φ => φ h ∧ (∃ o, h.get? a = some o) ∧ ∀ h1 h2 : Heap, φ h1 → (∀ o, h1.get? a = some o → h2.get? a = some o) → φ h2
noncomputable def sW (H : Hp) (h : Heap) : Prop := ∀ a o, H a = some o → lS P w H h a o
end
section
variable {P : Program} {w : World} {H H' : Hp} {h h' : Heap} {a : Addr} {o : HO}
theorem lS.lt (x : lS P w H h a o) : a < h.objs.size := by
  cases o with
  | lst xs => obtain ⟨_, _, _, _, e⟩ := x; exact Heap.lt_size e
  | tup xs => obtain ⟨_, _, _, p⟩ := x; exact p.lt
  | dK kvs => obtain ⟨_, _, _, _, o, _, _, e, _⟩ := x; exact Heap.lt_size e
  | dT kvs => obtain ⟨_, _, _, _, o, _, _, e, _⟩ := x; exact Heap.lt_size e
  | set S n => obtain ⟨o, _, _, _, e, _⟩ := x; exact Heap.lt_size e
  | ins C dx fs => obtain ⟨_, _, _, e, _⟩ := x; exact Heap.lt_size e
  | own y => obtain ⟨_, e⟩ := x; exact Heap.lt_size e
  | xd fs => obtain ⟨_, ⟨_, _, _, e, _⟩, _⟩ := x; exact Heap.lt_size e
  | FN lo hi => obtain ⟨_, _, _, e⟩ := x; exact Heap.lt_size e
  | oE ob u => obtain ⟨e, _⟩ := x; exact Heap.lt_size e
  | BI ps => exact Heap.lt_size (show h.get? a = some _ from x)
  | met f y => exact Heap.lt_size (show h.get? a = some _ from x)
  | ext φ => obtain ⟨_, ⟨_, e⟩, _⟩ := x; exact Heap.lt_size e
theorem Paired.Mu {α β : Type} {F G : α → β → Prop} : ∀ {l₁ : List α} {l₂ : List β}, Paired F l₁ l₂ → (∀ a b, F a b → G a b) → Paired G l₁ l₂
  | _, _, .nil, _ => .nil
  | _, _, .cons r t, f => .cons (f _ _ r) (Paired.Mu t f)
theorem lS.stay (x : lS P w H h a o) (k : ∀ b u, (b = a ∨ H b = some (.own a)) → h.get? b = some u → h'.get? b = some u)
    (ho : ∀ b, H b = some (.own a) → H' b = some (.own a)) (ht : ∀ b xs, H b = some (.tup xs) → H' b = some (.tup xs)) : lS P w H' h' a o := by
  induction o with
  | lst xs => obtain ⟨z, its, n, r, e⟩ := x; exact ⟨z, its, n, r, k _ _ (.inl rfl) e⟩
  | tup xs => obtain ⟨z, its, r, ob, e, c⟩ := x; exact ⟨z, its, r, ob, k _ _ (.inl rfl) e, c⟩
  | dK kvs => obtain ⟨z, y, vs, r, ob, es, ep, e, c⟩ := x; exact ⟨z, y, vs, r, ob, es, ep, k _ _ (.inl rfl) e, c⟩
  | dT kvs =>
    obtain ⟨z, y, xs, r, ob, es, ep, e, c⟩ := x
    exact ⟨z, y, xs, Paired.Mu r fun p q z => ⟨z.1, ht _ _ z.2.1, z.2.2⟩, ob, es, ep, k _ _ (.inl rfl) e, c⟩
  | set S n => obtain ⟨ob, es, ep, t, e, c⟩ := x; exact ⟨ob, es, ep, t, k _ _ (.inl rfl) e, c⟩
  | ins C dx fs =>
    obtain ⟨d, z, ne, e, mA, ⟨od, es, ep, e2, c⟩, r⟩ := x
    exact ⟨ho _ d, z, ne, k _ _ (.inl rfl) e, mA, ⟨od, es, ep, k _ _ (.inr d) e2, c⟩, r⟩
  | own y => obtain ⟨ob, e⟩ := x; exact ⟨ob, k _ _ (.inl rfl) e⟩
  | xd fs => obtain ⟨mA, ⟨od, es, ep, e, c⟩, r⟩ := x; exact ⟨mA, ⟨od, es, ep, k _ _ (.inl rfl) e, c⟩, r⟩
  | FN lo hi => obtain ⟨t, u, v, e⟩ := x; exact ⟨t, u, v, k _ _ (.inl rfl) e⟩
  | oE ob u ih => obtain ⟨e, q⟩ := x; exact ⟨k _ _ (.inl rfl) e, ih q⟩
  | BI ps =>
    have e : h.get? a = some { cls := .none, data := .fields ps } := x
    show h'.get? a = some { cls := .none, data := .fields ps }
    exact k a _ (.inl rfl) e
  | met f y =>
    have e : h.get? a = some (PySem.W.methodObj (.ref f) (.ref y)) := x
    show h'.get? a = some (PySem.W.methodObj (.ref f) (.ref y))
    exact k a _ (.inl rfl) e
  | ext φ => obtain ⟨p, ⟨o, e⟩, st⟩ := x; exact ⟨st _ _ p fun o q => k _ _ (.inl rfl) q, ⟨o, k _ _ (.inl rfl) e⟩, st⟩
theorem sW.lt (x : sW P w H h) (e : H a = some o) : a < h.objs.size := (x a o e).lt
theorem sW.fresh (x : sW P w H h) (e : h.objs.size ≤ a) : H a = none := by
  cases q : H a with
  | none => rfl
  | some u => exact absurd (Nat.lt_of_lt_of_le (x.lt q) e) (Nat.lt_irrefl _)
theorem sW.kept (x : sW P w H h) (k : ∀ b u, h.get? b = some u → h'.get? b = some u) : sW P w H h' := fun a o e =>
  (x a o e).stay (fun b u _ q => k b u q) (fun _ q => q) fun _ _ q => q
theorem sW.laid (x : sW P w H h) (k : ∀ b u, h.get? b = some u → h'.get? b = some u) (hp : h.objs.size ≤ a) (new : lS P w (upd H a o) h' a o) : sW P w (upd H a o) h' := fun b u e => by
  have hn := x.fresh hp
  by_cases hb : b = a
  · subst hb; rw [gB] at e; cases e; exact new
  · rw [bL hb] at e
    exact (x b u e).stay (fun c v _ q => k c v q) (fun c q => by rw [bL (e8 q hn)]; exact q) fun c xs q => by rw [bL (e8 q hn)]; exact q
end
noncomputable def Rd (H : Hp) (a : Addr) (u : HO) : Prop := H a = some u ∨ ∃ o, H a = some (.oE o u)
theorem Rd.of {H : Hp} {a : Addr} {u : HO} (h : H a = some u) : Rd H a u := .inl h
theorem Rd.ok {P : Program} {w : World} {H : Hp} {h : Heap} {a : Addr} {u : HO} (r : Rd H a u) (x : sW P w H h) : lS P w H h a u := by
  rcases r with r | ⟨o, r⟩
  · exact x a u r
  · obtain ⟨_, q⟩ := x a _ r
    exact q
noncomputable def Sg : Option HO → Prop
  | some (.lst _) => True
  | some (.dK _) => True
  | some (.dT _) => True
  | some (.set _ _) => True
  | some (.ins _ _ _) => True
  | some (.ext _) => True
  | _ => False
section
variable {P : Program} {w : World} {H : Hp} {h h' : Heap} {x e : Addr} {o' : HO}
theorem sW.write (ok : sW P w H h) (mu : Sg (H x)) (he : e = x ∨ H e = some (.own x)) (k : ∀ b u, b ≠ e → h.get? b = some u → h'.get? b = some u) (OJ : ∃ u, h'.get? e = some u)
    (new : lS P w (upd H x o') h' x o') : sW P w (upd H x o') h' := fun b u q => by
  have O0 : ∀ c y, H c = some (.own y) → c ≠ x := fun c y r z => by subst z; rw [r] at mu; exact mu
  have S2 : ∀ c xs, H c = some (.tup xs) → c ≠ x := fun c xs r z => by subst z; rw [r] at mu; exact mu
  by_cases hb : b = x
  · subst hb; rw [gB] at q; cases q; exact new
  · rw [bL hb] at q
    by_cases JT : b = e
    · have q' : H b = some (.own x) := by
        rcases he with z | z
        · exact absurd (JT.trans z) hb
        · rw [JT]; exact z
      rw [q] at q'; cases q'
      obtain ⟨v, hv⟩ := OJ
      exact ⟨v, by rw [JT]; exact hv⟩
    · refine (ok b u q).stay (fun c v hc r => k c v ?_ r) (fun c r => by rw [bL (O0 c b r)]; exact r) fun c xs r => by rw [bL (S2 c xs r)]; exact r
      rcases hc with rfl | hc
      · exact JT
      · rintro rfl
        rcases he with z | z
        · exact O0 c b hc z
        · rw [hc] at z; cases z; exact hb rfl
end
structure Un (fs ex : List Addr) (H H' : Hp) (h h' : Heap) : Prop where
  keep : ∀ b o, h.get? b = some o → H b = none → b ∉ fs → b ∉ ex → h'.get? b = some o
  slot : ∀ b o, h.get? b = some o → H b = none → b ∈ fs → b ∉ ex → ∃ sl, h'.get? b = some { o with slots := sl }
  free : ∀ b o, h.get? b = some o → H b = none → b ∉ ex → H' b = none
  there : ∀ b o, h.get? b = some o → b ∉ ex → ∃ o', h'.get? b = some o'
  tups : ∀ b xs, H b = some (.tup xs) → H' b = some (.tup xs)
  qR : ∀ b o u, H b = some (.oE o u) → H' b = some (.oE o u)
  rO : ∀ b ps, H b = some (.BI ps) → ∃ more, H' b = some (.BI (ps ++ more))
section
variable {fs fs' ex ex' : List Addr} {H H1 H2 : Hp} {h h1 h2 h' : Heap} {a x e : Addr} {o : HO}
theorem Un.any (u : Un fs ex H H1 h h1) {b : Addr} {ob : Obj} (q : h.get? b = some ob) (n : H b = none) (hx : b ∉ ex) : ∃ sl, h1.get? b = some { ob with slots := sl } := by
  by_cases hb : b ∈ fs
  · exact u.slot b ob q n hb hx
  · exact ⟨ob.slots, u.keep b ob q n hb hx⟩
theorem Un.kept (k : ∀ b u, h.get? b = some u → h'.get? b = some u) : Un fs ex H H h h' :=
  ⟨fun b ob q _ _ _ => k b ob q, fun b ob q _ _ _ => ⟨ob.slots, k b ob q⟩, fun _ _ _ n _ => n, fun b ob q _ => ⟨ob, k b ob q⟩, fun _ _ q => q, fun _ _ _ q => q, fun _ ps q => ⟨#[], by rw [q]; simp⟩⟩
theorem Un.refl : Un fs ex H H h h := Un.kept fun _ _ q => q
theorem Un.laid (k : ∀ b u, h.get? b = some u → h'.get? b = some u) (hp : h.objs.size ≤ a) (hn : H a = none) : Un fs ex H (upd H a o) h h' where
  keep := fun b u q _ _ _ => k b u q
  slot := fun b u q _ _ _ => ⟨u.slots, k b u q⟩
  free := fun b u q n _ => by rw [bL (Nat.ne_of_lt (Nat.lt_of_lt_of_le (Heap.lt_size q) hp))]; exact n
  there := fun b u q _ => ⟨u, k b u q⟩
  tups := fun b xs q => by rw [bL (e8 q hn)]; exact q
  qR := fun b u xs q => by rw [bL (e8 q hn)]; exact q
  rO := fun b ps q => ⟨#[], by rw [bL (e8 q hn), q]; simp⟩
theorem Un.write (mu : Sg (H x)) (he : e = x ∨ H e = some (.own x)) (k : ∀ b u, b ≠ e → h.get? b = some u → h'.get? b = some u) (OJ : ∃ u, h'.get? e = some u) : Un fs ex H (upd H x o) h h' := by
  have hx : ∀ b, H b = none → b ≠ x := fun b n z => by subst z; rw [n] at mu; exact mu
  have hb : ∀ b, H b = none → b ≠ e := fun b n z => by
    subst z
    rcases he with r | r
    · exact hx b n r
    · rw [n] at r; cases r
  have hm : ∀ b u, H b = some u → ¬ Sg (some u) → b ≠ x := fun b u q nm z => by subst z; rw [q] at mu; exact nm mu
  refine ⟨fun b u q n _ _ => k b u (hb b n) q, fun b u q n _ _ => ⟨u.slots, k b u (hb b n) q⟩, fun b u q n _ => by rw [bL (hx b n)]; exact n, fun b u q _ => ?_,
    fun b xs q => by rw [bL (hm b _ q fun z => z)]; exact q, fun b u xs q => by rw [bL (hm b _ q fun z => z)]; exact q, fun b ps q => ⟨#[], by rw [bL (hm b _ q fun z => z), q]; simp⟩⟩
  by_cases JT : b = e
  · subst JT; exact OJ
  · exact ⟨u, k b u JT q⟩
end
noncomputable def Sh (h : Heap) (H : Hp) : List Addr := (List.range h.objs.size).filter fun a => (H a).isSome
noncomputable def Ax (h : Heap) (H : Hp) : Heap := PySem.W.hideAll h (Sh h H)
theorem FO (h : Heap) (H : Hp) : (Ax h H).objs.size = h.objs.size := PySem.W.hideAll_size _ _
theorem Hu {h : Heap} {H : Hp} {b : Addr} {o : Obj} (e : h.get? b = some o) (n : H b = none) : (Ax h H).get? b = some o :=
  PySem.W.hideAll_get _ e fun hm => by
    have q : (H b).isSome = true := (List.mem_filter.mp hm).2
    rw [n] at q; simp at q
theorem J4 {h : Heap} {H : Hp} {b : Addr} {o : Obj} (e : (Ax h H).get? b = some o) : h.get? b = some o ∧ H b = none := by
  have e' : h.get? b = some o := PySem.W.of_hideAll (Sh h H) e
  refine ⟨e', ?_⟩
  cases q : H b with
  | none => rfl
  | some x =>
    have hm : b ∈ Sh h H := List.mem_filter.mpr ⟨List.mem_range.mpr (Heap.lt_size e'), by simp [q]⟩
    have z : (Ax h H).get? b = none := PySem.W.hideAll_none (Sh h H) hm
    rw [z] at e; cases e
noncomputable def J5 (g h : Heap) (L : Addr) : List (Addr × Obj) := (List.range h.objs.size).filterMap fun a => if a = L ∨ (g.get? a).isSome = true then none else (h.get? a).map fun o => (a, o)
noncomputable def rest (g h : Heap) (L d : Addr) : List (Addr × Obj) := (J5 g h L).filter fun p => decide (p.1 ≠ d)
end L2
namespace L2
open PySem PySem.Spec PyProof.Rows
structure Mod (K : PySem.W.Frag) (mg : Str → Option Value) (base : Heap) : Prop where
  Mv : K.In base
  glob : base.Ns mainGlobals mg
  blt : ∃ mb, base.Ns builtinsNs mb ∧ ∀ x : Str, x ≠ "__name__" → mb x = bootBuiltins x
  nolimit : base.NoLimit
structure Cx where
  prog : Program
  w : World
  K : PySem.W.Frag
  mg : Str → Option Value
  base : Heap
  A : Around
  N : List Str
  s₀ : Shared
  H₀ : Hp
  env : Env
  outer : List Env
  stack : List Env
  ex : List Addr
  fn : Str → Bool
  calm : Bool
  pn : List (Addr × Obj)
  xe : Value → Shared → Prop
noncomputable def frs (l : List Env) : List Addr := l.filterMap (·.frame)
noncomputable abbrev Cx.fs (X : Cx) : List Addr := frs X.outer
noncomputable def Mw (sc : Scope) (x : Str) : Prop := sc.names.lookup x = some .local ∨ sc.names.lookup x = some .cell ∨ sc.names.lookup x = some .free
noncomputable def Loc (sc : Scope) (x : Str) : Prop := sc.names.lookup x = some .local ∨ sc.names.lookup x = some .cell
noncomputable def Look (env : Env) (h : Heap) (m : Str → Option Value) (x : Str) (u : Value) : Prop :=
  (env.kindOf x = some .local ∧ m x = some u) ∨ ((env.kindOf x = some .cell ∨ env.kindOf x = some .free) ∧ ∃ c, env.cells.lookup x = some c ∧ h.IsCell c (some u))
structure Cx.Ok (X : Cx) : Prop where
  mod : Mod X.K X.mg X.base
  kind : X.env.scope.kind = .function
  glob : X.env.globals = mainGlobals
  blt : X.env.builtins = builtinsNs
  above : X.s₀.heap.objs.size ≤ X.env.locals
  inj : ∀ x y c, X.env.cells.lookup x = some c → X.env.cells.lookup y = some c → x = y
  has : ∀ x, (X.env.kindOf x = some .cell ∨ X.env.kindOf x = some .free) → ∃ c, X.env.cells.lookup x = some c
  S8 : ∀ x c, X.fn x = true → X.env.cells.lookup x = some c → X.s₀.heap.objs.size ≤ c
  hd : X.calm = true → X.A.handled = none
  frames : X.A.frames = some X.stack
  stk : X.stack = X.outer ∨ (X.stack = X.env :: X.outer ∧ X.env.frame = some X.env.locals)
  exf : ∀ b ∈ X.ex, b ≠ X.env.locals ∧ ∀ x c, X.env.cells.lookup x = some c → c ≠ b
  bs : ∀ b o, X.base.get? b = some o → X.s₀.heap.get? b = some o ∧ X.H₀ b = none
  LM : X.base.objs.size ≤ X.s₀.heap.objs.size
  Mx : ∀ b o, X.base.get? b = some o → b ∉ X.ex
  My : ∀ b ∈ X.ex, b ∉ X.fs
  wC : X.s₀.heap.FunFrames X.base X.outer
  Mz : ∀ b ∈ X.fs, X.H₀ b = none
structure Inv (X : Cx) (pins : List (Addr × Obj)) (σ : List (Option V)) (H : Hp) (s : Shared) : Prop where
  ok : X.Ok
  os : s.os = X.s₀.os ∧ 0 < s.toks
  bare : AllBare s.gens
  base : Un X.fs X.ex X.H₀ H X.s₀.heap s.heap
  loc : ∃ m, s.heap.Ns X.env.locals m ∧ ∀ (i : Nat) (x : Str) (v : V), X.N[i]? = some x → σ[i]? = some (some v) → Mw X.env.scope x → ∃ u, RelV v u ∧ Look X.env s.heap m x u
  cell : ∀ x c, X.env.cells.lookup x = some c → ∃ v, s.heap.IsCell c v
  free : H X.env.locals = none
  rj : ∀ x c, X.env.cells.lookup x = some c → H c = none
  pin : ∀ p ∈ X.pn ++ pins, s.heap.get? p.1 = some p.2 ∧ H p.1 = none ∧ p.1 ≠ X.env.locals ∧ p.1 ∉ X.fs ∧ ∀ v, p.2.data ≠ .cell v
  hok : sW X.prog X.w H s.heap
  len : σ.length = X.N.length
section
variable {X : Cx} {pins : List (Addr × Obj)} {σ : List (Option V)} {H H' : Hp} {s : Shared} {h' : Heap}
theorem Cx.Ok.S9 (ok : X.Ok) {b : Addr} {o : Obj} (e : X.base.get? b = some o) : b ∉ X.fs := fun hb => by
  have := (ok.wC.mem hb).1
  rw [e] at this; cases this
theorem Inv.bs (I : Inv X pins σ H s) : ∀ b o, X.base.get? b = some o → s.heap.get? b = some o ∧ H b = none := fun b o e =>
  ⟨I.base.keep b o (I.ok.bs b o e).1 (I.ok.bs b o e).2 (I.ok.S9 e) (I.ok.Mx b o e), I.base.free b o (I.ok.bs b o e).1 (I.ok.bs b o e).2 (I.ok.Mx b o e)⟩
theorem Inv.bk (I : Inv X pins σ H s) : ∀ b o, X.base.get? b = some o → s.heap.get? b = some o := fun b o e => (I.bs b o e).1
theorem Inv.mod (I : Inv X pins σ H s) : Mod X.K X.mg X.base := I.ok.mod
theorem Inv.Dp (I : Inv X pins σ H s) : X.K.In s.heap := I.ok.mod.Mv.keeps I.bk
theorem Inv.nolimit (I : Inv X pins σ H s) : s.heap.NoLimit := I.ok.mod.nolimit.keeps I.bk
theorem Inv.fr (I : Inv X pins σ H s) : ∃ m, Fr X.base X.env.locals s.heap m :=
  let ⟨m, hn, _⟩ := I.loc
  ⟨m, hn, I.bk, Nat.le_trans I.ok.LM I.ok.above⟩
theorem Inv.lt (I : Inv X pins σ H s) : X.env.locals < s.heap.objs.size := let ⟨_, hn, _⟩ := I.loc; hn.lt
theorem Inv.sz (I : Inv X pins σ H s) : X.s₀.heap.objs.size ≤ s.heap.objs.size := Nat.le_trans I.ok.above (Nat.le_of_lt I.lt)
theorem Inv.O1 (I : Inv X pins σ H s) {a : Addr} (h : s.heap.objs.size ≤ a) : a ∉ X.fs := fun hb => by
  obtain ⟨_, o, ho, _⟩ := I.ok.wC.mem hb
  exact absurd (Nat.lt_of_lt_of_le (Heap.lt_size ho) (Nat.le_trans I.sz h)) (Nat.lt_irrefl _)
theorem Inv.JU (I : Inv X pins σ H s) : ∀ x c, X.env.cells.lookup x = some c → c ≠ X.env.locals := fun x c e z => by
  obtain ⟨v, o, ho, hd⟩ := I.cell x c e
  obtain ⟨m, ⟨o', es, ep, ho', hd', _⟩, _⟩ := I.loc
  rw [z, ho'] at ho; cases ho; rw [hd'] at hd; cases hd
theorem Inv.wC (I : Inv X pins σ H s) : s.heap.FunFrames X.base X.outer := by
  have all : ∀ (l : List Env), (∀ b ∈ frs l, b ∈ X.fs) → X.s₀.heap.FunFrames X.base l → s.heap.FunFrames X.base l := by
    intro l
    induction l with
    | nil => intro _ _; trivial
    | cons env r ih =>
      intro hs hl
      obtain ⟨hk, ⟨L, o, hf, hn, ho, hd⟩, hr⟩ := hl
      have hL : L ∈ X.fs := hs L (by unfold frs; rw [List.filterMap_cons, hf]; exact List.mem_cons_self)
      obtain ⟨sl, e⟩ := I.base.slot L o ho (I.ok.Mz L hL) hL fun z => I.ok.My L z hL
      exact ⟨hk, ⟨L, _, hf, hn, e, hd⟩, ih (fun b hb => hs b (by unfold frs; rw [List.filterMap_cons, hf]; exact List.mem_cons_of_mem _ hb)) hr⟩
  exact all X.outer (fun _ hb => hb) I.ok.wC
theorem Inv.stack (I : Inv X pins σ H s) : s.heap.FunFrames X.base X.stack := by
  rcases I.ok.stk with e | ⟨e, hf⟩
  · rw [e]; exact I.wC
  · rw [e]
    obtain ⟨m, hn, _⟩ := I.loc
    refine .cons (by rw [I.ok.kind]; decide) hf hn ?_ I.wC
    exact Heap.get?_none_of_le (Nat.le_trans I.ok.LM I.ok.above)
theorem Inv.nt (I : Inv X pins σ H s) : ∀ b ∈ frs X.stack, b ∈ X.env.locals :: X.fs := fun b hb => by
  rcases I.ok.stk with e | ⟨e, hf⟩
  · rw [e] at hb; exact List.mem_cons_of_mem _ hb
  · rw [e] at hb
    unfold frs at hb
    rw [List.filterMap_cons, hf] at hb
    exact hb
theorem Inv.sY (I : Inv X pins σ H s) : ∀ b ∈ frs X.stack, H b = none := fun b hb => by
  rcases List.mem_cons.mp (I.nt b hb) with e | hb
  · rw [e]; exact I.free
  · obtain ⟨_, o, ho, _⟩ := I.ok.wC.mem hb
    exact I.base.free b o ho (I.ok.Mz b hb) fun z => I.ok.My b z hb
theorem Inv.step {g' : Array GenState} {t' : Nat} {d' : Drawn} {ch : List Addr} (I : Inv X pins σ H s)
    (hch : ∀ b ∈ ch, (b ∈ X.ex ∨ X.s₀.heap.objs.size ≤ b) ∧ b ≠ X.env.locals ∧ (∀ x c, X.env.cells.lookup x = some c → c ≠ b) ∧ ∀ p ∈ X.pn ++ pins, p.1 ≠ b)
    (keep : ∀ b o, b ≠ X.env.locals → b ∉ X.fs → b ∉ ch → s.heap.get? b = some o → H b = none → h'.get? b = some o)
    (slot : ∀ b o, b ≠ X.env.locals → b ∈ X.fs → b ∉ ch → s.heap.get? b = some o → H b = none → ∃ sl, h'.get? b = some { o with slots := sl }) (free : ∀ b o, b ∉ ch → s.heap.get? b = some o → H b = none → H' b = none)
    (there : ∀ b o, b ∉ ch → s.heap.get? b = some o → ∃ o', h'.get? b = some o')
    (tups : ∀ b xs, H b = some (.tup xs) → H' b = some (.tup xs)) (qR : ∀ b o u, H b = some (.oE o u) → H' b = some (.oE o u)) (rO : ∀ b ps, H b = some (.BI ps) → ∃ more, H' b = some (.BI (ps ++ more)))
    (ns : ∀ m, s.heap.Ns X.env.locals m → h'.Ns X.env.locals m) (hok : sW X.prog X.w H' h') (hg : AllBare g') (ht : 0 < t' := by first | exact Nat.succ_pos _ | exact (Inv.os (by assumption)).2 | assumption | omega) :
    Inv X pins σ H' { s with heap := h', gens := g', drawn := d', toks := t' } := by
  have EL : ∀ b o, X.s₀.heap.get? b = some o → b ≠ X.env.locals := fun b o e => Nat.ne_of_lt (Nat.lt_of_lt_of_le (Heap.lt_size e) I.ok.above)
  have LN : ∀ b o, X.s₀.heap.get? b = some o → b ∉ X.ex → b ∉ ch := fun b o e hx hb => by
    rcases (hch b hb).1 with z | z
    · exact hx z
    · exact absurd (Nat.lt_of_lt_of_le (Heap.lt_size e) z) (Nat.lt_irrefl _)
  have cellK : ∀ x c, X.env.cells.lookup x = some c → ∀ v, s.heap.IsCell c v → h'.IsCell c v := fun x c e v ⟨o, ho, hd⟩ => by
    have O2 : c ∉ ch := fun z => (hch c z).2.2.1 x c e rfl
    by_cases hc : c ∈ X.fs
    · obtain ⟨sl, q⟩ := slot c o (I.JU x c e) hc O2 ho (I.rj x c e)
      exact ⟨_, q, hd⟩
    · exact ⟨o, keep c o (I.JU x c e) hc O2 ho (I.rj x c e), hd⟩
  refine ⟨I.ok, ⟨I.os.1, ht⟩, hg, ⟨fun b o e n hb hx => ?_, fun b o e n hb hx => ?_, fun b o e n hx => ?_, fun b o e hx => ?_, fun b xs e => tups b xs (I.base.tups b xs e), fun b o xs e => qR b o xs (I.base.qR b o xs e), fun b ps e => ?_⟩, ?_, fun x c e => ?_, ?_, fun x c e => ?_, fun p hp => ?_, hok, I.len⟩
  · exact keep b o (EL b o e) hb (LN b o e hx) (I.base.keep b o e n hb hx) (I.base.free b o e n hx)
  · obtain ⟨sl, e1⟩ := I.base.slot b o e n hb hx
    obtain ⟨O3, e2⟩ := slot b _ (EL b o e) hb (LN b o e hx) e1 (I.base.free b o e n hx)
    exact ⟨O3, e2⟩
  · obtain ⟨o', e1⟩ := I.base.there b o e hx
    exact free b o' (LN b o e hx) e1 (I.base.free b o e n hx)
  · obtain ⟨o', e1⟩ := I.base.there b o e hx
    exact there b o' (LN b o e hx) e1
  · obtain ⟨m1, e1⟩ := I.base.rO b ps e
    obtain ⟨m2, e2⟩ := rO b _ e1
    exact ⟨m1 ++ m2, by rw [e2, Array.append_assoc]⟩
  · obtain ⟨m, hn, hl⟩ := I.loc
    refine ⟨m, ns m hn, fun i x v e1 e2 e3 => ?_⟩
    obtain ⟨u, r, l⟩ := hl i x v e1 e2 e3
    refine ⟨u, r, ?_⟩
    rcases l with l | ⟨k, c, e, z⟩
    · exact .inl l
    · exact .inr ⟨k, c, e, cellK x c e _ z⟩
  · obtain ⟨v, z⟩ := I.cell x c e
    exact ⟨v, cellK x c e v z⟩
  · obtain ⟨m, ⟨o, _, _, ho, _⟩, _⟩ := I.loc
    exact free _ o (fun z => (hch _ z).2.1 rfl) ho I.free
  · obtain ⟨v, o, ho, hd⟩ := I.cell x c e
    exact free c o (fun z => (hch c z).2.2.1 x c e rfl) ho (I.rj x c e)
  · obtain ⟨e, n, ne, nf, d⟩ := I.pin p hp
    have O2 : p.1 ∉ ch := fun z => (hch p.1 z).2.2.2 p hp rfl
    exact ⟨keep p.1 p.2 ne nf O2 e n, free p.1 p.2 O2 e n, ne, nf, d⟩
theorem Inv.un {t' : Nat} (I : Inv X pins σ H s) (u : Un X.fs [] H H' s.heap h') (hok : sW X.prog X.w H' h') (ht : 0 < t' := by first | exact Nat.succ_pos _ | exact (Inv.os (by assumption)).2 | assumption | omega) : Inv X pins σ H' { s with heap := h', toks := t' } := by
  obtain ⟨m, ⟨o, es, ep, ho, r⟩, _⟩ := id I.loc
  obtain ⟨sl, hL⟩ := u.any ho I.free (by simp)
  exact I.step (g' := s.gens) (d' := s.drawn) (ch := []) (fun _ z => nomatch z) (fun b o _ hb _ e n => u.keep b o e n hb (by simp)) (fun b o _ hb _ e n => u.slot b o e n hb (by simp)) (fun b o _ e n => u.free b o e n (by simp)) (fun b o _ e => u.there b o e (by simp)) u.tups u.qR u.rO (fun m' hm => by
    obtain ⟨o', es', Tc, ho', r'⟩ := hm
    rw [ho] at ho'; cases ho'
    exact ⟨_, es', Tc, hL, r'⟩) hok I.bare
theorem Inv.call {g' : Array GenState} {t' : Nat} {d' : Drawn} {ch : List Addr} (I : Inv X pins σ H s) (u : Un (frs X.stack) ch H H' s.heap h') (hok : sW X.prog X.w H' h') (hg : AllBare g')
    (hch : ∀ b ∈ ch, (b ∈ X.ex ∨ X.s₀.heap.objs.size ≤ b) ∧ b ≠ X.env.locals ∧ (∀ x c, X.env.cells.lookup x = some c → c ≠ b) ∧ ∀ p ∈ X.pn ++ pins, p.1 ≠ b) (ht : 0 < t' := by first | exact Nat.succ_pos _ | exact (Inv.os (by assumption)).2 | assumption | omega) :
    Inv X pins σ H' { s with heap := h', gens := g', drawn := d', toks := t' } := by
  obtain ⟨m, ⟨o, es, ep, ho, r⟩, _⟩ := id I.loc
  obtain ⟨sl, hL⟩ := u.any ho I.free fun z => (hch _ z).2.1 rfl
  exact I.step (ch := ch) hch (fun b o hL hb hc e n => u.keep b o e n (fun z => (List.mem_cons.mp (I.nt b z)).elim hL hb) hc) (fun b o _ _ hc e n => u.any e n hc) (fun b o hc e n => u.free b o e n hc) (fun b o hc e => u.there b o e hc) u.tups u.qR u.rO (fun m' hm => by
    obtain ⟨o', es', Tc, ho', r'⟩ := hm
    rw [ho] at ho'; cases ho'
    exact ⟨_, es', Tc, hL, r'⟩) hok hg
theorem Inv.turned {t' : Nat} {it : Addr} (I : Inv X pins σ H s) (k : ∀ b o, b ≠ it → s.heap.get? b = some o → h'.get? b = some o) (hn : H it = none) (hL : it ≠ X.env.locals)
    (h1 : it ∈ X.ex ∨ X.s₀.heap.objs.size ≤ it) (h2 : ∀ x c, X.env.cells.lookup x = some c → c ≠ it) (h3 : ∀ p ∈ X.pn ++ pins, p.1 ≠ it) (ht : 0 < t' := by first | exact Nat.succ_pos _ | exact (Inv.os (by assumption)).2 | assumption | omega) : Inv X pins σ H { s with heap := h', toks := t' } := by
  have O4 : ∀ b u, H b = some u → b ≠ it := fun b u e z => by rw [z, hn] at e; cases e
  refine I.step (g' := s.gens) (d' := s.drawn) (ch := [it]) (fun b hb => ?_) (fun b o _ _ hc e _ => k b o (fun z => hc (by simp [z])) e) (fun b o _ _ hc e _ => ⟨o.slots, k b o (fun z => hc (by simp [z])) e⟩) (fun _ _ _ _ n => n)
    (fun b o hc e => ⟨o, k b o (fun z => hc (by simp [z])) e⟩) (fun _ _ e => e) (fun _ _ _ e => e) (fun b ps e => ⟨#[], by rw [e]; simp⟩) (fun m hm => ?_) (fun b u e => ?_) I.bare
  · have e : b = it := by simpa using hb
    subst e
    exact ⟨h1, hL, h2, h3⟩
  · obtain ⟨o, es, ep, ho, r⟩ := hm
    exact ⟨o, es, ep, k _ o (Ne.symm hL) ho, r⟩
  · refine (I.hok b u e).stay (fun c v hc q => k c v ?_ q) (fun _ q => q) fun _ _ q => q
    rcases hc with z | z
    · rw [z]; exact O4 b u e
    · exact O4 c _ z
theorem Inv.tok (I : Inv X pins σ H s) (t' : Nat) (ht : 0 < t' := by first | exact Nat.succ_pos _ | exact (Inv.os (by assumption)).2 | assumption | omega) : Inv X pins σ H { s with toks := t' } := I.un (h' := s.heap) (t' := t') Un.refl I.hok
theorem oF {α : Type} {M : Model} {A : Around} {t : Sem α} {Q : α → Shared → Prop} {E : Value → Shared → Prop} {s : Shared} (h : 0 < s.toks) (h' : wpAny M A t (fun a s' => 0 < s'.toks → Q a s') (fun e s' => 0 < s'.toks → E e s') s) : wpAny M A t Q E s := wpAny_with_toks (n := 1) h h'
theorem Inv.kept {t' : Nat} (I : Inv X pins σ H s) (k : ∀ b u, s.heap.get? b = some u → h'.get? b = some u) (ht : 0 < t' := by first | exact Nat.succ_pos _ | exact (Inv.os (by assumption)).2 | assumption | omega) : Inv X pins σ H { s with heap := h', toks := t' } := I.un (Un.kept k) (I.hok.kept k)
theorem Inv.laid {a : Addr} {o : HO} {t' : Nat} (I : Inv X pins σ H s) (k : ∀ b u, s.heap.get? b = some u → h'.get? b = some u) (hp : s.heap.objs.size ≤ a) (new : lS X.prog X.w (upd H a o) h' a o) (ht : 0 < t' := by first | exact Nat.succ_pos _ | exact (Inv.os (by assumption)).2 | assumption | omega) :
    Inv X pins σ (upd H a o) { s with heap := h', toks := t' } := I.un (Un.laid k hp (I.hok.fresh hp)) (I.hok.laid k hp new)
theorem Inv.write {x e : Addr} {o : HO} {t' : Nat} (I : Inv X pins σ H s) (mu : Sg (H x)) (he : e = x ∨ H e = some (.own x)) (k : ∀ b u, b ≠ e → s.heap.get? b = some u → h'.get? b = some u) (OJ : ∃ u, h'.get? e = some u)
    (new : lS X.prog X.w (upd H x o) h' x o) (ht : 0 < t' := by first | exact Nat.succ_pos _ | exact (Inv.os (by assumption)).2 | assumption | omega) : Inv X pins σ (upd H x o) { s with heap := h', toks := t' } := I.un (Un.write mu he k OJ) (I.hok.write mu he k OJ new)
theorem Inv.sZ {ko : List (Addr × Obj)} (I : Inv X pins σ H s) (h : ∀ p ∈ ko, s.heap.get? p.1 = some p.2 ∧ H p.1 = none ∧ p.1 ≠ X.env.locals ∧ p.1 ∉ X.fs ∧ ∀ v, p.2.data ≠ .cell v) : Inv X ko σ H s :=
  ⟨I.ok, I.os, I.bare, I.base, I.loc, I.cell, I.free, I.rj, fun p hp => (List.mem_append.mp hp).elim (fun z => I.pin p (List.mem_append_left _ z)) (h p), I.hok, I.len⟩
theorem BL {N : List Str} (hN : N.Nodup) {i j : Nat} {x : Str} (a : N[i]? = some x) (b : N[j]? = some x) : i = j := by
  obtain ⟨h1, e1⟩ := List.getElem?_eq_some_iff.mp a
  obtain ⟨h2, e2⟩ := List.getElem?_eq_some_iff.mp b
  exact (List.getElem_inj hN).mp (e1.trans e2.symm)
theorem zz {M : Model} {A : Around} {E : Value → Shared → Prop} {i : Nat} {x : Str} {v : V} {u : Value} {Q : Unit → Shared → Prop} (I : Inv X pins σ H s) (hN : X.N.Nodup) (hi : X.N[i]? = some x) (hx : Loc X.env.scope x) (r : RelV v u)
    (h : ∀ s', Inv X pins (σ.set i (some v)) H s' → (∃ a, Heap.SameBut a s.heap s'.heap ∧ (a = X.env.locals ∨ X.env.cells.lookup x = some a)) → Q () s') (hf : X.fn x = true ∨ X.env.scope.names.lookup x = some .local := by first | exact .inl rfl | exact .inr rfl | assumption) : wpAny M A (storeName X.env x u) Q E s := by
  obtain ⟨m, hn, hl⟩ := id I.loc
  have hcls : (X.env.scope.kind == .class || (X.env.scope.kind == .module && X.env.locals != X.env.globals)) = false := by rw [I.ok.kind]; rfl
  have VZ : i < σ.length := by rw [I.len]; exact (List.getElem?_eq_some_iff.mp hi).1
  have JU := I.JU
  have tracked : ∀ {a : Addr} {h' : Heap}, (∃ o, s.heap.get? a = some o ∧ H a = none) → Heap.SameBut a s.heap h' → sW X.prog X.w H h' := fun {a h'} ha hs b ob e => by
    obtain ⟨_, _, hfree⟩ := ha
    refine (I.hok b ob e).stay (fun c w' hc q => (hs.2 c ?_).trans q) (fun _ q => q) fun _ _ q => q
    rintro rfl
    rcases hc with rfl | hc
    · rw [hfree] at e; cases e
    · rw [hfree] at hc; cases hc
  rcases hx with hk | hk
  · refine wpAny_storeName_local hk hn (fun h' hn' hs => ?_) hcls
    obtain ⟨oL, _, _, V0, _⟩ := id hn
    refine h _ ⟨I.ok, ⟨I.os.1, Nat.succ_pos _⟩, I.bare, ⟨fun b o e n hb hx => ?_, fun b o e n hb hx => ?_, I.base.free, fun b o e hx => ?_, I.base.tups, I.base.qR, I.base.rO⟩, ⟨_, hn', fun j y v' e1 e2 e3 => ?_⟩, fun y c e => ?_, I.free, I.rj, fun p hp => ?_, tracked ⟨oL, V0, I.free⟩ hs, by simpa using I.len⟩ ⟨_, hs, .inl rfl⟩
    · exact (hs.2 b (Nat.ne_of_lt (Nat.lt_of_lt_of_le (Heap.lt_size e) I.ok.above))).trans (I.base.keep b o e n hb hx)
    · obtain ⟨sl, e1⟩ := I.base.slot b o e n hb hx
      exact ⟨sl, (hs.2 b (Nat.ne_of_lt (Nat.lt_of_lt_of_le (Heap.lt_size e) I.ok.above))).trans e1⟩
    · obtain ⟨o', e1⟩ := I.base.there b o e hx
      exact ⟨o', (hs.2 b (Nat.ne_of_lt (Nat.lt_of_lt_of_le (Heap.lt_size e) I.ok.above))).trans e1⟩
    · by_cases hj : j = i
      · subst hj
        rw [hi] at e1; cases e1
        rw [List.getElem?_set_self VZ] at e2
        cases e2
        exact ⟨u, r, .inl ⟨hk, by simp⟩⟩
      · rw [List.getElem?_set_ne (Ne.symm hj)] at e2
        obtain ⟨u', r', q⟩ := hl j y v' e1 e2 e3
        refine ⟨u', r', ?_⟩
        rcases q with ⟨k, e⟩ | ⟨k, c, e, z⟩
        · refine .inl ⟨k, ?_⟩
          have : y ≠ x := fun e => hj (BL hN e1 (e ▸ hi))
          simp [this, e]
        · exact .inr ⟨k, c, e, z.sameBut hs (JU y c e)⟩
    · obtain ⟨w', z⟩ := I.cell y c e
      exact ⟨w', z.sameBut hs (JU y c e)⟩
    · obtain ⟨e, n, ne, nf, d⟩ := I.pin p hp
      exact ⟨(hs.2 p.1 ne).trans e, n, ne, nf, d⟩
  · have hfn : X.fn x = true := by
      rcases hf with z | z
      · exact z
      · rw [z] at hk; cases hk
    obtain ⟨c, hc⟩ := I.ok.has x (.inl hk)
    obtain ⟨w', z⟩ := I.cell x c hc
    refine wpAny_storeName_cell I.ok.kind hk hc z (fun h' hc' hs => ?_)
    obtain ⟨oc, hoc, Td⟩ := id z
    refine h { s with heap := h' } ⟨I.ok, I.os, I.bare, ⟨fun b o e n hb hx => ?_, fun b o e n hb hx => ?_, I.base.free, fun b o e hx => ?_, I.base.tups, I.base.qR, I.base.rO⟩, ⟨m, hn.sameBut hs (Ne.symm (JU x c hc)), fun j y v' e1 e2 e3 => ?_⟩, fun y c' e => ?_, I.free, I.rj, fun p hp => ?_, tracked ⟨oc, hoc, I.rj x c hc⟩ hs, by simpa using I.len⟩ ⟨c, hs, .inr hc⟩
    · exact (hs.2 b (Nat.ne_of_lt (Nat.lt_of_lt_of_le (Heap.lt_size e) (I.ok.S8 x c hfn hc)))).trans (I.base.keep b o e n hb hx)
    · obtain ⟨sl, e1⟩ := I.base.slot b o e n hb hx
      exact ⟨sl, (hs.2 b (Nat.ne_of_lt (Nat.lt_of_lt_of_le (Heap.lt_size e) (I.ok.S8 x c hfn hc)))).trans e1⟩
    · obtain ⟨o', e1⟩ := I.base.there b o e hx
      exact ⟨o', (hs.2 b (Nat.ne_of_lt (Nat.lt_of_lt_of_le (Heap.lt_size e) (I.ok.S8 x c hfn hc)))).trans e1⟩
    · by_cases hj : j = i
      · subst hj
        rw [hi] at e1; cases e1
        rw [List.getElem?_set_self VZ] at e2
        cases e2
        exact ⟨u, r, .inr ⟨.inl hk, c, hc, hc'⟩⟩
      · rw [List.getElem?_set_ne (Ne.symm hj)] at e2
        obtain ⟨u', r', q⟩ := hl j y v' e1 e2 e3
        refine ⟨u', r', ?_⟩
        rcases q with q | ⟨k, c', e, z'⟩
        · exact .inl q
        · refine .inr ⟨k, c', e, z'.sameBut hs ?_⟩
          rintro rfl
          exact hj (BL hN e1 (I.ok.inj _ _ _ e hc ▸ hi))
    · by_cases hcc : c' = c
      · subst hcc; exact ⟨_, hc'⟩
      · obtain ⟨w2, z2⟩ := I.cell y c' e
        exact ⟨w2, z2.sameBut hs hcc⟩
    · obtain ⟨e, n, ne, nf, d⟩ := I.pin p hp
      refine ⟨(hs.2 p.1 ?_).trans e, n, ne, nf, d⟩
      intro q
      rw [q, hoc] at e
      have q' : oc = p.2 := Option.some.inj e
      exact d w' (by rw [← q']; exact Td)
theorem xq {M : Model} {A : Around} {E : Value → Shared → Prop} {i : Nat} {x : Str} {v : V} {u : Value} {Q : Unit → Shared → Prop} (I : Inv X pins σ H s) (hN : X.N.Nodup) (hi : X.N[i]? = some x) (hx : Loc X.env.scope x) (r : RelV v u)
    (h : ∀ s', Inv X pins (σ.set i (some v)) H s' → Q () s') (hf : X.fn x = true ∨ X.env.scope.names.lookup x = some .local := by first | exact .inl rfl | exact .inr rfl | assumption) : wpAny M A (storeName X.env x u) Q E s :=
  zz I hN hi hx r (fun s' I' _ => h s' I') hf
theorem Inv.Hv {s' : Shared} {ch : List Addr} (I : Inv X pins σ H s) (ho : s'.os = s.os ∧ 0 < s'.toks) (u : Un (frs X.stack) ch H H' s.heap s'.heap) (hok : sW X.prog X.w H' s'.heap) (hg : AllBare s'.gens)
    (hch : ∀ b ∈ ch, (b ∈ X.ex ∨ X.s₀.heap.objs.size ≤ b) ∧ b ≠ X.env.locals ∧ (∀ x c, X.env.cells.lookup x = some c → c ≠ b) ∧ ∀ p ∈ X.pn ++ pins, p.1 ≠ b) : Inv X pins σ H' s' := by
  obtain ⟨h', g', d', t', o'⟩ := s'
  have e : o' = s.os := ho.1
  have ht : 0 < t' := ho.2
  subst e
  exact I.call (g' := g') (t' := t') (d' := d') u hok hg hch
end
noncomputable abbrev XK := Value → Option Addr → Hp → Prop
noncomputable abbrev St := List (Option V)
noncomputable abbrev VK := V → Hp → Prop
noncomputable abbrev TE := St → Hp → VK → Prop
noncomputable abbrev TT := St → Hp → (Bool → Hp → Prop) → Prop
noncomputable abbrev TA := St → Hp → (List V → Hp → Prop) → Prop
structure Ends where
  nx : St → Hp → Prop
  rt : VK
  bk : St → Hp → Prop := fun _ _ => False
  ct : St → Hp → Prop := fun _ _ => False
noncomputable abbrev TS := Ends → St → Hp → Prop
noncomputable def EP (X : Cx) (pins : List (Addr × Obj)) (σ : St) (Q : VK) (u : Value) (s' : Shared) : Prop := ∃ v H', Inv X pins σ H' s' ∧ RelV v u ∧ Q v H'
noncomputable def TP (X : Cx) (pins : List (Addr × Obj)) (σ : St) (Q : Bool → Hp → Prop) (b : Bool) (s' : Shared) : Prop := ∃ H', Inv X pins σ H' s' ∧ Q b H'
noncomputable def AP (X : Cx) (pins : List (Addr × Obj)) (σ : St) (Q : List V → Hp → Prop) (us : List Value) (s' : Shared) : Prop := ∃ vs H', Inv X pins σ H' s' ∧ Vals vs us ∧ Q vs H'
noncomputable def SP (X : Cx) (pins : List (Addr × Obj)) (D : Ends) (f : Flow) (s' : Shared) : Prop :=
  match f with
  | .next => ∃ σ' H', Inv X pins σ' H' s' ∧ D.nx σ' H'
  | .brk => ∃ σ' H', Inv X pins σ' H' s' ∧ D.bk σ' H'
  | .cont => ∃ σ' H', Inv X pins σ' H' s' ∧ D.ct σ' H'
  | .ret u => ∃ v σ' H', Inv X pins σ' H' s' ∧ RelV v u ∧ D.rt v H'
noncomputable def PE (X : Cx) (e : Expr) (t : TE) : Prop :=
  ∀ (pins : List (Addr × Obj)) (s : Shared) (σ : St) (H : Hp) (Q : VK), Inv X pins σ H s → t σ H Q → wpAny (model X.prog X.w) X.A (eval e X.env) (EP X pins σ Q) X.xe s
noncomputable def PT (X : Cx) (e : Expr) (t : TT) : Prop :=
  ∀ (pins : List (Addr × Obj)) (s : Shared) (σ : St) (H : Hp) (Q : Bool → Hp → Prop), Inv X pins σ H s → t σ H Q → wpAny (model X.prog X.w) X.A (isTrue e X.env (eval e X.env)) (TP X pins σ Q) X.xe s
noncomputable def PW (X : Cx) (e : Expr) (t : TT) : Prop :=
  ∀ (whole : Sem Value) (pins : List (Addr × Obj)) (s : Shared) (σ : St) (H : Hp) (Q : Bool → Hp → Prop), Inv X pins σ H s → t σ H Q → wpAny (model X.prog X.w) X.A (isTrue e X.env whole) (TP X pins σ Q) X.xe s
theorem PW.pt {X : Cx} {e : Expr} {t : TT} (h : PW X e t) : PT X e t := h _
noncomputable def PA (X : Cx) (es : List Expr) (t : TA) : Prop :=
  ∀ (pos : Pos) (pins : List (Addr × Obj)) (s : Shared) (σ : St) (H : Hp) (Q : List V → Hp → Prop), Inv X pins σ H s → t σ H Q → wpAny (model X.prog X.w) X.A (spliced (backTo pos (starEach es X.env))) (AP X pins σ Q) X.xe s
noncomputable def PS (X : Cx) (st : Stmt) (t : TS) : Prop :=
  ∀ (pins : List (Addr × Obj)) (s : Shared) (σ : St) (H : Hp) (D : Ends), Inv X pins σ H s → t D σ H → wpAny (model X.prog X.w) X.A (exec st X.env) (SP X pins D) X.xe s
noncomputable def Dr (X : Cx) (st : List Stmt) (t : TS) : Prop :=
  ∀ (pins : List (Addr × Obj)) (s : Shared) (σ : St) (H : Hp) (D : Ends), Inv X pins σ H s → t D σ H → wpAny (model X.prog X.w) X.A (execs st X.env) (SP X pins D) X.xe s
theorem ja {α : Type} {t : Sem α} {Q Q' : α → Shared → Prop} {M : Model} {A : Around} {E : Value → Shared → Prop} {s : Shared} (h : wpAny M A t Q E s) (hQ : ∀ a s, Q a s → Q' a s) : wpAny M A t Q' E s := wpAny_mono h hQ fun _ _ x => x
end L2
namespace L2
open PySem PySem.Spec PyProof.Rows
section
variable {X : Cx}
theorem bin {a b : Expr} {ta tb : TE} (ha : PE X a ta) (hb : PE X b tb) {pins : List (Addr × Obj)} {s : Shared} {σ : St} {H : Hp} {R : V → V → Hp → Prop} (I : Inv X pins σ H s) (h : ta σ H fun x H1 => tb σ H1 fun y H2 => R x y H2)
    {α : Type} {Q : α → Shared → Prop} {f : Value → Value → Sem α}
    (hf : ∀ v u s2 x y H2, Inv X pins σ H2 s2 → RelV x v → RelV y u → R x y H2 → wpAny (model X.prog X.w) X.A (f v u) Q X.xe s2) :
    wpAny (model X.prog X.w) X.A (eval a X.env) (fun v s₁ => wpAny (model X.prog X.w) X.A (eval b X.env) (fun u s₂ => wpAny (model X.prog X.w) X.A (f v u) Q X.xe s₂) X.xe s₁) X.xe s := by
  refine ja (ha pins s σ H _ I h) fun v s1 ⟨x, H1, I1, r1, q1⟩ => ?_
  refine ja (hb pins s1 σ H1 _ I1 q1) fun u s2 ⟨y, H2, I2, r2, q2⟩ => ?_
  exact hf v u s2 x y H2 I2 r1 r2 q2
noncomputable def Te (i : Nat) : TE := fun σ H Q => ∃ v, σ[i]? = some (some v) ∧ Q v H
noncomputable def tC (v : V) : TE := fun _ H Q => Q v H
theorem Hw {i : Nat} {x : Str} {pos : Pos} (hN : X.N[i]? = some x) (hv : Mw X.env.scope x) (hd : (x == ("__debug__" : Str)) = false := by decide) (hcd : (x == ("__classdict__" : Str)) = false := by decide) : PE X (.Name x pos) (Te i) := by
  intro pins s σ H Q I h
  obtain ⟨v, e, h⟩ := h
  obtain ⟨m, hn, hl⟩ := I.loc
  obtain ⟨u, r, l⟩ := hl i x v hN e hv
  have fin : EP X pins σ Q u s := ⟨v, H, I, r, h⟩
  rcases l with ⟨hk, hm⟩ | ⟨hk, c, hc, hcell⟩
  · exact wpAny_Name (wpAny_loadName_local I.ok.kind hk hn hm fin) hd
  · rcases hk with hk | hk
    · exact wpAny_Name (wpAny_loadName_cell I.ok.kind hk hc hcell fin) hd
    · exact wpAny_Name (wpAny_loadName_free I.ok.kind hk hc hcell fin hcd) hd
theorem MA {i j pos} : PE X (.Constant (.int i) j pos) (tC (.int i)) := fun _ _ _ H _ I h => wpAny_Constant_int ⟨.int i, H, I.tok _, ⟨_, rfl⟩, h⟩
theorem O5 {b j pos} : PE X (.Constant (.bool b) j pos) (tC (.bl b)) := fun _ _ _ H _ I h => Constant_bool ⟨.bl b, H, I, rfl, h⟩
theorem MB {x j pos} : PE X (.Constant (.str x) j pos) (tC (.str x)) := fun _ _ _ H _ I h => Calls.Constant_str ⟨.str x, H, I.tok _, ⟨_, rfl⟩, h⟩
noncomputable def Gl (X : Cx) (x : Str) : Prop := X.env.kindOf x = some .globalImplicit
theorem Ay {E : Value → Shared → Prop} {pins : List (Addr × Obj)} {s : Shared} {σ : St} {H : Hp} {x : Str} {u : Value} {pos : Pos} {Q : Value → Shared → Prop} (I : Inv X pins σ H s) (hg : Gl X x) (hm : X.mg x = some u) (h : Q u s)
    (hd : (x == ("__debug__" : Str)) = false := by decide) : wpAny (model X.prog X.w) X.A (eval (.Name x pos) X.env) Q E s :=
  Calls.Name_function_global I.ok.kind hg (Calls.loadGlobal_global (by rw [I.ok.glob]; exact I.mod.glob.keeps I.bk) hm h) hd
theorem nv {E : Value → Shared → Prop} {pins : List (Addr × Obj)} {s : Shared} {σ : St} {H : Hp} {x : Str} {u : Value} {pos : Pos} {Q : Value → Shared → Prop} (I : Inv X pins σ H s) (hg : Gl X x) (hm : X.mg x = none) (hv : bootBuiltins x = some u) (h : Q u s)
    (hn : x ≠ "__name__" := by decide) (hd : (x == ("__debug__" : Str)) = false := by decide) : wpAny (model X.prog X.w) X.A (eval (.Name x pos) X.env) Q E s := by
  obtain ⟨mb, h1, h2⟩ := I.mod.blt
  exact Calls.Name_function_global I.ok.kind hg (Calls.loadGlobal_builtin (by rw [I.ok.glob]; exact I.mod.glob.keeps I.bk) hm (by rw [I.ok.blt]; exact h1.keeps I.bk) ((h2 x hn).trans hv) h) hd
theorem EM {x : Str} {v : V} {u : Value} {pos : Pos} (hg : Gl X x) (hm : X.mg x = some u) (r : RelV v u) (hd : (x == ("__debug__" : Str)) = false := by decide) : PE X (.Name x pos) (tC v) :=
  fun _ _ _ H _ I h => Ay I hg hm ⟨v, H, I, r, h⟩ hd
theorem J6 {x : Str} {v : V} {u : Value} {pos : Pos} (hg : Gl X x) (hm : X.mg x = none) (hv : bootBuiltins x = some u) (r : RelV v u) (hn : x ≠ "__name__" := by decide) (hd : (x == ("__debug__" : Str)) = false := by decide) : PE X (.Name x pos) (tC v) :=
  fun _ _ _ H _ I h => nv I hg hm hv ⟨v, H, I, r, h⟩ hn hd
variable {a b : Expr} {ta tb : TE} {pos : Pos}
variable {tA Si : TT} {rest : List Expr}
noncomputable def O6 (t u : TT) : TT := fun σ H Q => t σ H fun c H1 => if c = true then u σ H1 Q else Q false H1
noncomputable def V1 (t u : TT) : TT := fun σ H Q => t σ H fun c H1 => if c = true then Q true H1 else u σ H1 Q
noncomputable def Tf (t : TT) : TT := fun σ H Q => t σ H fun c H1 => Q (!c) H1
theorem J7 (ha : PT X a tA) : PW X (.BoolOp .And [a] pos) tA := by
  intro wh pins s σ H Q I h
  refine isTrue_and (ja (ha pins s σ H Q I h) fun c s1 e => ?_)
  cases c with
  | true => exact isTrue_and_nil e
  | false => exact e
theorem MC (ha : PT X a tA) : PW X (.BoolOp .Or [a] pos) tA := by
  intro wh pins s σ H Q I h
  refine isTrue_or (ja (ha pins s σ H Q I h) fun c s1 e => ?_)
  cases c with
  | false => exact isTrue_or_nil e
  | true => exact e
theorem MD (ha : PT X a tA) (hb : PW X (.BoolOp .And (b :: rest) pos) Si) : PW X (.BoolOp .And (a :: b :: rest) pos) (O6 tA Si) := by
  intro wh pins s σ H Q I h
  refine isTrue_and (ja (ha pins s σ H _ I h) fun c s1 ⟨H1, I1, q1⟩ => ?_)
  cases c with
  | true => exact hb wh pins s1 σ H1 Q I1 q1
  | false => exact ⟨H1, I1, q1⟩
theorem O7 (ha : PT X a tA) (hb : PW X (.BoolOp .Or (b :: rest) pos) Si) : PW X (.BoolOp .Or (a :: b :: rest) pos) (V1 tA Si) := by
  intro wh pins s σ H Q I h
  refine isTrue_or (ja (ha pins s σ H _ I h) fun c s1 ⟨H1, I1, q1⟩ => ?_)
  cases c with
  | true => exact ⟨H1, I1, q1⟩
  | false => exact hb wh pins s1 σ H1 Q I1 q1
theorem ME (ha : PT X a tA) : PT X (.UnaryOp .Not a pos) (Tf tA) := by
  intro pins s σ H Q I h
  exact isTrue_not (ha pins s σ H (fun c H1 => Q (!c) H1) I h)
end
end L2
namespace L2
open PySem PySem.Spec PyProof.Rows
noncomputable def pD (K : PySem.W.Frag) (H : Hp) (a : Addr) (xs : List V) : Prop :=
  Rd H a (.lst xs) ∨
    ∃ (o : Obj) (its : Array Value) (n : Nat), K.lookup a = some o ∧ o.cls = .type "list" ∧ o.dict = none ∧ o.data = .seq its n ∧ its.size ≤ sizeLine ∧ Vals xs its.toList
noncomputable def qS (K : PySem.W.Frag) (H : Hp) (a : Addr) (xs : List V) : Prop :=
  Rd H a (.tup xs) ∨
    ∃ (o : Obj) (its : Array Value) (n : Nat), K.lookup a = some o ∧ o.cls = .type "tuple" ∧ o.data = .seq its n ∧ its.size ≤ sizeLine ∧ Vals xs its.toList
noncomputable def Tg : Value → Option V
  | .none => some .kr
  | .bool b => some (.bl b)
  | .int i _ => some (.int i)
  | .str x _ => some (.str x)
  | .bytes b _ => some (.OY b)
  | .float b _ => some (.OZ b)
  | .ref a => some (.ref a)
  | .type n => some (.ty n)
  | _ => none
theorem RelV.abs {x : V} {u : Value} (r : RelV x u) : Tg u = some x := by
  cases x with
  | kr => cases r; rfl
  | bl _ => cases r; rfl
  | int _ => obtain ⟨t, rfl⟩ := r; rfl
  | str _ => obtain ⟨t, rfl⟩ := r; rfl
  | OY _ => obtain ⟨t, rfl⟩ := r; rfl
  | OZ _ => obtain ⟨t, rfl⟩ := r; rfl
  | ref _ => cases r; rfl
  | ty _ => cases r; rfl
theorem RelV.inj {x y : V} {u : Value} (r : RelV x u) (q : RelV y u) : x = y := Option.some.inj (r.abs.symm.trans q.abs)
theorem Vals.inj : ∀ {xs ys : List V} {us : List Value}, Vals xs us → Vals ys us → xs = ys
  | _, _, _, .nil, .nil => rfl
  | _, _, _, .cons r t, .cons r' t' => by rw [r.inj r', Vals.inj t t']
section
variable {X : Cx} {pins : List (Addr × Obj)} {σ : St} {H : Hp} {s : Shared} {a : Addr} {xs ys : List V}
theorem pD.of {K : PySem.W.Frag} (h : H a = some (.lst xs)) : pD K H a xs := .inl (.inl h)
theorem qS.of {K : PySem.W.Frag} (h : H a = some (.tup xs)) : qS K H a xs := .inl (.inl h)
theorem Inv.list (I : Inv X pins σ H s) (h : pD X.K H a xs) : ∃ its : List Value, Vals xs its ∧ PlainL s.heap a its.toArray ∧ xs.length ≤ sizeLine := by
  rcases h with h | ⟨o, its, n, hk, hc, hd, hs, hz, r⟩
  · obtain ⟨z, its, n, r, e⟩ := h.ok I.hok
    exact ⟨its, r, ⟨_, n, e, rfl, rfl, rfl⟩, z⟩
  · refine ⟨its.toList, r, ⟨o, n, I.Dp a o hk, hc, hd, by simpa using hs⟩, ?_⟩
    have e := r.length
    simp only [Array.length_toList] at e
    omega
theorem Inv.tuple (I : Inv X pins σ H s) (h : qS X.K H a xs) : ∃ its : List Value, Vals xs its ∧ IsTup s.heap a its.toArray ∧ xs.length ≤ sizeLine := by
  rcases h with h | ⟨o, its, n, hk, hc, hs, hz, r⟩
  · obtain ⟨z, its, r, p⟩ := h.ok I.hok
    exact ⟨its, r, p, z⟩
  · refine ⟨its.toList, r, ⟨o, I.Dp a o hk, hc, n, by simpa using hs⟩, ?_⟩
    have e := r.length
    simp only [Array.length_toList] at e
    omega
theorem Inv.xr (I : Inv X pins σ H s) (h : pD X.K H a xs) (h' : pD X.K H a ys) : xs = ys := by
  obtain ⟨its, r, ⟨o, n, e, _, _, d⟩, _⟩ := I.list h
  obtain ⟨its', r', ⟨o', n', e', _, _, d'⟩, _⟩ := I.list h'
  rw [e] at e'; cases e'
  rw [d] at d'
  injection d' with d1 _
  have : its = its' := by simpa using congrArg Array.toList d1
  subst this
  exact r.inj r'
theorem Inv.zA (I : Inv X pins σ H s) (h : qS X.K H a xs) (h' : qS X.K H a ys) : xs = ys := by
  obtain ⟨its, r, ⟨o, e, _, n, d⟩, _⟩ := I.tuple h
  obtain ⟨its', r', ⟨o', e', _, n', d'⟩, _⟩ := I.tuple h'
  rw [e] at e'; cases e'
  rw [d] at d'
  injection d' with d1 _
  have : its = its' := by simpa using congrArg Array.toList d1
  subst this
  exact r.inj r'
end
section
variable {X : Cx} {pins : List (Addr × Obj)} {σ : St} {H : Hp} {s : Shared} {E : Value → Shared → Prop}
end
section
variable {X : Cx} {st : Stmt} {rest : List Stmt} {t u : TS} {e : Expr} {te : TE} {pos : Pos}
noncomputable def O8 : TS := fun D σ H => D.nx σ H
noncomputable def O9 (t u : TS) : TS := fun D σ H => t { D with nx := u D } σ H
theorem J8 : Dr X [] O8 := fun _ _ σ H _ I h => wpAny_execs_nil ⟨σ, H, I, h⟩
theorem Hx (h1 : PS X st t) (h2 : Dr X rest u) : Dr X (st :: rest) (O9 t u) := by
  intro pins s σ H D I h
  refine wpAny_execs_cons (ja (h1 pins s σ H { D with nx := u D } I h) fun f s1 q => ?_)
  cases f with
  | next =>
    obtain ⟨σ', H', I', q⟩ := q
    exact h2 pins s1 σ' H' D I' q
  | ret v => exact q
  | brk => exact q
  | cont => exact q
theorem J9 (h1 : PS X st t) : Dr X [st] t := by
  intro pins s σ H D I h
  refine wpAny_execs_cons (ja (h1 pins s σ H D I h) fun f s1 q => ?_)
  cases f with
  | next => exact wpAny_execs_nil q
  | ret v => exact q
  | brk => exact q
  | cont => exact q
theorem Inv.quiet {pins : List (Addr × Obj)} {σ : St} {H : Hp} {s : Shared} (I : Inv X pins σ H s) : interactive X.env = false := by simp [interactive, I.ok.kind]
noncomputable def Pa (te : TE) : TS := fun D σ H => te σ H fun _ H1 => D.nx σ H1
theorem Ka (he : PE X e te) (hs : swapsWith e none pos.line X.env = pure false := by rfl) : PS X (.Expr e pos) (Pa te) := by
  intro pins s σ H D I h
  exact wpAny_Expr_any (ja (he pins s σ H _ I h) fun v s1 ⟨x, H1, I1, r1, q1⟩ => ⟨σ, H1, I1, q1⟩) I.quiet hs
noncomputable def Th (te : TE) : TS := fun D σ H => te σ H D.rt
theorem MF (he : PE X e te) : PS X (.Return (some e) pos) (Th te) := by
  intro pins s σ H D I h
  exact wpAny_Return_some (ja (he pins s σ H _ I h) fun v s1 ⟨x, H1, I1, r1, q1⟩ => ⟨x, σ, H1, I1, r1, q1⟩)
noncomputable def Ti (c : TT) (t u : TS) : TS := fun D σ H => c σ H fun b H1 => if b = true then t D σ H1 else u D σ H1
theorem Pb {c : Expr} {a b : List Stmt} {tc : TT} (hc : PT X c tc) (ha : Dr X a t) (hb : Dr X b u) : PS X (.If c a b pos) (Ti tc t u) := by
  intro pins s σ H D I h
  refine wpAny_If (ja (hc pins s σ H _ I h) fun d s1 ⟨H1, I1, q1⟩ => ?_)
  cases d with
  | true => exact ha pins s1 σ H1 D I1 q1
  | false => exact hb pins s1 σ H1 D I1 q1
end
noncomputable abbrev TG := V → St → Hp → (St → Hp → Prop) → Prop
noncomputable abbrev MG := List V → St → Hp → (St → Hp → Prop) → Prop
noncomputable def PG (X : Cx) (target : Expr) (t : TG) : Prop :=
  ∀ (pins : List (Addr × Obj)) (s : Shared) (σ : St) (H : Hp) (v : V) (u : Value) (Q : St → Hp → Prop), Inv X pins σ H s → RelV v u → t v σ H Q →
    wpAny (model X.prog X.w) X.A (assign target X.env u) (fun _ s' => ∃ σ' H', Inv X pins σ' H' s' ∧ Q σ' H') X.xe s
noncomputable def Sj (X : Cx) (ts : List Expr) (t : MG) : Prop :=
  ∀ (pins : List (Addr × Obj)) (s : Shared) (σ : St) (H : Hp) (vs : List V) (us : List Value) (Q : St → Hp → Prop), Inv X pins σ H s → Vals vs us → t vs σ H Q →
    wpAny (model X.prog X.w) X.A (assignInOrder ((assignEach ts X.env).map (·.2)) us) (fun _ s' => ∃ σ' H', Inv X pins σ' H' s' ∧ Q σ' H') X.xe s
section
variable {X : Cx} {pos : Pos}
noncomputable def BN (i : Nat) : TG := fun v σ H Q => Q (σ.set i (some v)) H
theorem Az {i : Nat} {x : Str} (hN : X.N.Nodup) (hi : X.N[i]? = some x) (hx : Loc X.env.scope x) (hf : X.fn x = true ∨ X.env.scope.names.lookup x = some .local := by first | exact .inl rfl | exact .inr rfl | assumption) : PG X (.Name x pos) (BN i) := by
  intro pins s σ H v u Q I r h
  exact wpAny_assign_Name (xq I hN hi hx r (fun s' I' => ⟨_, H, I', h⟩) hf)
noncomputable def Tj : MG := fun vs σ H Q => vs = [] ∧ Q σ H
noncomputable def Pc (t : TG) (u : MG) : MG := fun vs σ H Q => ∃ v r, vs = v :: r ∧ t v σ H fun σ' H' => u r σ' H' Q
theorem Kc : Sj X [] Tj := by
  intro pins s σ H vs us Q I r h
  obtain ⟨e, h⟩ := h
  subst e
  cases r
  exact assignInOrder_nil ⟨σ, H, I, h⟩
theorem BO {e : Expr} {es : List Expr} {t : TG} {u : MG} (h1 : PG X e t) (h2 : Sj X es u)
    (hs : (assignEach (e :: es) X.env).map (·.2) = assign e X.env :: (assignEach es X.env).map (·.2) := by rfl) : Sj X (e :: es) (Pc t u) := by
  intro pins s σ H vs us Q I r h
  obtain ⟨v, vr, e1, h⟩ := h
  subst e1
  cases r with
  | cons r rr =>
    rw [hs]
    refine assignInOrder_cons (ja (h1 pins s σ H _ _ _ I r h) fun _ s1 ⟨σ1, H1, I1, q1⟩ => ?_)
    exact h2 pins s1 σ1 H1 _ _ Q I1 rr q1
noncomputable def Tn (K : PySem.W.Frag) (n : Nat) (t : MG) : TG := fun v σ H Q => ∃ a xs, v = .ref a ∧ qS K H a xs ∧ xs.length = n ∧ t xs σ H Q
theorem MH {es : List Expr} {k : Nat} {t : MG} {n : Nat} (hc : X.calm = true) (h : Sj X es t)
    (hn : (assignEach es X.env).length = n := by rfl) (hst : (assignEach es X.env).findIdx? (·.1) = none := by rfl) : PG X (.Tuple es k pos) (Tn X.K n t) := by
  intro pins s σ H v u Q I r hw
  obtain ⟨a, xs, e1, hq, hl, hw⟩ := hw
  subst e1
  cases r
  obtain ⟨its, rv, ht, hz⟩ := I.tuple hq
  refine assign_Tuple_tuple (I.ok.hd hc) ht (by simp [hn, ← hl, rv.length]) hst fun h' hx => ?_
  have I1 : Inv X pins σ H { s with heap := h' } := I.kept (t' := s.toks) fun b o e => hx b o (Nat.ne_of_lt (Heap.lt_size e)) e
  exact h pins _ σ H xs _ Q I1 (by simpa using rv) hw
noncomputable def MJ (te : TE) (g : TG) : TS := fun D σ H => te σ H fun x H1 => g x σ H1 D.nx
theorem MK {i : Nat} {x : Str} {e : Expr} {te : TE} {pos' : Pos} (hN : X.N.Nodup) (hi : X.N[i]? = some x) (hx : Loc X.env.scope x) (he : PE X e te) (hs : swapsWith e (some (.Name x pos')) pos.line X.env = pure false := by rfl) (hf : X.fn x = true ∨ X.env.scope.names.lookup x = some .local := by first | exact .inl rfl | exact .inr rfl | assumption) :
    PS X (.Assign [.Name x pos'] e pos) (MJ te (BN i)) := by
  intro pins s σ H D I h
  refine wpAny_Assign_Name (ja (he pins s σ H _ I h) fun v s1 ⟨y, H1, I1, r1, q1⟩ => ?_) hs
  exact xq I1 hN hi hx r1 (fun s2 I2 => ⟨_, H1, I2, q1⟩) hf
end
section
variable {X : Cx} {pos : Pos}
noncomputable def ML (c : TT) (tb : TS) : TS := fun D σ H => ∃ W : Nat → St → Hp → Prop, (∃ m, W m σ H) ∧ ∀ m σ H, W m σ H →
  c σ H fun b H1 => if b = true then ∃ N : St → Hp → Prop, (∀ σ' H', N σ' H' → ∃ m', m' < m ∧ W m' σ' H') ∧ tb { D with nx := N, ct := N, bk := D.nx } σ H1 else D.nx σ H1
theorem Hy {c : Expr} {body : List Stmt} {tc : TT} {tb : TS} (hp : PassesOwn (model X.prog X.w) X.A X.env X.xe) (hc : PT X c tc) (hb : Dr X body tb) : PS X (.While c body [] pos) (ML tc tb) := by
  intro pins s σ H D I h
  obtain ⟨W, ⟨m0, w0⟩, turn⟩ := h
  refine wpAny_While (codeAny_whileLoop (fun n s' => ∃ σ' H', Inv X pins σ' H' s' ∧ W n σ' H') ?_ m0 ⟨σ, H, I, w0⟩)
  rintro n s1 ⟨σ1, H1, I1, w1⟩
  refine wpAny_passesOwn hp (ja (hc pins s1 σ1 H1 _ I1 (turn n σ1 H1 w1)) fun b s2 ⟨H2, I2, q2⟩ => ?_)
  cases b with
  | true =>
    obtain ⟨N, hN, q2⟩ := q2
    rw [if_pos rfl]
    refine wpAny_passesOwn hp (ja (hb pins s2 σ1 H2 _ I2 q2) fun f s3 q3 => ?_)
    cases f with
    | next =>
      obtain ⟨σ3, H3, I3, n3⟩ := q3
      obtain ⟨m', hm, w3⟩ := hN σ3 H3 n3
      exact ⟨m', hm, σ3, H3, I3, w3⟩
    | cont =>
      obtain ⟨σ3, H3, I3, n3⟩ := q3
      obtain ⟨m', hm, w3⟩ := hN σ3 H3 n3
      exact ⟨m', hm, σ3, H3, I3, w3⟩
    | brk => exact q3
    | ret v => exact q3
  | false =>
    rw [if_neg Bool.false_ne_true]
    exact wpAny_execs_nil ⟨σ1, H2, I2, q2⟩
end
structure It where
  go : Nat → Hp → Prop
  zB : Nat → Hp → V → Hp → Prop
  stop : Nat → Hp → Prop
noncomputable def uL (X : Cx) (pins : List (Addr × Obj)) (H : Hp) (b : Addr) : Prop :=
  H b = none ∧ b ≠ X.env.locals ∧ b ∉ X.fs ∧ (b ∈ X.ex ∨ X.s₀.heap.objs.size ≤ b) ∧ (∀ x c, X.env.cells.lookup x = some c → c ≠ b) ∧ ∀ p ∈ X.pn ++ pins, p.1 ≠ b
theorem Inv.FP {X : Cx} {pins : List (Addr × Obj)} {σ : St} {H H' : Hp} {s : Shared} {b : Addr} (I : Inv X pins σ H s) (hb : s.heap.objs.size ≤ b) (hn : H' b = none) : uL X pins H' b := by
  refine ⟨hn, Nat.ne_of_gt (Nat.lt_of_lt_of_le I.lt hb), I.O1 hb, .inr (Nat.le_trans I.sz hb), fun x c e z => ?_, fun p hp z => ?_⟩
  · obtain ⟨v, q⟩ := I.cell x c e
    exact absurd (Nat.lt_of_lt_of_le q.lt (by rw [z]; exact hb)) (Nat.lt_irrefl _)
  · exact absurd (Nat.lt_of_lt_of_le (Heap.lt_size (I.pin p hp).1) (by rw [z]; exact hb)) (Nat.lt_irrefl _)
structure Turn (P : Program) (w : World) (K : PySem.W.Frag) (tg : Expr) (J : It) (fp : List Addr) (it : Addr) (tn : Nat → Heap → Prop) : Prop where
  mem : it ∈ fp
  obj : ∀ i h, tn i h → ∀ b ∈ fp, ∃ o, h.get? b = some o ∧ ∀ v, o.data ≠ .cell v
  keep : ∀ i h h', tn i h → (∀ b ∈ fp, ∀ o, h.get? b = some o → h'.get? b = some o) → tn i h'
  item : ∀ (X : Cx), X.prog = P → X.w = w → X.K = K → X.calm = true → ∀ (i : Nat) (pins : List (Addr × Obj)) (s : Shared) (σ : St) (H : Hp) (E : Value → Shared → Prop), Inv X pins σ H s → (∀ b ∈ fp, uL X pins H b) → tn i s.heap → J.go i H →
    wpAny (model P w) X.A (pyNext (.ref it)) (fun r s1 => ∃ u, r = some u ∧
      wpAny (model P w) X.A (letOwnedTupleGo tg (.ref it) u) (fun _ s2 => ∃ x H', Inv X pins σ H' s2 ∧ RelV x u ∧ J.zB i H x H' ∧ tn (i + 1) s2.heap ∧ ∀ b ∈ fp, H' b = none) E s1) E s
  done : ∀ (X : Cx), X.prog = P → X.w = w → X.K = K → X.calm = true → ∀ (i : Nat) (pins : List (Addr × Obj)) (s : Shared) (σ : St) (H : Hp) (E : Value → Shared → Prop), Inv X pins σ H s → (∀ b ∈ fp, uL X pins H b) → tn i s.heap → J.stop i H →
    wpAny (model P w) X.A (pyNext (.ref it)) (fun r s1 => r = none ∧ Inv X pins σ H s1) E s
  self : ∀ (A : Around) (i : Nat) (s : Shared) (Q : Value → Shared → Prop) (E : Value → Shared → Prop), tn i s.heap → Q (.ref it) s → wpAny (model P w) A (pyIter (.ref it)) Q E s
noncomputable abbrev TI := St → Hp → (It → Hp → Prop) → Prop
noncomputable def V2 (X : Cx) (pins : List (Addr × Obj)) (σ : St) (tg : Expr) (R : It → Hp → Prop) (itv : Value) (s2 : Shared) : Prop :=
  ∃ (it : Addr) (fp : List Addr) (tn : Nat → Heap → Prop) (J : It) (H' : Hp), itv = .ref it ∧ Inv X pins σ H' s2 ∧ Turn X.prog X.w X.K tg J fp it tn ∧ tn 0 s2.heap ∧ (∀ b ∈ fp, uL X pins H' b) ∧ R J H'
noncomputable def PI (X : Cx) (tg iter : Expr) (wi : TI) : Prop :=
  ∀ (pins : List (Addr × Obj)) (s : Shared) (σ : St) (H : Hp) (R : It → Hp → Prop), Inv X pins σ H s → wi σ H R →
    wpAny (model X.prog X.w) X.A (eval iter X.env) (fun v s1 => wpAny (model X.prog X.w) X.A (pyIter v) (V2 X pins σ tg R) X.xe s1) X.xe s
theorem BP {M : Model} {A : Around} {E : Value → Shared → Prop} {s : Shared} {tg : Expr} {it : Addr} {u : Value} {o : Obj} {n : String} {vs : Array Value} {Q : Unit → Shared → Prop} (ho : s.heap.get? it = some o) (hc : o.cls = .type n) (hd : o.data = .fields vs)
    (hn : ["enumerate", "zip", "dict_itemiterator", "dict_reverseitemiterator", "odict_iterator", "itertools.zip_longest", "itertools.pairwise"].contains n = false) (hQ : Q () s) : wpAny M A (letOwnedTupleGo tg (.ref it) u) Q E s := by
  unfold letOwnedTupleGo
  cases tg <;> first
    | exact wpAny_pure hQ
    | (cases u <;> first
        | exact wpAny_pure hQ
        | (refine wpAny_bind (wpAny_load ho ?_)
           rw [hc, hd]
           show wpAny M A (if (["enumerate", "zip", "dict_itemiterator", "dict_reverseitemiterator", "odict_iterator", "itertools.zip_longest", "itertools.pairwise"].contains n && vs[0]? == some (rawInt _)) = true then _ else _) Q E s
           rw [if_neg (by intro h; rw [hn, Bool.false_and] at h; cases h)]
           exact wpAny_pure hQ))
noncomputable def JW (K : PySem.W.Frag) (a : Addr) : It :=
  ⟨fun i H => ∃ xs x, pD K H a xs ∧ xs[i]? = some x, fun i H x H' => H' = H ∧ ∀ xs, pD K H a xs → xs[i]? = some x, fun i H => ∃ xs, pD K H a xs ∧ xs.length ≤ i⟩
noncomputable def Sk (K : PySem.W.Frag) (a : Addr) : It :=
  ⟨fun i H => ∃ xs x, qS K H a xs ∧ xs[i]? = some x, fun i H x H' => H' = H ∧ ∀ xs, qS K H a xs → xs[i]? = some x, fun i H => ∃ xs, qS K H a xs ∧ xs.length ≤ i⟩
noncomputable def AA (lo : Int) (n : Nat) : It := ⟨fun i _ => i < n, fun i H x H' => H' = H ∧ x = .int (lo + i), fun i _ => n ≤ i⟩
theorem FQ {P : Program} {w : World} {K : PySem.W.Frag} {tg : Expr} (a it : Addr) : Turn P w K tg (JW K a) [it] it (fun i h => h.IsListIter it a i) where
  mem := by simp
  obj := fun i h st b hb => by
    have e : b = it := by simpa using hb
    subst e
    obtain ⟨o, e, c, d⟩ := st
    exact ⟨o, e, fun v z => by rw [d] at z; cases z⟩
  keep := fun i h h' st k => st.at fun o e => k it (by simp) o e
  item := by
    intro X hP hw hK hc i pins s σ H E I hf st hg
    subst hP hw hK
    obtain ⟨xs, x, hq, hx⟩ := hg
    obtain ⟨its, rv, p, hz⟩ := I.list hq
    obtain ⟨u, hu, ru⟩ := rv.get hx
    obtain ⟨f0, f1, f2, f3, f4, f5⟩ := hf it (by simp)
    refine wpAny_pyNext_list_item st p.isList (x := u) (by simpa using hu) fun h' st' sb => ?_
    have I1 : Inv X pins σ H { s with heap := h' } := I.turned (t' := s.toks) (fun b o hb e => (sb.2 b hb).trans e) f0 f1 f3 f4 f5
    obtain ⟨o, e, c, d⟩ := id st'
    exact ⟨u, rfl, BP (s := { s with heap := h' }) e c d (by decide) ⟨x, H, I1, ru, ⟨rfl, fun ys hy => by rw [I.xr hy hq]; exact hx⟩, st', fun b hb => (hf b hb).1⟩⟩
  done := by
    intro X hP hw hK hc i pins s σ H E I hf st hg
    subst hP hw hK
    obtain ⟨xs, hq, hx⟩ := hg
    obtain ⟨its, rv, p, hz⟩ := I.list hq
    obtain ⟨f0, f1, f2, f3, f4, f5⟩ := hf it (by simp)
    have hl := rv.length
    exact wpAny_pyNext_list_end (I.ok.hd hc) st p.isList (by simp; omega) fun h' eb => ⟨rfl, I.turned (t' := s.toks) (fun b o hb e => eb b o hb e) f0 f1 f3 f4 f5⟩
  self := fun _ _ _ _ _ st h => wpAny_pyIter_listiter st h
theorem Dt {P : Program} {w : World} {K : PySem.W.Frag} {tg : Expr} (a it : Addr) : Turn P w K tg (Sk K a) [it] it (fun i h => h.IsTupleIter it a i) where
  mem := by simp
  obj := fun i h st b hb => by
    have e : b = it := by simpa using hb
    subst e
    obtain ⟨o, e, c, d⟩ := st
    exact ⟨o, e, fun v z => by rw [d] at z; cases z⟩
  keep := fun i h h' st k => st.at fun o e => k it (by simp) o e
  item := by
    intro X hP hw hK hc i pins s σ H E I hf st hg
    subst hP hw hK
    obtain ⟨xs, x, hq, hx⟩ := hg
    obtain ⟨its, rv, p, hz⟩ := I.tuple hq
    obtain ⟨u, hu, ru⟩ := rv.get hx
    obtain ⟨f0, f1, f2, f3, f4, f5⟩ := hf it (by simp)
    refine wpAny_pyNext_tuple_item st (show s.heap.IsTuple a its.toArray from p) (x := u) (by simpa using hu) fun h' st' sb => ?_
    have I1 : Inv X pins σ H { s with heap := h' } := I.turned (t' := s.toks) (fun b o hb e => (sb.2 b hb).trans e) f0 f1 f3 f4 f5
    obtain ⟨o, e, c, d⟩ := id st'
    exact ⟨u, rfl, BP (s := { s with heap := h' }) e c d (by decide) ⟨x, H, I1, ru, ⟨rfl, fun ys hy => by rw [I.zA hy hq]; exact hx⟩, st', fun b hb => (hf b hb).1⟩⟩
  done := by
    intro X hP hw hK hc i pins s σ H E I hf st hg
    subst hP hw hK
    obtain ⟨xs, hq, hx⟩ := hg
    obtain ⟨its, rv, p, hz⟩ := I.tuple hq
    obtain ⟨f0, f1, f2, f3, f4, f5⟩ := hf it (by simp)
    have hl := rv.length
    exact wpAny_pyNext_tuple_end (I.ok.hd hc) st (show s.heap.IsTuple a its.toArray from p) (by simp; omega) fun h' eb => ⟨rfl, I.turned (t' := s.toks) (fun b o hb e => eb b o hb e) f0 f1 f3 f4 f5⟩
  self := fun _ _ _ _ _ st h => wpAny_pyIter_tupleiter st h
theorem Du {P : Program} {w : World} {K : PySem.W.Frag} {tg : Expr} (it : Addr) (lo : Int) (n : Nat) : Turn P w K tg (AA lo n) [it] it (fun i h => IsRangeIter h it (lo + (i : Nat) * 1) ((n : Int) - (i : Nat)) 1) where
  mem := by simp
  obj := fun i h st b hb => by
    have e : b = it := by simpa using hb
    subst e
    exact ⟨_, st, fun v z => by
      have z' : Data.fields _ = Data.cell v := z
      cases z'⟩
  keep := fun i h h' st k => k it (by simp) _ st
  item := by
    intro X hP hw hK hc i pins s σ H E I hf st hg
    subst hP hw hK
    obtain ⟨f0, f1, f2, f3, f4, f5⟩ := hf it (by simp)
    have W := Walks.range (prog := X.prog) (w := X.w) (I.ok.hd hc) it lo 1 n
    refine oF I.os.2 (W.item i s _ _ hg st fun v h' tk hv st' kk => fun ht => ?_)
    obtain ⟨t, rfl⟩ := hv
    have I1 : Inv X pins σ H { s with heap := h', toks := tk } := I.turned (fun b o hb e => kk b o (by simpa using hb) e) f0 f1 f3 f4 f5
    refine ⟨_, rfl, BP (s := { s with heap := h', toks := tk }) (n := "range_iterator") st' rfl rfl (by decide) ⟨.int (lo + i), H, I1, ⟨t, ?_⟩, ⟨rfl, rfl⟩, st', fun b hb => (hf b hb).1⟩⟩
    rw [Int.mul_one]
  done := by
    intro X hP hw hK hc i pins s σ H E I hf st hg
    subst hP hw hK
    obtain ⟨f0, f1, f2, f3, f4, f5⟩ := hf it (by simp)
    exact wpAny_pyNext_range_end (I.ok.hd hc) st (by have : n ≤ i := hg; omega) fun h' eb => ⟨rfl, I.turned (t' := s.toks) (fun b o hb e => eb b o hb e) f0 f1 f3 f4 f5⟩
  self := fun _ _ _ _ _ st h => wpAny_pyIter_rangeiter st h
end L2
namespace L2
open PySem PySem.Spec PyProof.Rows
section
variable {X : Cx} {tg : Expr}
theorem Hz {pins : List (Addr × Obj)} {σ : St} {H : Hp} {s : Shared} {R : It → Hp → Prop} {E : Value → Shared → Prop} {lo hi : Int} {t u v : Tok} {tk : Nat} (I : Inv X pins σ H s) (h1 : -(2 ^ 62) ≤ lo) (h2 : lo < 2 ^ 62) (h3 : -(2 ^ 62) ≤ hi) (h4 : hi < 2 ^ 62)
    (q : R (AA lo (hi - lo).toNat) H) (ht : 0 < tk := by first | exact Nat.succ_pos _ | exact (Inv.os (by assumption)).2 | assumption | omega) : wpAny (model X.prog X.w) X.A (pyIter (.ref s.heap.objs.size)) (V2 X pins σ tg R) E { s with heap := s.heap.push { cls := .type "range", data := .fields #[.int lo t, .int hi u, .int 1 v] }, toks := tk } := by
  refine wpAny_pyIter_range (IsRange.new ..) (small_one h1 h2 h3 h4) ?_
  have I1 : Inv X pins σ H { s with heap := s.heap.push { cls := .type "range", data := .fields #[.int lo t, .int hi u, .int 1 v] }, toks := tk } := I.kept fun b o e => Heap.get?_push_of_some _ e
  refine ⟨(s.heap.push { cls := .type "range", data := .fields #[.int lo t, .int hi u, .int 1 v] }).objs.size, [(s.heap.push { cls := .type "range", data := .fields #[.int lo t, .int hi u, .int 1 v] }).objs.size], _, _, H, rfl,
    I1.kept (t' := tk) fun b o e => Heap.get?_push_of_some _ e, Du _ lo (hi - lo).toNat, ?_, fun b hb => ?_, q⟩
  · have e1 : lo + ((0 : Nat) : Int) * 1 = lo := by simp
    have e2 : (((hi - lo).toNat : Nat) : Int) - ((0 : Nat) : Int) = Builtin.Range.rangeSize lo hi 1 := by rw [rangeSize_one]; split <;> omega
    show IsRangeIter _ _ (lo + ((0 : Nat) : Int) * 1) ((((hi - lo).toNat : Nat) : Int) - ((0 : Nat) : Int)) 1
    rw [e1, e2]
    exact Heap.get?_push_size _ rfl
  · have e : b = (s.heap.push { cls := .type "range", data := .fields #[.int lo t, .int hi u, .int 1 v] }).objs.size := by simpa using hb
    subst e
    exact I1.FP (Nat.le_refl _) (I1.hok.fresh (Nat.le_refl _))
noncomputable def LO (ta : TA) : TI := fun σ H R => ta σ H fun vs H1 => ∃ j : Int, vs = [.int j] ∧ -(2 ^ 62) ≤ j ∧ j < 2 ^ 62 ∧ R (AA 0 j.toNat) H1
theorem zC {a : Expr} {ta : TA} {p pos : Pos} (hg : Gl X "range") (hm : X.mg "range" = none) (ha : PA X [a] ta) (hs : starEach [a] X.env = [(false, eval a X.env)] := by rfl) : PI X tg (.Call (.Name "range" p) [a] [] pos) (LO ta) := by
  intro pins s σ H R I h
  refine Call_ (nv I hg hm boot_range (PyProof.Rows.callWith_type1 (ja (ha pos pins s σ H _ I h) fun us s1 ⟨vs, H1, I1, r1, q1⟩ => ?_) hs rfl))
  obtain ⟨j, e, q1, q2, q⟩ := q1
  subst e
  cases r1 with
  | cons r rr =>
    cases rr
    obtain ⟨t, rfl⟩ := r
    exact call_range_1 (Hz I1 (by omega) (by omega) q1 q2 (by simpa using q))
noncomputable def To (wi : TI) (g : TG) (tb : TS) : TS := fun D σ H => wi σ H fun J H1 => ∃ W : Nat → Nat → St → Hp → Prop, (∃ m, W 0 m σ H1) ∧ ∀ i m σ H, W i m σ H →
  (J.stop i H ∧ D.nx σ H) ∨ (J.go i H ∧ ∃ N : St → Hp → Prop, (∀ σ' H', N σ' H' → ∃ m', m' < m ∧ W (i + 1) m' σ' H') ∧ ∀ x H', J.zB i H x H' → g x σ H' fun σ2 H2 => tb { D with nx := N, ct := N, bk := D.nx } σ2 H2)
noncomputable def uM (fp : List Addr) (h : Heap) : List (Addr × Obj) := fp.filterMap fun b => (h.get? b).map fun o => (b, o)
theorem ny {fp : List Addr} {h : Heap} {b : Addr} {o : Obj} (hb : b ∈ fp) (e : h.get? b = some o) : (b, o) ∈ uM fp h := List.mem_filterMap.mpr ⟨b, hb, by rw [e]; rfl⟩
theorem FT {fp : List Addr} {h : Heap} {p : Addr × Obj} (hp : p ∈ uM fp h) : p.1 ∈ fp ∧ h.get? p.1 = some p.2 := by
  obtain ⟨b, hb, e⟩ := List.mem_filterMap.mp hp
  cases q : h.get? b with
  | none => rw [q] at e; cases e
  | some o =>
    rw [q] at e
    have e' : (b, o) = p := Option.some.inj e
    subst e'
    exact ⟨hb, q⟩
theorem Inv.pinned {pins : List (Addr × Obj)} {σ : St} {H : Hp} {s : Shared} {fp : List Addr} (I : Inv X pins σ H s) (hf : ∀ b ∈ fp, uL X pins H b) (ho : ∀ b ∈ fp, ∃ o, s.heap.get? b = some o ∧ ∀ v, o.data ≠ .cell v) : Inv X (pins ++ uM fp s.heap) σ H s :=
  I.sZ fun p hp => (List.mem_append.mp hp).elim (fun z => I.pin p (List.mem_append_right _ z)) fun z => by
    obtain ⟨hb, e⟩ := FT z
    obtain ⟨f0, f1, f2, _⟩ := hf p.1 hb
    obtain ⟨o, e', d⟩ := ho p.1 hb
    rw [e] at e'; cases e'
    exact ⟨e, f0, f1, f2, d⟩
theorem Inv.xu {pins pl : List (Addr × Obj)} {σ : St} {H : Hp} {s : Shared} (I : Inv X (pins ++ pl) σ H s) : Inv X pins σ H s := I.sZ fun p hp => I.pin p (List.mem_append_right _ (List.mem_append_left _ hp))
theorem Dv {iter : Expr} {body : List Stmt} {wi : TI} {g : TG} {tb : TS} {pos : Pos} (hp : PassesOwn (model X.prog X.w) X.A X.env X.xe) (hc : X.calm = true) (hi : PI X tg iter wi) (hg : PG X tg g) (hb : Dr X body tb)
    (hs : ∀ x, foldedSetIterable iter X.env x = pure x := by intro _; rfl) : PS X (.For tg iter body [] pos) (To wi g tb) := by
  intro pins s σ H D I h
  refine wpAny_For (ja (hi pins s σ H _ I h) fun v s1 h1 => ja h1 fun itv s2 h2 => ?_) hs
  obtain ⟨it, fp, tn, J, H2, e, I2, T, st2, f2, W, ⟨m0, w0⟩, turn⟩ := h2
  subst e
  have MM : ∀ {H' : Hp}, (∀ b ∈ fp, H' b = none) → ∀ b ∈ fp, uL X pins H' b := fun hn b hb => ⟨hn b hb, (f2 b hb).2⟩
  refine codeAny_forLoop_any (fun n s' => ∃ i σ' H', Inv X pins σ' H' s' ∧ tn i s'.heap ∧ (∀ b ∈ fp, H' b = none) ∧ W i n σ' H') ?_ m0 ⟨0, σ, H2, I2, st2, fun b hb => (f2 b hb).1, w0⟩
  rintro n s3 ⟨i, σ3, H3, I3, st3, V3, w3⟩
  rcases turn i n σ3 H3 w3 with ⟨stop, qn⟩ | ⟨go, N, hN, step⟩
  · refine wpAny_passesOwn hp (ja (T.done X rfl rfl rfl hc i pins s3 σ3 H3 X.xe I3 (MM V3) st3 stop) fun r s4 ⟨hr, I4⟩ => ?_)
    subst hr
    exact wpAny_execs_nil ⟨σ3, H3, I4, qn⟩
  · refine wpAny_passesOwn hp (ja (T.item X rfl rfl rfl hc i pins s3 σ3 H3 X.xe I3 (MM V3) st3 go) fun r s4 ⟨u, hr, h4⟩ => ?_)
    subst hr
    refine wpAny_passesOwn hp (ja h4 fun _ s5 ⟨x, H5, I5, r5, y5, OL, Sl⟩ => ?_)
    have XM := I5.pinned (MM Sl) (T.obj _ _ OL)
    refine wpAny_passesOwn hp (ja (hg _ s5 σ3 H5 x u _ XM r5 (step x H5 y5)) fun _ s6 ⟨σ6, H6, I6, q6⟩ => ?_)
    refine wpAny_passesOwn hp (ja (hb _ s6 σ6 H6 _ I6 q6) fun f s7 q7 => ?_)
    have again : ∀ {σ7 : St} {H7 : Hp}, Inv X (pins ++ uM fp s5.heap) σ7 H7 s7 → N σ7 H7 → ∃ m, m < n ∧ ∃ i σ' H', Inv X pins σ' H' s7 ∧ tn i s7.heap ∧ (∀ b ∈ fp, H' b = none) ∧ W i m σ' H' := fun {σ7 H7} I7 n7 => by
      obtain ⟨m', hm, w7⟩ := hN σ7 H7 n7
      refine ⟨m', hm, i + 1, σ7, H7, I7.xu, T.keep _ _ _ OL fun b hb o e => (I7.pin (b, o) (List.mem_append_right _ (List.mem_append_right _ (ny hb e)))).1, fun b hb => ?_, w7⟩
      obtain ⟨o, e, d⟩ := T.obj _ _ OL b hb
      exact (I7.pin (b, o) (List.mem_append_right _ (List.mem_append_right _ (ny hb e)))).2.1
    cases f with
    | next => obtain ⟨σ7, H7, I7, n7⟩ := q7; exact again I7 n7
    | cont => obtain ⟨σ7, H7, I7, n7⟩ := q7; exact again I7 n7
    | brk => obtain ⟨σ7, H7, I7, q7⟩ := q7; exact ⟨σ7, H7, I7.xu, q7⟩
    | ret v => obtain ⟨x7, σ7, H7, I7, r7, q7⟩ := q7; exact ⟨x7, σ7, H7, I7.xu, r7, q7⟩
end
end L2
namespace L2
open PySem PySem.Spec PyProof.Rows
noncomputable abbrev R2 := V → V → Hp → VK → Prop
noncomputable def pF (X : Cx) (f : Value → Value → Sem Value) (r : R2) : Prop :=
  ∀ (pins : List (Addr × Obj)) (s : Shared) (σ : St) (H : Hp) (x y : V) (v u : Value) (Q : VK), Inv X pins σ H s → RelV x v → RelV y u → r x y H Q →
    wpAny (model X.prog X.w) X.A (f v u) (EP X pins σ Q) X.xe s
noncomputable def Tp (X : Cx) (f : Value → Sem Value) (r : V → Hp → VK → Prop) : Prop :=
  ∀ (pins : List (Addr × Obj)) (s : Shared) (σ : St) (H : Hp) (x : V) (v : Value) (Q : VK), Inv X pins σ H s → RelV x v → r x H Q →
    wpAny (model X.prog X.w) X.A (f v) (EP X pins σ Q) X.xe s
noncomputable def iB (X : Cx) (f : Value) (r : List V → Hp → VK → Prop) : Prop :=
  ∀ (pins : List (Addr × Obj)) (s : Shared) (σ : St) (H : Hp) (xs : List V) (us : List Value) (Q : VK), Inv X pins σ H s → Vals xs us → r xs H Q →
    wpAny (model X.prog X.w) X.A (call f us) (EP X pins σ Q) X.xe s
noncomputable def Tq (X : Cx) (r : V → Hp → (Bool → Hp → Prop) → Prop) : Prop :=
  ∀ (pins : List (Addr × Obj)) (s : Shared) (σ : St) (H : Hp) (x : V) (v : Value) (Q : Bool → Hp → Prop), Inv X pins σ H s → RelV x v → r x H Q →
    wpAny (model X.prog X.w) X.A (truthy v) (TP X pins σ Q) X.xe s
noncomputable def Pd (r : R2) (ta tb : TE) : TE := fun σ H Q => ta σ H fun x H1 => tb σ H1 fun y H2 => r x y H2 Q
noncomputable def XN (r : V → Hp → VK → Prop) (ta : TE) : TE := fun σ H Q => ta σ H fun x H1 => r x H1 Q
noncomputable def rI (C : Int → Int → Prop) (g : Int → Int → V) : R2 := fun x y H Q => ∃ i j, x = .int i ∧ y = .int j ∧ C i j ∧ Q (g i j) H
noncomputable def MN (g : Int → Int → V) : R2 := fun x y H Q => ∃ i j, x = .int i ∧ y = .int j ∧ Q (g i j) H
noncomputable def rU (g : Int → V) : V → Hp → VK → Prop := fun x H Q => ∃ i, x = .int i ∧ Q (g i) H
section
variable {X : Cx} {a b c : Expr} {ta tb tc : TE} {pos : Pos}
theorem MO (ha : PE X a ta) (hb : PE X b tb) {pins : List (Addr × Obj)} {s : Shared} {σ : St} {H : Hp} {R : V → V → Hp → Prop} (I : Inv X pins σ H s)
    (h : ta σ H fun x H1 => tb σ H1 fun y H2 => R x y H2) {Q : Value → Shared → Prop} {f : Value → Value → Sem Value}
    (hf : ∀ v u s2 x y H2, Inv X pins σ H2 s2 → RelV x v → RelV y u → R x y H2 → wpAny (model X.prog X.w) X.A (f v u) Q X.xe s2) :
    wpAny (model X.prog X.w) X.A (eval a X.env) (fun v s₁ => wpAny (model X.prog X.w) X.A (eval b X.env) (fun u s₂ => wpAny (model X.prog X.w) X.A (f v u) Q X.xe s₂) X.xe s₁) X.xe s := by
  refine ja (ha pins s σ H _ I h) fun v s1 ⟨x, H1, I1, r1, q1⟩ => ?_
  refine ja (hb pins s1 σ H1 _ I1 q1) fun u s2 ⟨y, H2, I2, r2, q2⟩ => ?_
  exact hf v u s2 x y H2 I2 r1 r2 q2
theorem Pe {op : Operator} {r : R2} (ho : pF X (binaryOp op) r) (ha : PE X a ta) (hb : PE X b tb) : PE X (.BinOp a op b pos) (Pd r ta tb) := by
  intro pins s σ H Q I h
  exact wpAny_BinOp (MO ha hb I h fun v u s2 x y H2 I2 rx ry q => ho pins s2 σ H2 x y v u Q I2 rx ry q)
theorem Pf {op : UnaryOp} {r : V → Hp → VK → Prop} (ho : Tp X (unaryOp op) r) (ha : PE X a ta) : PE X (.UnaryOp op a pos) (XN r ta) := by
  intro pins s σ H Q I h
  exact UnaryOp_ (ja (ha pins s σ H _ I h) fun v s1 ⟨x, H1, I1, r1, q1⟩ => ho pins s1 σ H1 x v Q I1 r1 q1)
theorem Sm {f : Value → Value → Sem Value} {C : Int → Int → Prop} {g : Int → Int → Int}
    (rule : ∀ (i j : Int) (t u : Tok) (s : Shared) (Q : Value → Shared → Prop) (E : Value → Shared → Prop), C i j → Q (.int (g i j) s.toks) { s with toks := s.toks + 1 } → wpAny (model X.prog X.w) X.A (f (.int i t) (.int j u)) Q E s) :
    pF X f (rI C fun i j => .int (g i j)) := by
  intro pins s σ H x y v u Q I rx ry h
  obtain ⟨i, j, rfl, rfl, hc, q⟩ := h
  obtain ⟨t, rfl⟩ := rx
  obtain ⟨t', rfl⟩ := ry
  exact rule i j t t' s _ _ hc ⟨.int (g i j), H, I.tok _, ⟨_, rfl⟩, q⟩
theorem Pg {f : Value → Value → Sem Value} {g : Int → Int → Int}
    (rule : ∀ (i j : Int) (t u : Tok) (s : Shared) (Q : Value → Shared → Prop) (E : Value → Shared → Prop), Q (.int (g i j) s.toks) { s with toks := s.toks + 1 } → wpAny (model X.prog X.w) X.A (f (.int i t) (.int j u)) Q E s) :
    pF X f (MN fun i j => .int (g i j)) := by
  intro pins s σ H x y v u Q I rx ry h
  obtain ⟨i, j, rfl, rfl, q⟩ := h
  obtain ⟨t, rfl⟩ := rx
  obtain ⟨t', rfl⟩ := ry
  exact rule i j t t' s _ _ ⟨.int (g i j), H, I.tok _, ⟨_, rfl⟩, q⟩
theorem Ph {f : Value → Value → Sem Value} {g : Int → Int → Bool}
    (rule : ∀ (i j : Int) (t u : Tok) (s : Shared) (Q : Value → Shared → Prop) (E : Value → Shared → Prop), Q (.bool (g i j)) s → wpAny (model X.prog X.w) X.A (f (.int i t) (.int j u)) Q E s) :
    pF X f (MN fun i j => .bl (g i j)) := by
  intro pins s σ H x y v u Q I rx ry h
  obtain ⟨i, j, rfl, rfl, q⟩ := h
  obtain ⟨t, rfl⟩ := rx
  obtain ⟨t', rfl⟩ := ry
  exact rule i j t t' s _ _ ⟨.bl (g i j), H, I, rfl, q⟩
noncomputable def Tr (i j : Int) : Prop := 0 < j ∧ j < 1073741824
noncomputable def Tt (i j : Int) : Prop := 0 ≤ j ∧ j ≤ 1000000 ∧ i.natAbs < 2 ^ 64
noncomputable def MP (i j : Int) : Prop := (-(2 ^ 64) < i ∧ i < 2 ^ 64) ∨ (-(2 ^ 64) < j ∧ j < 2 ^ 64)
theorem MP.ok {i j : Int} (h : MP i j) : IntMulOk i j := by
  rcases h with ⟨h1, h2⟩ | ⟨h1, h2⟩
  · exact .of_left (intBits_le_64 h1 h2)
  · exact .of_right (intBits_le_64 h1 h2)
theorem MQ : pF X (binaryOp .Add) (MN fun i j => .int (i + j)) := Pg fun _ _ _ _ _ _ _ q => add_int q
theorem MR : pF X (binaryOp .Sub) (MN fun i j => .int (i - j)) := Pg fun _ _ _ _ _ _ _ q => sub_int q
theorem MT : pF X (binaryOp .Mult) (rI MP fun i j => .int (i * j)) := Sm fun _ _ _ _ _ _ _ hc q => mul_int q hc.ok
theorem Kd : pF X (binaryOp .FloorDiv) (rI Tr fun i j => .int (i / j)) := Sm fun i j _ _ _ _ _ hc q => by
  have h1 : (0 : Int) < j := hc.1
  have h2 : j < 1073741824 := hc.2
  exact floordiv_int (by omega) (by rw [Int.fdiv_eq_ediv_of_nonneg i (by omega)]; exact q) (.inl (PyProof.noPylong_small (by omega)))
theorem MU : pF X (binaryOp .Mod) (rI (fun _ j => 0 < j) fun i j => .int (i % j)) := Sm fun i j _ _ _ _ _ hc q => by
  have h1 : (0 : Int) < j := hc
  exact mod_int' (by omega) (by rw [Int.fmod_eq_emod_of_nonneg i (by omega)]; exact q)
theorem MV : pF X (binaryOp .Pow) (rI Tt fun i j => .int (i ^ j.toNat)) := Sm fun _ _ _ _ _ _ _ hc q => pow_int_small hc.1 hc.2.1 hc.2.2 q
theorem XO {f : Value → Sem Value} {g : Int → Int}
    (rule : ∀ (i : Int) (t : Tok) (s : Shared) (Q : Value → Shared → Prop) (E : Value → Shared → Prop), Q (.int (g i) s.toks) { s with toks := s.toks + 1 } → wpAny (model X.prog X.w) X.A (f (.int i t)) Q E s) :
    Tp X f (rU fun i => .int (g i)) := by
  intro pins s σ H x v Q I rx h
  obtain ⟨i, rfl, q⟩ := h
  obtain ⟨t, rfl⟩ := rx
  exact rule i t s _ _ ⟨.int (g i), H, I.tok _, ⟨_, rfl⟩, q⟩
theorem MW : Tp X (unaryOp .USub) (rU fun i => .int (-i)) := XO fun _ _ _ _ _ q => neg_int q
end
section
variable {X : Cx} {a b c : Expr} {ta tb tc : TE} {pos : Pos}
theorem MX {pins : List (Addr × Obj)} {σ : St} {H : Hp} {s : Shared} {Q : VK} {k k' : Bool} (I : Inv X pins σ H s) (q : Q (.bl k) H) (e : k = k') : EP X pins σ Q (.bool k') s := by
  subst e
  exact ⟨.bl k, H, I, rfl, q⟩
theorem Pj : pF X (compareOp .Lt) (MN fun i j => .bl (decide (i < j))) := Ph fun _ _ _ _ _ _ _ q => lt_int q
theorem LP : pF X (compareOp .Gt) (MN fun i j => .bl (decide (j < i))) := Ph fun _ _ _ _ _ _ _ q => gt_int q
theorem FU : pF X (compareOp .In) (fun x y H Q => ∃ i j, x = .str i ∧ y = .str j ∧ Q (.bl (!(Builtin.Str.occurrences j i 0 j.length 1).isEmpty)) H) := by
  intro pins s σ H x y v u Q I rx ry h
  obtain ⟨i, j, rfl, rfl, q⟩ := h
  obtain ⟨t, rfl⟩ := rx
  obtain ⟨t', rfl⟩ := ry
  exact in_str (MX I q rfl)
theorem pF.or {f : Value → Value → Sem Value} {r r' : R2} (h : pF X f r) (h' : pF X f r') : pF X f (fun x y H Q => r x y H Q ∨ r' x y H Q) := by
  intro pins s σ H x y v u Q I rx ry q
  rcases q with q | q
  · exact h pins s σ H x y v u Q I rx ry q
  · exact h' pins s σ H x y v u Q I rx ry q
theorem HA (b : Expr) {op : CmpOp} (h : op ≠ .In := by decide) (h2 : op ≠ .NotIn := by decide) : behindInMarks op b = false := by
  have e1 : (op == CmpOp.In) = false := by cases op <;> first | rfl | exact absurd rfl h
  have e2 : (op == CmpOp.NotIn) = false := by cases op <;> first | rfl | exact absurd rfl h2
  cases b <;> simp [behindInMarks, e1, e2]
theorem Ke {op : CmpOp} {r : R2} (ho : pF X (compareOp op) r) (ha : PE X a ta) (hb : PE X b tb) (hm : behindInMarks op b = false) : PE X (.Compare a [op] [b] pos) (Pd r ta tb) := by
  intro pins s σ H Q I h
  exact wpAny_Compare1 (MO ha hb I h fun v u s2 x y H2 I2 rx ry q => ho pins s2 σ H2 x y v u Q I2 rx ry q) hm
noncomputable def Pk (t : TE) : TT := fun σ H Q => t σ H fun x H' => ∃ k, x = .bl k ∧ Q k H'
theorem Kf {op : CmpOp} {r : R2} (ho : pF X (compareOp op) r) (ha : PE X a ta) (hb : PE X b tb) (hm : behindInMarks op b = false) : PT X (.Compare a [op] [b] pos) (Pk (Pd r ta tb)) := by
  intro pins s σ H Q I h
  refine wpAny_isTrue_Compare1 (ja (ha pins s σ H _ I h) fun v s1 ⟨x, H1, I1, r1, q1⟩ => ja (hb pins s1 σ H1 _ I1 q1) fun u s2 ⟨y, H2, I2, r2, q2⟩ =>
    ja (ho pins s2 σ H2 x y v u _ I2 r1 r2 q2) fun c s3 ⟨z, H3, I3, r3, k, e, q3⟩ => ?_) hm
  subst e
  cases r3
  exact wpAny_truthy_bool ⟨H3, I3, q3⟩
noncomputable def MY (K : PySem.W.Frag) (x : V) (H : Hp) (k : Bool) : Prop :=
  match x with
  | .kr => k = false
  | .bl b => k = b
  | .int i => k = (i != 0)
  | .str y => y.length ≤ sizeLine ∧ k = ((y.length : Int) != 0)
  | .OY y => y.size ≤ sizeLine ∧ k = ((y.size : Int) != 0)
  | .ref p => (∃ xs, pD K H p xs ∧ k = !xs.isEmpty) ∨ (∃ xs, qS K H p xs ∧ k = !xs.isEmpty) ∨ ∃ kvs, H p = some (.dK kvs) ∧ k = !kvs.isEmpty
  | _ => False
theorem Dw {κ : Type} {kvs : List (κ × V)} {vs : List (κ × Value)} (r : KV kvs vs) : (!vs.isEmpty) = !kvs.isEmpty := by
  cases r <;> rfl
theorem xw {xs : List V} {its : List Value} (r : Vals xs its) : (!its.toArray.isEmpty) = !xs.isEmpty := by
  cases r <;> simp
theorem uN : (sizeLine : Nat) < 2 ^ 63 := by rw [sizeLine_eq]; decide
theorem MZ : Tq X (fun x H Q => ∃ k, MY X.K x H k ∧ Q k H) := by
  intro pins s σ H x v Q I rx h
  obtain ⟨k, e, q⟩ := h
  have hl := uN
  have hs : sizeLine = 16777216 := sizeLine_eq
  cases x with
  | kr =>
    cases rx
    have e' : k = false := e
    subst e'
    exact truthy_none ⟨H, I, q⟩
  | bl b =>
    cases rx
    have e' : k = b := e
    subst e'
    exact wpAny_truthy_bool ⟨H, I, q⟩
  | int i =>
    obtain ⟨t, rfl⟩ := rx
    have e' : k = (i != 0) := e
    subst e'
    exact PySem.P.truthy_int ⟨H, I, q⟩
  | str y =>
    obtain ⟨t, rfl⟩ := rx
    obtain ⟨hy, e'⟩ : y.length ≤ sizeLine ∧ k = ((y.length : Int) != 0) := e
    subst e'
    exact PySem.P.truthy_str (by omega) ⟨H, I.tok _, q⟩
  | OY y =>
    obtain ⟨t, rfl⟩ := rx
    obtain ⟨hy, e'⟩ : y.size ≤ sizeLine ∧ k = ((y.size : Int) != 0) := e
    subst e'
    exact PySem.W.truthy_bytes (by omega) ⟨H, I.tok _, q⟩
  | ref p =>
    cases rx
    have e' : (∃ xs, pD X.K H p xs ∧ k = !xs.isEmpty) ∨ (∃ xs, qS X.K H p xs ∧ k = !xs.isEmpty) ∨ ∃ kvs, H p = some (.dK kvs) ∧ k = !kvs.isEmpty := e
    rcases e' with ⟨xs, hx, e'⟩ | ⟨xs, hx, e'⟩ | ⟨kvs, hx, e'⟩
    · subst e'
      obtain ⟨its, r, pl, hz⟩ := I.list hx
      have hlen := r.length
      exact wpAny_truthy_list pl.isList (by simp only [List.size_toArray]; omega) ⟨H, I.tok _, by rw [xw r]; exact q⟩
    · subst e'
      obtain ⟨its, r, pl, hz⟩ := I.tuple hx
      have hlen := r.length
      exact truthy_tuple pl (by simp only [List.size_toArray]; omega) ⟨H, I.tok _, by rw [xw r]; exact q⟩
    · subst e'
      obtain ⟨hz, hS, vs, r, m⟩ : kvs.length ≤ sizeLine ∧ (p == sysModules) = false ∧ ∃ vs, KV kvs vs ∧ s.heap.DictOf (Aw X.prog X.w) p vs := I.hok p _ hx
      have hlen : kvs.length = vs.length := Paired.length r
      exact wpAny_truthy_dict hS m (by omega) ⟨H, I.tok _, by rw [Dw r]; exact q⟩
  | _ => exact (show False from e).elim
theorem HB (ha : PE X a ta) (he : ∀ whole, isTrue a X.env whole = (do let v ← whole; standAt a.pos; holding [v] (truthy v))) :
    PT X a (fun σ H Q => ta σ H fun x H' => ∃ k, MY X.K x H' k ∧ Q k H') := by
  intro pins s σ H Q I h
  exact isTrue_plain (ja (ha pins s σ H _ I h) fun v s1 ⟨x, H1, I1, r1, q1⟩ => MZ pins s1 σ H1 x v Q I1 r1 q1) (he _)
theorem Dy : pF X (binaryOp .Add) (fun x y H Q => ∃ i j, x = .str i ∧ y = .str j ∧ i.length + j.length ≤ sizeLine ∧ Q (.str (i ++ j)) H) := by
  intro pins s σ H x y v u Q I rx ry h
  obtain ⟨i, j, rfl, rfl, hz, q⟩ := h
  obtain ⟨t, rfl⟩ := rx
  obtain ⟨t', rfl⟩ := ry
  exact oF I.os.2 (add_str (fun t' tk ht => ⟨.str (i ++ j), H, I.tok _, ⟨_, rfl⟩, q⟩) hz)
theorem vals1 {x : V} {us : List Value} (r : Vals [x] us) : ∃ u, us = [u] ∧ RelV x u := by
  cases r with
  | cons r1 r2 => cases r2; exact ⟨_, rfl, r1⟩
theorem vals2 {x y : V} {us : List Value} (r : Vals [x, y] us) : ∃ u w', us = [u, w'] ∧ RelV x u ∧ RelV y w' := by
  cases r with
  | cons r1 r2 =>
    cases r2 with
    | cons r3 r4 => cases r4; exact ⟨_, _, rfl, r1, r3⟩
theorem FW (hc : X.calm = true) : iB X (.builtin "max") (fun xs H Q => ∃ i j, xs = [.int i, .int j] ∧ Q (.int (if j > i then j else i)) H) := by
  intro pins s σ H xs us Q I r h
  obtain ⟨i, j, rfl, q⟩ := h
  obtain ⟨u, w', rfl, ⟨t, rfl⟩, ⟨t', rfl⟩⟩ := vals2 r
  refine oF I.os.2 <| max_two_ints (I.ok.hd hc) fun h' tk k ht => ⟨_, H, I.kept k, ?_, q⟩
  by_cases hj : j > i
  · rw [if_pos hj, if_pos hj]; exact ⟨_, rfl⟩
  · rw [if_neg hj, if_neg hj]; exact ⟨_, rfl⟩
theorem zD : iB X (.type "int") (fun xs H Q => (∃ i, xs = [.int i] ∧ Q (.int i) H) ∨ ∃ k, xs = [.bl k] ∧ Q (.int (if k then 1 else 0)) H) := by
  intro pins s σ H xs us Q I r h
  rcases h with ⟨i, rfl, q⟩ | ⟨k, rfl, q⟩
  · obtain ⟨u, rfl, t, rfl⟩ := vals1 r
    exact call_int_int ⟨.int i, H, I, ⟨_, rfl⟩, q⟩
  · obtain ⟨u, rfl, r1⟩ := vals1 r
    cases r1
    exact call_int_bool ⟨.int (if k then 1 else 0), H, I.tok _, ⟨_, rfl⟩, q⟩
end
end L2
namespace L2
open PySem PySem.Spec PyProof.Rows
structure Pn (h : Heap) (x dx C : Addr) (mA : Str → Option Value) : Prop where
  obj : h.get? x = some (PySem.W.instObj C dx)
  ns : h.Ns1 dx mA
  ne : dx ≠ x
theorem FY {h : Heap} {dx : Addr} {mA : Str → Option Value} (n : h.Ns1 dx mA) : ∃ od, h.get? dx = some od ∧ ∀ name, PySem.W.lookIn name od = some (mA name) := by
  obtain ⟨o, es, ep, ho, hd, hk, _, hm⟩ := n
  refine ⟨o, ho, fun name => ?_⟩
  have e := hm name
  unfold nsFind findBy at e
  rw [← Array.find?_toList] at e
  unfold PySem.W.lookIn
  rw [hd]
  dsimp only
  split
  · rename_i y q
    rw [q] at e
    exact congrArg some e
  · rename_i q
    rw [q] at e
    have a : es.toList.any (·.refKey) = false := by
      rw [List.any_eq_false]
      intro y hy
      obtain ⟨z, t, hkey⟩ := hk y (Array.mem_toList_iff.mp hy)
      simp [DictEntry.refKey, hkey]
    have a' : ¬ es.toList.any (·.refKey) = true := by rw [a]; exact Bool.false_ne_true
    rw [if_neg a']
    exact congrArg some e
theorem Pn.look {h : Heap} {x dx C : Addr} {mA : Str → Option Value} (I : Pn h x dx C mA) : ∃ od, PySem.W.InstAt h x (PySem.W.instObj C dx) C (some od) ∧ ∀ name, PySem.W.lookIn name od = some (mA name) :=
  let ⟨od, ho, hl⟩ := FY I.ns
  ⟨od, ⟨I.obj, rfl, rfl, ho⟩, hl⟩
section
variable {prog : Program} {w : World} {A : Around} {E : Value → Shared → Prop} {s : Shared} {K : PySem.W.Frag} {x dx C f : Addr} {mA : Str → Option Value} {name : Str} {v : Value}
end
section
variable {P : Program} {w : World} {H H' : Hp} {h h' : Heap} {a C dx : Addr} {fs fs' : List (Str × V)}
end
structure XQ (K : PySem.W.Frag) (C : Addr) : Prop where
  pg : PySem.W.plainGet K C Str.empty = true
  hd : PySem.W.hasDictIn K C = true
  po : PySem.W.plainOver K C = true
  sa : PySem.W.findIn K (.ref C) "__setattr__" = some (some (.builtin "object.__setattr__"))
structure Con (K : PySem.W.Frag) (C : Addr) (f : Str) (v : V) (u : Value) : Prop where
  at_ : PySem.W.findIn K (.ref C) f = some (some u)
  rel : RelV v u
  get : PySem.W.specialIn K u "__get__" = some none
  cp : PySem.W.copiedNames.contains f = false
structure Meth (K : PySem.W.Frag) (C : Addr) (m : Str) (f : Addr) : Prop where
  at_ : PySem.W.findIn K (.ref C) m = some (some (.ref f))
  fn : PySem.W.isFn K (.ref f) = true
  kp : PySem.W.keepIn K (.ref f) = true
section
variable {X : Cx} {pins : List (Addr × Obj)} {σ : St} {H : Hp} {s : Shared} {a C dx : Addr} {fs : List (Str × V)} {f : Str} {v : V} {A : Around} {E : Value → Shared → Prop}
theorem Inv.made (I : Inv X pins σ H s) : Inv X pins σ (upd (upd H s.heap.objs.size (.own (s.heap.objs.size + 1))) (s.heap.objs.size + 1) (.ins C s.heap.objs.size []))
    { s with heap := (s.heap.push PySem.W.emptyDict).push (PySem.W.instObj C s.heap.objs.size) } := by
  have e1 : (s.heap.push PySem.W.emptyDict).get? s.heap.objs.size = some PySem.W.emptyDict := Heap.get?_push_size s.heap rfl
  have e2 : ((s.heap.push PySem.W.emptyDict).push (PySem.W.instObj C s.heap.objs.size)).get? (s.heap.objs.size + 1) = some (PySem.W.instObj C s.heap.objs.size) := by
    have := Heap.get?_push_size (s.heap.push PySem.W.emptyDict) (o := PySem.W.instObj C s.heap.objs.size) rfl
    rwa [Heap.size_push] at this
  have e3 : (s.heap.push PySem.W.emptyDict).Ns s.heap.objs.size (fun _ => none) := ⟨PySem.W.emptyDict, #[], _, e1, rfl, (fun e he => absurd he (by simp)), fun _ => rfl⟩
  have I1 := I.laid (a := s.heap.objs.size) (o := .own (s.heap.objs.size + 1)) (h' := s.heap.push PySem.W.emptyDict) (t' := s.toks) (fun b u q => Heap.get?_push_of_some _ q) (Nat.le_refl _) ⟨_, e1⟩
  refine I1.laid (a := s.heap.objs.size + 1) (o := .ins C s.heap.objs.size []) (t' := s.toks) (fun b u q => Heap.get?_push_of_some _ q) (Nat.le_of_eq (Heap.size_push _ _)) ?_
  have ne : s.heap.objs.size ≠ s.heap.objs.size + 1 := Nat.ne_of_lt (Nat.lt_succ_self _)
  refine ⟨by rw [bL ne, gB], Nat.zero_le _, ne, e2, fun _ => none, (Heap.Ns1.of_empty e3).at fun o q => Heap.get?_push_of_some _ q, fun _ => True.intro, fun y hy => absurd rfl hy⟩
end
section
variable {X : Cx} {o e value : Expr} {f : Str} {pos pos' tpos : Pos} {ta tv : TE}
end
section
variable {X : Cx} {pins : List (Addr × Obj)} {σ : St} {H : Hp} {s : Shared} {A : Around} {E : Value → Shared → Prop} {Q : Value → Shared → Prop} {c : Value} {b : Bool}
inductive xx (K : PySem.W.Frag) (H : Hp) : V → Value → Prop where
  | kr : xx K H .kr (.type "NoneType")
  | bl (x : Bool) : xx K H (.bl x) (.type "bool")
  | int (i : Int) : xx K H (.int i) (.type "int")
  | str (x : Str) : xx K H (.str x) (.type "str")
  | OZ (x : UInt64) : xx K H (.OZ x) (.type "float")
  | lst {a : Addr} {xs : List V} (e : H a = some (.lst xs)) : xx K H (.ref a) (.type "list")
  | oE {a : Addr} {o : Obj} {xs : List V} (e : H a = some (.oE o (.lst xs))) : xx K H (.ref a) (.type "list")
  | tup {a : Addr} {xs : List V} (e : H a = some (.tup xs)) : xx K H (.ref a) (.type "tuple")
  | dK {a : Addr} {kvs : List (Key × V)} (e : H a = some (.dK kvs)) : xx K H (.ref a) (.type "dict")
  | dT {a : Addr} {kvs : List (List Key × V)} (e : H a = some (.dT kvs)) : xx K H (.ref a) (.type "dict")
  | ins {a C dx : Addr} {fs : List (Str × V)} (e : H a = some (.ins C dx fs)) (cl : XQ K C) (ha : PySem.W.findIn K (.ref C) "__class__" = some (some (.builtin "object.__class__")))
      (hn : PySem.W.specialIn K (.builtin "object.__class__") "__get__" = some (some (.builtin "getset_descriptor.__get__"))) (htk : PySem.W.takesIn K (.builtin "object.__class__") = some true)
      (hm : PySem.W.mroIn K C (.type "object") = some true) : xx K H (.ref a) (.ref C)
end
end L2
namespace L2
open PySem PySem.Spec PyProof.Rows
structure iK (k : Nat) (A : Around) : Prop where
  hd : A.handled = none
  dp : A.depth + 3 * k + 5 < recursionLimit
  un : A.units + 16 * k + 600 < cLine
theorem iK.mono {j k : Nat} {A : Around} (r : iK k A) (h : j ≤ k) : iK j A := ⟨r.hd, by have := r.dp; omega, by have := r.un; omega⟩
theorem iK.deeper {k : Nat} {A : Around} (r : iK (k + 1) A) (env : Env) : iK k (A.deeper env) :=
  ⟨r.hd, by have := r.dp; show A.depth + 1 + 3 * k + 5 < _; omega, by have := r.un; show A.units + 3 + 16 * k + 600 < _; omega⟩
theorem iK.in1 {k : Nat} {A : Around} (r : iK (k + 1) A) : iK k A.in1 :=
  ⟨r.hd, by have := r.dp; show A.depth + 3 * k + 5 < _; omega, by have := r.un; show A.units + 1 + 16 * k + 600 < _; omega⟩
theorem Dz {A : Around} {C : Addr} {us : List Value} {kw : List (Str × Value)} : (A.under (.builtin "type.__call__" ⟨.ref C :: us, kw⟩)).depth = A.depth + 1 := by
  first | rfl | simp [Around.under, Code.weight, Code.isCreation, Code.isGuard, Code.isCaller, Code.frames, Code.isFrame, guardIds]
theorem DA {A : Around} {C : Addr} {us : List Value} {kw : List (Str × Value)} : (A.under (.builtin "type.__call__" ⟨.ref C :: us, kw⟩)).units = A.units + 1 := by
  first | rfl | simp [Around.under, Code.cUnits, Code.frames, Code.isFrame]
theorem iK.make {k : Nat} {A : Around} (r : iK (k + 1) A) (C : Addr) (us : List Value) (kw : List (Str × Value)) : iK k (A.under (.builtin "type.__call__" ⟨.ref C :: us, kw⟩)) :=
  ⟨r.hd, by have := r.dp; rw [Dz]; omega, by have := r.un; rw [DA]; omega⟩
theorem iK.depth {k : Nat} {A : Around} (r : iK k A) : A.depth < recursionLimit := by have := r.dp; omega
theorem iK.units {k : Nat} {A : Around} (r : iK k A) : A.units + 64 < cLine := by have := r.un; omega
noncomputable def Po : TA := fun _ H Q => Q [] H
noncomputable def HC (ta : TE) (tr : TA) : TA := fun σ H Q => ta σ H fun x H1 => tr σ H1 fun xs H2 => Q (x :: xs) H2
section
variable {X : Cx} {e : Expr} {es : List Expr} {te : TE} {t : TA} {pos : Pos}
theorem HE : PA X [] Po := fun _ _ _ _ H Q I h => Calls.spliced_nil ⟨[], H, I, .nil, h⟩
theorem AB (ha : PE X e te) (hr : PA X es t) (hs : starEach (e :: es) X.env = (false, eval e X.env) :: starEach es X.env := by rfl) : PA X (e :: es) (HC te t) := by
  intro pos pins s σ H Q I h
  rw [hs]
  show wpAny _ _ (spliced ((false, eval e X.env) :: backTo pos (starEach es X.env))) _ _ s
  refine Calls.spliced_cons (ja (ha pins s σ H _ I h) fun u s1 ⟨x, H1, I1, r1, q1⟩ => ?_)
  exact ja (hr pos pins s1 σ H1 _ I1 q1) fun us s2 ⟨xs, H2, I2, r2, q2⟩ => ⟨x :: xs, H2, I2, .cons r1 r2, q2⟩
noncomputable def Tu (t : TA) : TE := fun σ H Q => t σ H fun xs H1 => xs.length ≤ sizeLine ∧ ∀ p, H1 p = none → Q (.ref p) (upd H1 p (.tup xs))
noncomputable def Tv (t : TA) : TE := fun σ H Q => t σ H fun xs H1 => xs.length ≤ sizeLine ∧ ∀ p, H1 p = none → Q (.ref p) (upd H1 p (.lst xs))
theorem M0 {x1} (h : PA X es t) : PE X (.Tuple es x1 pos) (Tu t) := by
  intro pins s σ H Q I hq
  refine wpAny_Tuple_spliced (ja (h pos pins s σ H _ I hq) fun us s1 ⟨xs, H1, I1, r, z, q⟩ => ⟨by rw [← r.length]; exact z, ?_⟩)
  have hf : H1 s1.heap.objs.size = none := I1.hok.fresh (Nat.le_refl _)
  refine ⟨.ref s1.heap.objs.size, upd H1 s1.heap.objs.size (.tup xs), I1.laid (t' := s1.toks) (fun b u e => Heap.get?_push_of_some _ e) (Nat.le_refl _) ?_, rfl, q _ hf⟩
  exact ⟨z, us, r, ⟨_, Heap.get?_push_size _ rfl, rfl, _, rfl⟩⟩
theorem M3 (h : PA X es t) : PE X (.List es pos) (Tv t) := by
  intro pins s σ H Q I hq
  refine wpAny_List_spliced (ja (h pos pins s σ H _ I hq) fun us s1 ⟨xs, H1, I1, r, z, q⟩ => ⟨by rw [← r.length]; exact z, ?_⟩)
  have hf : H1 s1.heap.objs.size = none := I1.hok.fresh (Nat.le_refl _)
  refine ⟨.ref s1.heap.objs.size, upd H1 s1.heap.objs.size (.lst xs), I1.laid (t' := s1.toks) (fun b u e => Heap.get?_push_of_some _ e) (Nat.le_refl _) ?_, rfl, q _ hf⟩
  exact ⟨z, us, 0, r, Heap.get?_push_size _ rfl⟩
end
noncomputable abbrev Sp := List V → Hp → VK → XK → Prop
noncomputable abbrev yR := List Env → Hp → Shared → XK → Value → Shared → Prop
structure xy (P : Program) (w : World) (K : PySem.W.Frag) (mg : Str → Option Value) (base : Heap) (A : Around) (outer : List Env) (s : Shared) (H : Hp) : Prop where
  frames : A.frames = some outer
  mod : Mod K mg base
  bs : ∀ b o, base.get? b = some o → s.heap.get? b = some o ∧ H b = none
  LM : base.objs.size ≤ s.heap.objs.size
  wC : s.heap.FunFrames base outer
  Mz : ∀ b ∈ frs outer, H b = none
  hok : sW P w H s.heap
  bare : AllBare s.gens
noncomputable def CE (outer : List Env) (P : Program) (w : World) (H : Hp) (s : Shared) (Q : VK) (u : Value) (s' : Shared) : Prop :=
  ∃ v H', (s'.os = s.os ∧ 0 < s'.toks) ∧ AllBare s'.gens ∧ Un (frs outer) [] H H' s.heap s'.heap ∧ sW P w H' s'.heap ∧ RelV v u ∧ Q v H'
noncomputable def CR (CX : yR) (outer : List Env) (P : Program) (w : World) (H : Hp) (s : Shared) (Q : VK) (E : XK) (r : Result) (s' : Shared) : Prop :=
  match r with
  | .ok (.ret u) => CE outer P w H s Q u s'
  | .ok _ => False
  | .error e => CX outer H s E e s'
structure aW (P : Program) (w : World) (K : PySem.W.Frag) (mg : Str → Option Value) (base : Heap) (CX : yR) (k : Nat) (f : Addr) (fd : FuncData) (ps : List Str) (sp : Sp) : Prop where
  len : ∀ vs H Q E, sp vs H Q E → vs.length = ps.length
  run : ∀ (A : Around) (outer : List Env) (s : Shared) (H : Hp) (args : Args) (us : List Value) (vs : List V) (Q : VK) (E : XK), iK k A → xy P w K mg base A outer s H → 0 < s.toks → BindsTo s fd args (ps.zip us) → Vals vs us → sp vs H Q E →
    codeAny (model P w) A (.call (.ref f) args) (CR CX outer P w H s Q E) s
structure rm (P : Program) (w : World) (K : PySem.W.Frag) (mg : Str → Option Value) (base : Heap) (CX : yR) (k : Nat) (f : Addr) (fd : FuncData) (ps : List Str) (sp : Sp) : Prop where
  len : ∀ vs H Q E, sp vs H Q E → vs.length = ps.length
  run : ∀ (A : Around) (outer : List Env) (s : Shared) (H : Hp) (args : Args) (us : List Value) (vs : List V) (Q : VK) (E : XK), iK k A → xy P w K mg base A outer s H → BindsTo s fd args (ps.zip us) → Vals vs us → sp vs H Q E →
    codeAny (model P w) A (.call (.ref f) args) (CR CX outer P w H s Q E) s
theorem rm.imp {P : Program} {w : World} {K : PySem.W.Frag} {mg : Str → Option Value} {base : Heap} {CX : yR} {k : Nat} {f : Addr} {fd : FuncData} {ps : List Str} {sp Pp : Sp} (F : rm P w K mg base CX k f fd ps sp)
    (h : ∀ vs H Q E, Pp vs H Q E → sp vs H Q E) : rm P w K mg base CX k f fd ps Pp :=
  ⟨fun vs H Q E q => F.len vs H Q E (h _ _ _ _ q), fun A outer s H args us vs Q E hr he hb hv hs => F.run A outer s H args us vs Q E hr he hb hv (h _ _ _ _ hs)⟩
theorem aW.imp {P : Program} {w : World} {K : PySem.W.Frag} {mg : Str → Option Value} {base : Heap} {CX : yR} {k : Nat} {f : Addr} {fd : FuncData} {ps : List Str} {sp Pp : Sp} (F : aW P w K mg base CX k f fd ps sp)
    (h : ∀ vs H Q E, Pp vs H Q E → sp vs H Q E) : aW P w K mg base CX k f fd ps Pp :=
  ⟨fun vs H Q E q => F.len vs H Q E (h _ _ _ _ q), fun A outer s H args us vs Q E hr he ht hb hv hs => F.run A outer s H args us vs Q E hr he ht hb hv (h _ _ _ _ hs)⟩
theorem xy.make {P : Program} {w : World} {K : PySem.W.Frag} {mg : Str → Option Value} {base : Heap} {A : Around} {outer : List Env} {s : Shared} {H : Hp} (e : xy P w K mg base A outer s H) (C : Addr) (us : List Value) (kw : List (Str × Value)) :
    xy P w K mg base (A.under (.builtin "type.__call__" ⟨.ref C :: us, kw⟩)) outer s H := ⟨by first | exact e.frames | (simpa [Around.under, Code.envs, Code.isFrame, pushEnvs] using e.frames), e.mod, e.bs, e.LM, e.wC, e.Mz, e.hok, e.bare⟩
theorem xy.in1 {P : Program} {w : World} {K : PySem.W.Frag} {mg : Str → Option Value} {base : Heap} {A : Around} {outer : List Env} {s : Shared} {H : Hp} (e : xy P w K mg base A outer s H) :
    xy P w K mg base A.in1 outer s H := ⟨e.frames, e.mod, e.bs, e.LM, e.wC, e.Mz, e.hok, e.bare⟩
section
variable {X : Cx} {pins : List (Addr × Obj)} {σ : St} {H : Hp} {s s' : Shared}
theorem Inv.j7 (I : Inv X pins σ H s) : xy X.prog X.w X.K X.mg X.base X.A X.stack s H :=
  ⟨I.ok.frames, I.ok.mod, I.bs, Nat.le_trans I.ok.LM I.sz, I.stack, I.sY, I.hok, I.bare⟩
theorem Inv.after {Q : VK} {u : Value} (I : Inv X pins σ H s) (h : CE X.stack X.prog X.w H s Q u s') : EP X pins σ Q u s' := by
  obtain ⟨v, H', os, bare, un, hok, r, q⟩ := h
  obtain ⟨hh, g, d, t, os'⟩ := s'
  have ht : 0 < t := os.2
  obtain rfl : os' = s.os := os.1
  exact ⟨v, H', I.call (h' := hh) (g' := g) (d' := d) (t' := t) (ch := []) un hok bare (fun b z => absurd z (by simp)), r, q⟩
end
noncomputable def Binds (K : PySem.W.Frag) (fd : FuncData) (ps : List Str) (ds : List Value) : Prop :=
  ∀ (s : Shared) (us : List Value), K.In s.heap → (us ++ ds).length = ps.length → BindsTo s fd ⟨us, []⟩ (ps.zip (us ++ ds))
theorem Binds.all {K : PySem.W.Frag} {fd : FuncData} {ps : List Str} (h : ∀ us : List Value, us.length = ps.length → bindArgs fd ⟨us, []⟩ = pure (ps.zip us)) : Binds K fd ps [] := fun s us _ hl => by
  rw [List.append_nil] at hl ⊢
  exact .of_eq (h us hl)
section
variable {X : Cx} {CX : yR} {k : Nat} {f C : Addr} {fd : FuncData} {ps : List Str} {sp : Sp} {dvs : List V} {ds : List Value} {E : XK} {x m : Str} {p pos apos : Pos} {e o : Expr} {es : List Expr} {ta : TE} {t : TA}
structure Mk (K : PySem.W.Frag) (C f : Addr) : Prop where
  makes : PySem.W.makesIn K C = true
  init : PySem.W.findIn K (.ref C) "__init__" = some (some (.ref f))
  fn : PySem.W.isFn K (.ref f) = true
  kp : PySem.W.keepIn K (.ref C) = true
end
section
variable {X : Cx} {CX : yR} {k : Nat} {f C : Addr} {fd : FuncData} {ps ks : List Str} {sp : Sp} {E : XK} {x m : Str} {p pos apos kpos : Pos} {e o : Expr} {es : List Expr} {kws : List Keyword} {te ta : TE} {t tk : TA} {nm : Option Str}
structure Tw (K : PySem.W.Frag) (fd : FuncData) (ps ks : List Str) (g : List Value → List Value → List Value) (gV : List V → List V → List V) : Prop where
  to : ∀ (s : Shared) (us ws : List Value), K.In s.heap → (g us ws).length = ps.length → BindsTo s fd ⟨us, ks.zip ws⟩ (ps.zip (g us ws))
  rel : ∀ {vs : List V} {us : List Value} {zs : List V} {ws : List Value}, Vals vs us → Vals zs ws → Vals (gV vs zs) (g us ws)
variable {g : List Value → List Value → List Value} {gV : List V → List V → List V}
end
structure bW (N P : List Str) (sc : Scope) : Prop where
  kind : sc.kind = .function
  co : sc.isCoroutine = false
  gen : sc.isGenerator = false
  nd : N.Nodup
  pre : N.take P.length = P
  par : ∀ x ∈ P, sc.names.lookup x = some .local ∨ sc.names.lookup x = some .cell
  M4 : ∀ y ∈ sc.names, y.2 ≠ .free
theorem zE {kindOf : Str → Option NameKind} {x : Str} : ∀ {binds : List (Str × Value)} {m : Str → Option Value}, (∀ v, (x, v) ∉ binds) → bindL kindOf binds m x = m x
  | [], _, _ => rfl
  | (n, v) :: r, m, h => by
    unfold bindL
    rw [zE fun w hw => h w (List.mem_cons_of_mem _ hw)]
    split
    · have : x ≠ n := by rintro rfl; exact h v List.mem_cons_self
      simp [this]
    · rfl
theorem zF {kindOf : Str → Option NameKind} {x : Str} : ∀ {binds : List (Str × Value)} {m : Str → Option Value}, (∀ v, (x, v) ∉ binds) → bindC kindOf binds m x = m x
  | [], _, _ => rfl
  | (n, v) :: r, m, h => by
    unfold bindC
    rw [zF fun w hw => h w (List.mem_cons_of_mem _ hw)]
    split
    · rfl
    · have : x ≠ n := by rintro rfl; exact h v List.mem_cons_self
      simp [this]
theorem zG {kindOf : Str → Option NameKind} {x : Str} {v : Value} : ∀ {P : List Str} {vs : List Value} {i : Nat} {m : Str → Option Value}, P.Nodup → P[i]? = some x → vs[i]? = some v → kindOf x = some .local →
    bindL kindOf (P.zip vs) m x = some v
  | [], _, _, _, _, h, _, _ => by simp at h
  | _ :: _, [], _, _, _, _, h, _ => by simp at h
  | p :: P, w :: vs, 0, m, nd, h1, h2, hk => by
    simp at h1 h2; subst h1; subst h2
    show bindL kindOf ((p, w) :: P.zip vs) m p = _
    unfold bindL
    rw [zE fun v hv => (List.nodup_cons.mp nd).1 (List.of_mem_zip hv).1, if_pos hk]
    simp
  | p :: P, w :: vs, i + 1, m, nd, h1, h2, hk => by
    show bindL kindOf ((p, w) :: P.zip vs) m x = _
    unfold bindL
    exact zG (i := i) (List.nodup_cons.mp nd).2 (by simpa using h1) (by simpa using h2) hk
theorem zH {kindOf : Str → Option NameKind} {x : Str} {v : Value} : ∀ {P : List Str} {vs : List Value} {i : Nat} {m : Str → Option Value}, P.Nodup → P[i]? = some x → vs[i]? = some v → kindOf x ≠ some .local →
    bindC kindOf (P.zip vs) m x = some v
  | [], _, _, _, _, h, _, _ => by simp at h
  | _ :: _, [], _, _, _, _, h, _ => by simp at h
  | p :: P, w :: vs, 0, m, nd, h1, h2, hk => by
    simp at h1 h2; subst h1; subst h2
    show bindC kindOf ((p, w) :: P.zip vs) m p = _
    unfold bindC
    rw [zF fun v hv => (List.nodup_cons.mp nd).1 (List.of_mem_zip hv).1, if_neg hk]
    simp
  | p :: P, w :: vs, i + 1, m, nd, h1, h2, hk => by
    show bindC kindOf ((p, w) :: P.zip vs) m x = _
    unfold bindC
    exact zH (i := i) (List.nodup_cons.mp nd).2 (by simpa using h1) (by simpa using h2) hk
noncomputable def start (N : List Str) (vs : List V) : St := vs.map some ++ List.replicate (N.length - vs.length) none
noncomputable def gR (CX : yR) (P : Program) (w : World) (K : PySem.W.Frag) (mg : Str → Option Value) (base : Heap) (N : List Str) (qual : Str) (scope : Scope) (f : Addr) (cd : Value) (A : Around) (outer : List Env) (s : Shared) (H : Hp) (E : XK) : Cx where
  prog := P
  w := w
  K := K
  mg := mg
  base := base
  A := A.deeper (envOfC qual scope s.heap.objs.size f cd)
  N := N
  s₀ := s
  H₀ := H
  env := envOfC qual scope s.heap.objs.size f cd
  outer := outer
  stack := envOfC qual scope s.heap.objs.size f cd :: outer
  ex := []
  calm := true
  fn := fun _ => true
  pn := []
  xe := fun e s' => wpAny (model P w) (A.deeper (envOfC qual scope s.heap.objs.size f cd)) (leaving (envOfC qual scope s.heap.objs.size f cd) e) (fun _ s'' => CX outer H s E e s'') (fun e' s'' => CX outer H s E e' s'') s'
theorem BQ {sc : Scope} {n : Nat} {x : Str} (h : sc.names.lookup x = some .cell) : ∃ c, (cellsFrom n sc.names []).lookup x = some c := by
  have q := PySem.W.cellsFrom_some sc.names n [] (.inl h)
  exact Option.isSome_iff_exists.mp q
theorem zI {CX : yR} {P : Program} {w : World} {K : PySem.W.Frag} {mg : Str → Option Value} {base : Heap} {N ps : List Str} {qual : Str} {scope : Scope} {f : Addr} {cd : Value} {A : Around} {outer : List Env} {s s1 : Shared} {H : Hp} {E : XK} {us : List Value} {vs : List V}
    (S : bW N ps scope) (hd : A.handled = none) (e0 : xy P w K mg base A outer s H) (hl : vs.length = ps.length) (r : Vals vs us)
    (x : InCallC s s.heap.objs.size (bindL (envOfC qual scope s.heap.objs.size f cd).kindOf (ps.zip us) fun _ => none) (cellsFrom (s.heap.objs.size + 1) scope.names []) (bindC (envOfC qual scope s.heap.objs.size f cd).kindOf (ps.zip us) fun _ => none) s1) {n : Nat} (ht : 0 < n) :
    Inv (gR CX P w K mg base N qual scope f cd A outer s H E) [] (start N vs) H { s1 with toks := n } := by
  have hpl : ps.length ≤ N.length := by have := congrArg List.length S.pre; rw [List.length_take] at this; omega
  obtain ⟨h1, tk, rfl, hk⟩ := x.done
  have Pq : ∀ b : Addr, b ∉ (gR CX P w K mg base N qual scope f cd A outer s H E).ex := fun b z => absurd (show b ∈ ([] : List Addr) from z) (by simp)
  refine ⟨⟨e0.mod, S.kind, rfl, rfl, Nat.le_refl _, fun y z c h1 h2 => ?_, fun y hy => ?_, fun y c _ h => ?_, fun _ => hd, Around.frames_deeper e0.frames, .inr ⟨rfl, rfl⟩, fun b z => absurd z (Pq b), e0.bs, e0.LM, fun b _ _ => Pq b, fun b z => absurd z (Pq b), e0.wC, e0.Mz⟩,
    ⟨rfl, ht⟩, e0.bare, Un.kept hk, ⟨_, x.toInCall.ns, fun i y v h1 h2 h3 => ?_⟩, fun y c h => ⟨_, x.cell y c h⟩, e0.hok.fresh (Nat.le_refl _), fun y c h => ?_, fun p hp => absurd (show p ∈ ([] : List (Addr × Obj)) from hp) (by simp), e0.hok.kept hk, ?_⟩
  · exact name_of_addr x.apart (PySem.mem_of_lookup h1) (PySem.mem_of_lookup h2)
  · have hy : scope.names.lookup y = some .cell ∨ scope.names.lookup y = some .free := hy
    rcases hy with hy | hy
    · exact BQ hy
    · exact absurd rfl (S.M4 _ (PySem.mem_of_lookup hy))
  · exact Nat.le_of_lt (x.above y c (PySem.mem_of_lookup h))
  · have hi : i < vs.length := by
      unfold start at h2
      by_cases hi : i < vs.length
      · exact hi
      · rw [List.getElem?_append_right (by simpa using hi)] at h2
        rw [List.getElem?_replicate] at h2
        split at h2 <;> cases h2
    have ha : vs[i]? = some v := by
      unfold start at h2
      rw [List.getElem?_append_left (by simpa using hi), List.getElem?_map] at h2
      cases e : vs[i]? with
      | none => rw [e] at h2; cases h2
      | some a => rw [e] at h2; cases h2; rfl
    obtain ⟨u, hu, rv⟩ := r.get ha
    have hp : ps[i]? = some y := by
      rw [← S.pre, List.getElem?_take_of_lt (by omega)]; exact h1
    have V4 : ps.Nodup := by rw [← S.pre]; exact S.nd.sublist (List.take_sublist _ _)
    refine ⟨u, rv, ?_⟩
    rcases S.par y (List.mem_of_getElem? hp) with k | k
    · exact .inl ⟨k, zG V4 hp hu k⟩
    · obtain ⟨c, e⟩ := BQ (n := s.heap.objs.size + 1) k
      refine .inr ⟨.inl k, c, e, ?_⟩
      have q := x.cell y c e
      rw [zH V4 hp hu (by show scope.names.lookup y ≠ _; rw [k]; decide)] at q
      exact q
  · exact e0.hok.fresh (Nat.le_of_lt (x.above y c (PySem.mem_of_lookup h)))
  · unfold start
    show _ = N.length
    rw [List.length_append, List.length_map, List.length_replicate]
    omega
theorem Pr {CX : yR} {P : Program} {w : World} {K : PySem.W.Frag} {mg : Str → Option Value} {base : Heap} {k : Nat} {f : Addr} {name qual : Str} {params : Arguments} {body : List Stmt} {scope : Scope} {dV kV doc pm cdv ct oc : Value} {an od : Option Addr}
    {osl : Array (Option Value)} {N ps : List Str} {sp : Sp} (lk : K.lookup f = some ⟨oc, od, .func (PySem.W.fnOf name qual params body scope dV kV doc pm an cdv ct), osl⟩) (hcd : PySem.W.codeIn K cdv qual = true) (S : bW N ps scope)
    (len : ∀ vs H Q E, sp vs H Q E → vs.length = ps.length)
    (hbody : ∀ (A : Around) (outer : List Env) (s : Shared) (H : Hp) (vs : List V) (Q : VK) (E : XK), iK k (A.deeper (envOfC qual scope s.heap.objs.size f cdv)) → sp vs H Q E →
      ∃ t, Dr (gR CX P w K mg base N qual scope f cdv A outer s H E) body t ∧ t { nx := fun _ H' => Q .kr H', rt := Q } (start N vs) H) :
    aW P w K mg base CX (k + 1) f (PySem.W.fnOf name qual params body scope dV kV doc pm an cdv ct) ps sp := by
  refine ⟨len, fun A outer s H args us vs Q E hr e0 htk hb r FZ => ?_⟩
  have hl := len _ _ _ _ FZ
  have KX : K.In s.heap := e0.mod.Mv.keeps fun b o e => (e0.bs b o e).1
  have lim : s.heap.NoLimit := e0.mod.nolimit.keeps fun b o e => (e0.bs b o e).1
  have hkind : ∀ y ∈ ps.zip us, scope.names.lookup y.1 = some .local ∨ (scope.names.lookup y.1 = some .cell ∧ ((cellsFrom (s.heap.objs.size + 1) scope.names []).lookup y.1).isSome = true) := fun ⟨n, v⟩ hy => by
    rcases S.par n (List.of_mem_zip hy).1 with q | q
    · exact .inl q
    · exact .inr ⟨q, PySem.W.cellsFrom_some _ _ _ (.inl q)⟩
  refine codeAny_call_function hr.depth (KX _ _ lk) rfl S.co S.gen rfl (PySem.W.codeRec_of KX hcd) (hb _ _ _ _ ?_)
  refine oF htk (wpAny_newFunctionEnv_cells S.kind hkind fun env he s1 x => fun Tz => ?_)
  subst he
  refine ⟨lim.keeps x.toInCall.keep, codeAny_func ?_⟩
  obtain ⟨t, ht, hq⟩ := hbody A outer s H vs Q E (hr.deeper _) FZ
  have I : Inv (gR CX P w K mg base N qual scope f cdv A outer s H E) [] (start N vs) H s1 := zI S hr.hd e0 hl r x (n := s1.toks) Tz
  refine wpAny_mono (ht [] s1 (start N vs) H _ I hq) (fun fl s' hs => ?_) fun e s' hs => hs
  have fin : ∀ {σ' : St} {H' : Hp} {v : V} {u : Value}, Inv (gR CX P w K mg base N qual scope f cdv A outer s H E) [] σ' H' s' → RelV v u → Q v H' → CE outer P w H s Q u s' :=
    fun {σ' H' v u} J rv q => ⟨v, H', J.os, J.bare, J.base, J.hok, rv, q⟩
  cases fl with
  | ret u =>
    obtain ⟨v, σ', H', J, rv, q⟩ := hs
    exact fin J rv q
  | next =>
    obtain ⟨σ', H', J, q⟩ := hs
    exact fin (v := V.kr) (u := Value.none) J rfl q
  | brk =>
    obtain ⟨_, _, _, q⟩ := hs
    exact False.elim q
  | cont =>
    obtain ⟨_, _, _, q⟩ := hs
    exact False.elim q
noncomputable def Pu (X : Cx) (body : List Stmt) (t : TS) : Prop := ∀ (s : Shared) (σ : St) (H : Hp) (D : Ends), Inv X [] σ H { s with toks := s.toks + 1 } → t D σ H → wpAny (model X.prog X.w) X.A (execs body X.env) (SP X [] D) X.xe s
theorem M5 {CX : yR} {P : Program} {w : World} {K : PySem.W.Frag} {mg : Str → Option Value} {base : Heap} {k : Nat} {f : Addr} {name qual : Str} {params : Arguments} {body : List Stmt} {scope : Scope} {dV kV doc pm cdv ct oc : Value} {an od : Option Addr}
    {osl : Array (Option Value)} {N ps : List Str} {sp : Sp} (lk : K.lookup f = some ⟨oc, od, .func (PySem.W.fnOf name qual params body scope dV kV doc pm an cdv ct), osl⟩) (hcd : PySem.W.codeIn K cdv qual = true) (S : bW N ps scope)
    (len : ∀ vs H Q E, sp vs H Q E → vs.length = ps.length)
    (hbody : ∀ (A : Around) (outer : List Env) (s : Shared) (H : Hp) (vs : List V) (Q : VK) (E : XK), iK k (A.deeper (envOfC qual scope s.heap.objs.size f cdv)) → sp vs H Q E →
      ∃ t, Pu (gR CX P w K mg base N qual scope f cdv A outer s H E) body t ∧ t { nx := fun _ H' => Q .kr H', rt := Q } (start N vs) H) :
    rm P w K mg base CX (k + 1) f (PySem.W.fnOf name qual params body scope dV kV doc pm an cdv ct) ps sp := by
  refine ⟨len, fun A outer s H args us vs Q E hr e0 hb r FZ => ?_⟩
  have hl := len _ _ _ _ FZ
  have KX : K.In s.heap := e0.mod.Mv.keeps fun b o e => (e0.bs b o e).1
  have lim : s.heap.NoLimit := e0.mod.nolimit.keeps fun b o e => (e0.bs b o e).1
  have hkind : ∀ y ∈ ps.zip us, scope.names.lookup y.1 = some .local ∨ (scope.names.lookup y.1 = some .cell ∧ ((cellsFrom (s.heap.objs.size + 1) scope.names []).lookup y.1).isSome = true) := fun ⟨n, v⟩ hy => by
    rcases S.par n (List.of_mem_zip hy).1 with q | q
    · exact .inl q
    · exact .inr ⟨q, PySem.W.cellsFrom_some _ _ _ (.inl q)⟩
  refine codeAny_call_function hr.depth (KX _ _ lk) rfl S.co S.gen rfl (PySem.W.codeRec_of KX hcd) (hb _ _ _ _ ?_)
  refine wpAny_newFunctionEnv_cells S.kind hkind fun env he s1 x => ?_
  subst he
  refine ⟨lim.keeps x.toInCall.keep, codeAny_func ?_⟩
  obtain ⟨t, ht, hq⟩ := hbody A outer s H vs Q E (hr.deeper _) FZ
  have I : Inv (gR CX P w K mg base N qual scope f cdv A outer s H E) [] (start N vs) H { s1 with toks := s1.toks + 1 } := zI S hr.hd e0 hl r x (Nat.succ_pos _)
  refine wpAny_mono (ht s1 (start N vs) H _ I hq) (fun fl s' hs => ?_) fun e s' hs => hs
  have fin : ∀ {σ' : St} {H' : Hp} {v : V} {u : Value}, Inv (gR CX P w K mg base N qual scope f cdv A outer s H E) [] σ' H' s' → RelV v u → Q v H' → CE outer P w H s Q u s' :=
    fun {σ' H' v u} J rv q => ⟨v, H', J.os, J.bare, J.base, J.hok, rv, q⟩
  cases fl with
  | ret u =>
    obtain ⟨v, σ', H', J, rv, q⟩ := hs
    exact fin J rv q
  | next =>
    obtain ⟨σ', H', J, q⟩ := hs
    exact fin (v := V.kr) (u := Value.none) J rfl q
  | brk =>
    obtain ⟨_, _, _, q⟩ := hs
    exact False.elim q
  | cont =>
    obtain ⟨_, _, _, q⟩ := hs
    exact False.elim q
end L2
namespace L2
open PySem PySem.Spec PyProof.Rows
section
variable {X : Cx} {x : Str} {p pos : Pos} {e : Expr} {es : List Expr} {t : TA} {id T : String} {r : List V → Hp → VK → Prop}
noncomputable def V5 (r : List V → Hp → VK → Prop) (t : TA) : TE := fun σ H Q => t σ H fun vs H1 => r vs H1 Q
theorem HF (hc : iB X (.builtin id) r) (hg : Gl X x) (hm : X.mg x = none) (hv : bootBuiltins x = some (.builtin id)) (ha : PA X (e :: es) t) (hn : x ≠ "__name__" := by decide) (hdb : (x == ("__debug__" : Str)) = false := by decide)
    (he : starEach (e :: es) X.env = (false, eval e X.env) :: starEach es X.env := by rfl) (hpl : (backTo pos (starEach es X.env)).any (·.1) = false := by rfl) : PE X (.Call (.Name x p) (e :: es) [] pos) (V5 r t) := by
  intro pins s σ H Q I h
  refine wpAny_Call_Name_kw (nv I hg hm hv ?_ hn hdb)
  exact PyProof.Rows.callWith_builtin1 (ja (ha pos pins s σ H _ I h) fun us s1 ⟨vs, H1, I1, r1, q1⟩ => hc pins s1 σ H1 vs us Q I1 r1 q1) he hpl
theorem Ga (hc : iB X (.type T) r) (hg : Gl X x) (hm : X.mg x = none) (hv : bootBuiltins x = some (.type T)) (ha : PA X (e :: es) t) (hn : x ≠ "__name__" := by decide) (hdb : (x == ("__debug__" : Str)) = false := by decide)
    (he : starEach (e :: es) X.env = (false, eval e X.env) :: starEach es X.env := by rfl) (hpl : (backTo pos (starEach es X.env)).any (·.1) = false := by rfl) : PE X (.Call (.Name x p) (e :: es) [] pos) (V5 r t) := by
  intro pins s σ H Q I h
  refine wpAny_Call_Name_kw (nv I hg hm hv ?_ hn hdb)
  exact PyProof.Rows.callWith_type1 (ja (ha pos pins s σ H _ I h) fun us s1 ⟨vs, H1, I1, r1, q1⟩ => hc pins s1 σ H1 vs us Q I1 r1 q1) he hpl
end
end L2
namespace HT
open PySem PyProof.Rows
section
open PySem.SeqAt
open PySem.AutoSeq1 (wpAny_loadPart')
open PySem.MeetsSeq PySem.MeetsSeq2 PySem.MeetsSeq3
end
section
variable {prog : Program} {w : World} {A : Around} {E : Value → Shared → Prop} {s : Shared}
theorem Kg {t b : Addr} {vs ws : List Value} {Q : Value → Shared → Prop} (ht : IsTup s.heap t vs.toArray) (hb : IsTup s.heap b ws.toArray) (hv : vs ≠ [])
    (h1 : ws = [] → Q (.ref t) s) (h2 : ws ≠ [] → Q (.ref s.heap.objs.size) { s with heap := s.heap.push { cls := .type "tuple", data := .seq (vs ++ ws).toArray } })
    (hsz : vs.length + ws.length ≤ sizeLine) : wpAny (model prog w) A (binaryOp .Add (.ref t) (.ref b)) Q E s := by
  obtain ⟨⟨cls, dd, data, sl⟩, ho, hc, n, hd⟩ := id ht
  obtain ⟨⟨M6, dd2, data2, sl2⟩, ho2, hc2, n2, hd2⟩ := id hb
  simp only at hc hd hc2 hd2
  subst hc hd hc2 hd2
  have e : vs.toArray ++ ws.toArray = (vs ++ ws).toArray := by simp
  by_cases hw : ws = []
  · exact concat_meets ⟨_, ho, rfl⟩ ⟨_, ho2, rfl⟩ noFill_tuple_add seq_tuple_add PySem.F.slot_tuple_add PySem.F.entry_tuple_add (PySem.F.args_tuple_add_2 _ _)
      (tuple_addW1 t b vs.toArray ws.toArray n n2 dd dd2 sl sl2 (by simpa using hv) (by simp [hw])) ⟨ho, ho2, h1 hw⟩
  · refine concat_meets ⟨_, ho, rfl⟩ ⟨_, ho2, rfl⟩ noFill_tuple_add seq_tuple_add PySem.F.slot_tuple_add PySem.F.entry_tuple_add (PySem.F.args_tuple_add_2 _ _)
      (tuple_addW2 t b vs.toArray ws.toArray n n2 dd dd2 sl sl2 (by simpa using hv) (by simpa using hw) (by rw [List.size_toArray, List.size_toArray]; exact hsz)) ⟨ho, ho2, ?_⟩
    rw [e]
    exact h2 hw
noncomputable def iI (n d : Nat) : Option Int → Nat
  | none => d
  | some v => if v < 0 then (v + (n : Int)).toNat else min v.toNat n
theorem xA (n d : Nat) : iI n d none = d := rfl
theorem wU (n d k : Nat) : iI n d (some (k : Int)) = min k n := by
  show (if (k : Int) < 0 then ((k : Int) + (n : Int)).toNat else min (k : Int).toNat n) = min k n
  rw [if_neg (by omega), Int.toNat_natCast]
theorem M7 (n d : Nat) (hd : d ≤ n) (o : Option Int) : iI n d o ≤ n := by
  cases o with
  | none => exact hd
  | some v =>
    show (if v < 0 then (v + (n : Int)).toNat else min v.toNat n) ≤ n
    by_cases hv : v < 0
    · rw [if_pos hv]; omega
    · rw [if_neg hv]; exact Nat.min_le_right _ _
theorem EN (v : Int) (n d : Nat) : (if v < 0 then max (v + (n : Int)) 0 else min v (n : Int)) = ((iI n d (some v) : Nat) : Int) := by
  show (if v < 0 then max (v + (n : Int)) 0 else min v (n : Int)) = (((if v < 0 then (v + (n : Int)).toNat else min v.toNat n) : Nat) : Int)
  by_cases hv : v < 0
  · simp only [if_pos hv]; omega
  · simp only [if_neg hv]; omega
theorem DB (lo hi : Option Int) (n : Nat) : Builtin.Slice.sliceAdjust lo hi 1 (n : Int) = (((iI n 0 lo : Nat) : Int), ((iI n n hi : Nat) : Int)) := by
  have h1 : ¬ ((1 : Int) < 0) := by omega
  unfold Builtin.Slice.sliceAdjust
  simp only [h1, if_false]
  refine Prod.ext ?_ ?_
  · cases lo with
    | none => rfl
    | some v => exact EN v n 0
  · cases hi with
    | none => rfl
    | some v => exact EN v n n
theorem DC (i j : Nat) : Builtin.Slice.slicePlaces (i : Int) (j : Int) 1 = j - i := by
  unfold Builtin.Slice.slicePlaces
  have h1 : (1 : Int) > 0 := by omega
  simp only [h1, if_true, Int.ediv_one]
  split <;> omega
theorem xB {v : Value} {o : Option Int} {Q : Option Int → Shared → Prop} (p : IsPart v o) (h : Q o s) : wpAny (model prog w) A (Builtin.Slice.slicePartIndex v) Q E s := by
  cases p with
  | none => exact slicePart_none h
  | int i t => exact slicePart_int h
theorem uO {sl : Addr} {vl vu : Value} {lo hi : Option Int} {n : Nat} {Q : Int × Int × Nat → Shared → Prop} (hs : s.heap.IsSliceOf sl vl vu .none) (pl : IsPart vl lo) (pu : IsPart vu hi)
    (h : Q (((iI n 0 lo : Nat) : Int), 1, iI n n hi - iI n 0 lo) s) : wpAny (model prog w) A (Builtin.Slice.sliceApplied (.ref sl) (pure (n : Int))) Q E s := by
  obtain ⟨os, hos, hcs, hds⟩ := id hs
  unfold Builtin.Slice.sliceApplied Builtin.Slice.sliceFields
  refine wpAny_bind (wpAny_bind (wpAny_field hos hds (x := vl) rfl (wpAny_bind (wpAny_field hos hds (x := vu) rfl (wpAny_bind (wpAny_field hos hds (x := .none) rfl (wpAny_pure ?_)))))))
  refine wpAny_bind (slicePart_none ?_)
  show wpAny _ _ (if ((1 : Int) == 0) = true then _ else _) _ _ s
  rw [if_neg (by decide)]
  refine wpAny_bind (xB pl (wpAny_bind (xB pu (wpAny_bind (wpAny_pure ?_)))))
  show wpAny _ _ (match Builtin.Slice.sliceAdjust lo hi 1 (n : Int) with | (lo, hi) => pure (lo, (1 : Int), Builtin.Slice.slicePlaces lo hi 1)) _ _ s
  rw [DB lo hi n]
  show wpAny _ _ (pure (((iI n 0 lo : Nat) : Int), (1 : Int), Builtin.Slice.slicePlaces ((iI n 0 lo : Nat) : Int) ((iI n n hi : Nat) : Int) 1)) _ _ s
  rw [DC]
  exact wpAny_pure h
theorem HG (xs : Array Value) (i k : Nat) : ((List.range k).filterMap fun (m : Nat) => xs[((i : Int) + (m : Int) * 1).toNat]?).toArray = ((xs.toList.drop i).take k).toArray := by
  have e : (fun (m : Nat) => xs[((i : Int) + (m : Int) * 1).toNat]?) = fun m => xs[i + m]? := by
    funext m
    have : ((i : Int) + (m : Int) * 1).toNat = i + m := by omega
    rw [this]
  rw [e]
  have := pick_run xs i k
  rw [List.filterMap_map] at this
  have e2 : ((fun x => xs[x]?) ∘ fun x => i + x) = fun m => xs[i + m]? := rfl
  rw [e2] at this
  rw [this]
theorem tu {t sl : Addr} {items : Array Value} {vl vu : Value} {lo hi : Option Int} {Q : Value → Shared → Prop} (ht : IsTup s.heap t items) (hs : s.heap.IsSliceOf sl vl vu .none) (pl : IsPart vl lo) (pu : IsPart vu hi)
    (hw : ¬ (iI items.size 0 lo = 0 ∧ iI items.size items.size hi = items.size))
    (h : Q (.ref s.heap.objs.size) { s with heap := s.heap.push { cls := .type "tuple", data := .seq ((items.toList.drop (iI items.size 0 lo)).take (iI items.size items.size hi - iI items.size 0 lo)).toArray } })
    (hsz : items.size ≤ sizeLine) : wpAny (model prog w) A (getItem (.ref t) (.ref sl)) Q E s := by
  have EO : sizeOk (.seq ((items.toList.drop (iI items.size 0 lo)).take (iI items.size items.size hi - iI items.size 0 lo)).toArray) := by
    show ((items.toList.drop (iI items.size 0 lo)).take (iI items.size items.size hi - iI items.size 0 lo)).toArray.size ≤ sizeLine
    rw [List.size_toArray, List.length_take, List.length_drop, Array.length_toList]
    omega
  have hj : iI items.size items.size hi ≤ items.size := M7 _ _ (Nat.le_refl _) hi
  obtain ⟨os, hos, hcs, hds⟩ := id hs
  have XR : s.TypeIs (.ref sl) "slice" := ⟨os, hos, hcs⟩
  unfold getItem
  try with_reducible refine wpAny_holding ?_
  first | refine wpAny_bind (wpAny_pure ?_) | skip
  refine wpAny_bind (wpAny_sequenceKey ht.typeIs (by decide) ?_)
  refine wpAny_bind (wpAny_callSpecial?_slot (name := Str.ofString "__getitem__") ht.typeIs PyProof.Rows.slot_tuple_getitem
    (wpAny_call_entry PyProof.Rows.slot_tuple_getitem ht.typeIs entry_tuple_getitem ?_ (args_tuple_getitem _ _)))
  show wpAny _ _ (Builtin.Tuple.tupleItemsOf (.ref t) >>= _) _ _ s
  refine wpAny_bind (tupleItemsOf_ ht ?_)
  refine wpAny_bind (wpAny_typeOf XR ?_)
  rw [if_pos (by decide)]
  refine wpAny_bind (uO hs pl pu ?_)
  have hno : ¬ ((((iI items.size 0 lo : Nat) : Int) == 0 && (1 : Int) == 1 && (iI items.size items.size hi - iI items.size 0 lo) == items.size) = true) := by
    intro q
    rw [Bool.and_eq_true, Bool.and_eq_true] at q
    have q1 : ((iI items.size 0 lo : Nat) : Int) = 0 := eq_of_beq q.1.1
    have q2 : iI items.size items.size hi - iI items.size 0 lo = items.size := eq_of_beq q.2
    exact hw ⟨by omega, by omega⟩
  show wpAny _ _ (if (((iI items.size 0 lo : Nat) : Int) == 0 && (1 : Int) == 1 && (iI items.size items.size hi - iI items.size 0 lo) == items.size) = true then _ else _) _ _ s
  rw [if_neg hno, HG]
  first
    | exact wpAny_bind (m := Builtin.Tuple.tupleExact _) (wpAny_newObj_type (wpAny_pure ⟨_, rfl, wpAny_pure h⟩) EO)
    | exact wpAny_bind (m := Builtin.Tuple.tupleExact _) (wpAny_newObj_type (wpAny_bind (wpAny_pure (wpAny_pure ⟨_, rfl, wpAny_pure h⟩))) EO)
    | exact wpAny_bind (wpAny_bind (m := Builtin.Tuple.tupleExact _) (wpAny_newObj_type (wpAny_pure (wpAny_pure ⟨_, rfl, wpAny_pure h⟩)) EO))
    | exact wpAny_bind (wpAny_bind (m := Builtin.Tuple.tupleExact _) (wpAny_newObj_type (wpAny_pure ⟨_, rfl, wpAny_pure h⟩) EO))
end
end HT
namespace L2
open PySem PySem.Spec PyProof.Rows
noncomputable abbrev TO := St → Hp → (Option Int → Hp → Prop) → Prop
noncomputable def PO (X : Cx) (e : Option Expr) (t : TO) : Prop :=
  ∀ (pins : List (Addr × Obj)) (s : Shared) (σ : St) (H : Hp) (Q : Option Int → Hp → Prop), Inv X pins σ H s → t σ H Q →
    wpAny (model X.prog X.w) X.A (evalPart e X.env) (fun u s' => ∃ o H', Inv X pins σ H' s' ∧ IsPart u o ∧ Q o H') X.xe s
noncomputable def Kh : TO := fun _ H Q => Q none H
noncomputable def Pw (t : TE) : TO := fun σ H Q => t σ H fun x H1 => ∃ i, x = .int i ∧ Q (some i) H1
section
variable {X : Cx} {e : Expr} {te : TE} {lo hi : Option Expr} {tl th : TO} {pos p2 : Pos}
theorem Kl : PO X none Kh := by
  intro pins s σ H Q I h
  rw [evalPart_none]
  exact wpAny_pure ⟨none, H, I, .none, h⟩
theorem Km (h : PE X e te) : PO X (some e) (Pw te) := by
  intro pins s σ H Q I hw
  rw [evalPart_some]
  refine ja (h pins s σ H _ I hw) fun u s1 ⟨x, H1, I1, r1, q1⟩ => ?_
  obtain ⟨i, rfl, q⟩ := q1
  obtain ⟨t, rfl⟩ := r1
  exact ⟨some i, H1, I1, .int i t, q⟩
noncomputable def LQ (X : Cx) (r : V → Option Int → Option Int → Hp → VK → Prop) : Prop :=
  ∀ (pins : List (Addr × Obj)) (s : Shared) (σ : St) (H : Hp) (x : V) (v vl vu : Value) (lo hi : Option Int) (sl : Addr) (Q : VK), Inv X pins σ H s → RelV x v → s.heap.IsSliceOf sl vl vu .none → IsPart vl lo → IsPart vu hi → r x lo hi H Q →
    ∃ T id, typeLookup (.type T) "__getitem__" = pure (some (.builtin id)) ∧ s.TypeIs v T ∧ wpAny (model X.prog X.w) X.A (getItem v (.ref sl)) (EP X pins σ Q) X.xe s
theorem LQ.or {r r' : V → Option Int → Option Int → Hp → VK → Prop} (h : LQ X r) (h' : LQ X r') : LQ X (fun x lo hi H Q => r x lo hi H Q ∨ r' x lo hi H Q) := by
  intro pins s σ H x v vl vu lo hi sl Q I rx hs pl pu q
  rcases q with q | q
  · exact h pins s σ H x v vl vu lo hi sl Q I rx hs pl pu q
  · exact h' pins s σ H x v vl vu lo hi sl Q I rx hs pl pu q
noncomputable def XS (r : V → Option Int → Option Int → Hp → VK → Prop) (te : TE) (tl th : TO) : TE := fun σ H Q => te σ H fun x H1 => tl σ H1 fun l H2 => th σ H2 fun u H3 => r x l u H3 Q
theorem HH {r : V → Option Int → Option Int → Hp → VK → Prop} (hr : LQ X r) (he : PE X e te) (hl : PO X lo tl) (hu : PO X hi th) : PE X (.Subscript e (.Slice lo hi none p2) pos) (XS r te tl th) := by
  intro pins s σ H Q I h
  refine Subscript_ (ja (he pins s σ H _ I h) fun v s1 ⟨x, H1, I1, r1, q1⟩ => ?_)
  refine wpAny_Slice (ja (hl pins s1 σ H1 _ I1 q1) fun vl s2 ⟨l, H2, I2, pl, q2⟩ => ja (hu pins s2 σ H2 _ I2 q2) fun vu s3 ⟨u, H3, I3, pu, q3⟩ => ?_)
  rw [evalPart_none]
  refine wpAny_pure ?_
  have I4 : Inv X pins σ H3 { s3 with heap := s3.heap.push { cls := .type "slice", data := .fields #[vl, vu, .none] } } := I3.kept (t' := s3.toks) fun b ob q => Heap.get?_push_of_some _ q
  obtain ⟨T, id, hT, ht, hg⟩ := hr pins { s3 with heap := s3.heap.push { cls := .type "slice", data := .fields #[vl, vu, .none] } } σ H3 x v vl vu l u s3.heap.objs.size Q I4 r1 (Heap.IsSliceOf.new ..) pl pu q3
  show wpAny (model X.prog X.w) X.A (subscriptTail e (.Slice lo hi none p2) v (.ref s3.heap.objs.size)) (EP X pins σ Q) X.xe { s3 with heap := s3.heap.push { cls := .type "slice", data := .fields #[vl, vu, .none] } }
  exact tail_any (ops := [.ref s3.heap.objs.size, v]) ht hT hg (by with_unfolding_all rfl)
noncomputable def BR (xs : List V) (lo hi : Option Int) : List V := (xs.drop (HT.iI xs.length 0 lo)).take (HT.iI xs.length xs.length hi - HT.iI xs.length 0 lo)
theorem vF (xs : List V) (lo hi : Option Int) : (BR xs lo hi).length ≤ xs.length := by
  unfold BR
  rw [List.length_take, List.length_drop]
  omega
noncomputable def TF (K : PySem.W.Frag) : V → Option Int → Option Int → Hp → VK → Prop := fun x lo hi H Q => ∃ a xs, x = .ref a ∧ qS K H a xs ∧
  ¬ (HT.iI xs.length 0 lo = 0 ∧ HT.iI xs.length xs.length hi = xs.length) ∧ ∀ p, H p = none → Q (.ref p) (upd H p (.tup (BR xs lo hi)))
theorem M8 : LQ X (TF X.K) := by
  intro pins s σ H x v vl vu lo hi sl Q I rx hs pl pu h
  obtain ⟨a, xs, rfl, hx, hw, q⟩ := h
  cases rx
  obtain ⟨its, r, ht, hz⟩ := I.tuple hx
  have hlen : its.toArray.size = xs.length := by rw [List.size_toArray]; exact r.length.symm
  refine ⟨"tuple", _, PyProof.Rows.slot_tuple_getitem.lookup, ht.typeIs, ?_⟩
  refine HT.tu ht hs pl pu (by rw [hlen]; exact hw) ?_ (by rw [hlen]; exact hz)
  rw [hlen]
  refine ⟨.ref s.heap.objs.size, _, I.laid (t' := s.toks) (o := .tup (BR xs lo hi)) (fun b ob q => Heap.get?_push_of_some _ q) (Nat.le_refl _) ?_, rfl, q _ (I.hok.fresh (Nat.le_refl _))⟩
  exact ⟨Nat.le_trans (vF xs lo hi) hz, _, (r.drop (HT.iI xs.length 0 lo)).take (HT.iI xs.length xs.length hi - HT.iI xs.length 0 lo), IsTup.new _ _⟩
noncomputable def Px (K : PySem.W.Frag) : R2 := fun x y H Q => ∃ a b xs ys, x = .ref a ∧ y = .ref b ∧ qS K H a xs ∧ qS K H b ys ∧ xs ≠ [] ∧ xs.length + ys.length ≤ sizeLine ∧
  (ys = [] → Q (.ref a) H) ∧ (ys ≠ [] → ∀ p, H p = none → Q (.ref p) (upd H p (.tup (xs ++ ys))))
theorem Vals.AD {xs : List V} {us : List Value} (r : Vals xs us) : us = [] ↔ xs = [] := by
  cases r with
  | nil => simp
  | cons _ _ => simp
theorem Kn : pF X (binaryOp .Add) (Px X.K) := by
  intro pins s σ H x y v u Q I rx ry h
  obtain ⟨a, b, xs, ys, rfl, rfl, ha, hb, hx, hz, q1, q2⟩ := h
  cases rx
  cases ry
  obtain ⟨its, r1, p1, _⟩ := I.tuple ha
  obtain ⟨its2, r2, p2, _⟩ := I.tuple hb
  refine HT.Kg p1 p2 (fun z => hx (r1.AD.mp z)) (fun z => ⟨.ref a, H, I, rfl, q1 (r2.AD.mp z)⟩) (fun z => ?_) (by rw [← r1.length, ← r2.length]; exact hz)
  refine ⟨.ref s.heap.objs.size, _, I.laid (t' := s.toks) (o := .tup (xs ++ ys)) (fun b ob q => Heap.get?_push_of_some _ q) (Nat.le_refl _) ?_, rfl, q2 (fun w => z (r2.AD.mpr w)) _ (I.hok.fresh (Nat.le_refl _))⟩
  exact ⟨by rw [List.length_append]; exact hz, _, r1.append r2, IsTup.new _ _⟩
end
end L2
namespace L2
open PySem PySem.Spec PyProof.Rows
noncomputable def LR (n : Nat) (i : Int) : Option Nat := if 0 ≤ i then (if i < n then some i.toNat else none) else if -(n : Int) ≤ i then some (i + n).toNat else none
noncomputable def j8 {α : Type} (xs : List α) (i : Int) : Option α := (LR xs.length i).bind fun j => xs[j]?
theorem Ko {n : Nat} {i : Int} {j : Nat} (h : LR n i = some j) : seqIndex? i n = some j ∧ j < n ∧ -(n : Int) ≤ i ∧ i < n := by
  unfold LR at h
  by_cases h0 : 0 ≤ i
  · rw [if_pos h0] at h
    by_cases h1 : i < n
    · rw [if_pos h1] at h
      have e : i.toNat = j := Option.some.inj h
      exact ⟨by rw [seqIndex_of h0 h1, e], by omega, by omega, h1⟩
    · rw [if_neg h1] at h; cases h
  · rw [if_neg h0] at h
    by_cases h1 : -(n : Int) ≤ i
    · rw [if_pos h1] at h
      have e : (i + n).toNat = j := Option.some.inj h
      exact ⟨by rw [seqIndex_neg (by omega) h1, e], by omega, h1, by omega⟩
    · rw [if_neg h1] at h; cases h
theorem AE {α : Type} {xs : List α} {i : Int} {v : α} (h : j8 xs i = some v) : ∃ j, seqIndex? i xs.length = some j ∧ xs[j]? = some v ∧ j < xs.length ∧ -(xs.length : Int) ≤ i ∧ i < xs.length := by
  unfold j8 at h
  cases e : LR xs.length i with
  | none => rw [e] at h; cases h
  | some j =>
    rw [e] at h
    obtain ⟨h1, h2, h3, h4⟩ := Ko e
    exact ⟨j, h1, h, h2, h3, h4⟩
theorem tw {α : Type} {xs : List α} {j : Nat} {v : α} (h : xs[j]? = some v) : j8 xs (j : Int) = some v := by
  have hj : j < xs.length := (List.getElem?_eq_some_iff.mp h).1
  have e : LR xs.length (j : Int) = some j := by
    unfold LR
    rw [if_pos (by omega), if_pos (by omega)]; simp
  unfold j8; rw [e]; exact h
noncomputable def wV (b : Expr) : Prop := ∀ o i, subscripted b false o i = operate [o, i] (getItem o i)
noncomputable def JX (X : Cx) (r : R2) : Prop :=
  ∀ (value slice : Expr) (pins : List (Addr × Obj)) (s : Shared) (σ : St) (H : Hp) (x y : V) (v u : Value) (Q : VK), Inv X pins σ H s → RelV x v → RelV y u → r x y H Q →
    subscripted slice false v u = operate [v, u] (getItem v u) → wpAny (model X.prog X.w) X.A (subscriptTail value slice v u) (EP X pins σ Q) X.xe s
noncomputable def DE (X : Cx) (id : String) (r : V → List V → Hp → VK → Prop) : Prop :=
  ∀ (pins : List (Addr × Obj)) (s : Shared) (σ : St) (H : Hp) (x : V) (xs : List V) (v : Value) (us : List Value) (Q : VK), Inv X pins σ H s → RelV x v → Vals xs us → r x xs H Q →
    wpAny (model X.prog X.w) X.A (call (.builtin id) (v :: us)) (EP X pins σ Q) X.xe s
section
variable {X : Cx} {a b : Expr} {ta tb : TE} {pos : Pos}
theorem JX.or {r r' : R2} (h : JX X r) (h' : JX X r') : JX X (fun x y H Q => r x y H Q ∨ r' x y H Q) := by
  intro value slice pins s σ H x y v u Q I rx ry q hs
  rcases q with q | q
  · exact h value slice pins s σ H x y v u Q I rx ry q hs
  · exact h' value slice pins s σ H x y v u Q I rx ry q hs
theorem DE.or {id : String} {r r' : V → List V → Hp → VK → Prop} (h : DE X id r) (h' : DE X id r') : DE X id (fun x xs H Q => r x xs H Q ∨ r' x xs H Q) := by
  intro pins s σ H x xs v us Q I rx rs q
  rcases q with q | q
  · exact h pins s σ H x xs v us Q I rx rs q
  · exact h' pins s σ H x xs v us Q I rx rs q
theorem Py {r : R2} (hr : JX X r) (ha : PE X a ta) (hb : PE X b tb) (hs : wV b) : PE X (.Subscript a b pos) (Pd r ta tb) := by
  intro pins s σ H Q I h
  exact Subscript_ (MO ha hb I h fun v u s2 x y H2 I2 rx ry q => hr a b pins s2 σ H2 x y v u Q I2 rx ry q (hs _ _))
noncomputable def TH (K : PySem.W.Frag) : R2 := fun x y H Q => ∃ p xs i v, x = .ref p ∧ y = .int i ∧ pD K H p xs ∧ j8 xs i = some v ∧ Q v H
noncomputable def TJ (K : PySem.W.Frag) : R2 := fun x y H Q => ∃ p xs i v, x = .ref p ∧ y = .int i ∧ qS K H p xs ∧ j8 xs i = some v ∧ Q v H
noncomputable def TM : R2 := fun x y H Q => ∃ z i c, x = .str z ∧ y = .int i ∧ z.length ≤ sizeLine ∧ j8 z.cps.toList i = some c ∧ Q (.str ⟨#[c]⟩) H
theorem Kp : JX X (TH X.K) := by
  intro value slice pins s σ H x y v u Q I rx ry h hs
  obtain ⟨p, xs, i, z, rfl, rfl, hq, he, q⟩ := h
  cases rx
  obtain ⟨t, rfl⟩ := ry
  obtain ⟨its, r, pl, hz⟩ := I.list hq
  obtain ⟨j, h1, h2, h3, h4, h5⟩ := AE he
  obtain ⟨w, ew, rw'⟩ := r.get h2
  have hl := r.length
  have hn := uN
  have fin : EP X pins σ Q w s := ⟨z, H, I, rw', q⟩
  by_cases h0 : 0 ≤ i
  · have hj : i.toNat = j := by
      rw [seqIndex_of h0 h5] at h1
      exact Option.some.inj h1
    exact item_listR pl.isList h0 (by omega) (by rw [hj]; simpa using ew) fin hs
  · have hj : (i + (its.toArray.size : Int)).toNat = j := by
      rw [seqIndex_neg (by omega) h4] at h1
      rw [List.size_toArray, ← hl]
      exact Option.some.inj h1
    exact subscriptTail_builtinR (x := w) pl.isList.typeIs slot_list_getitem.lookup
      (wpAny_getItem_list_neg (Q := fun r s' => r = w ∧ EP X pins σ Q r s') pl.isList (by omega) (by rw [List.size_toArray] <;> omega) (by omega) (by rw [hj]; simpa using ew) ⟨rfl, fin⟩) hs
theorem M9 : JX X (TJ X.K) := by
  intro value slice pins s σ H x y v u Q I rx ry h hs
  obtain ⟨p, xs, i, z, rfl, rfl, hq, he, q⟩ := h
  cases rx
  obtain ⟨t, rfl⟩ := ry
  obtain ⟨its, r, pl, hz⟩ := I.tuple hq
  obtain ⟨j, h1, h2, h3, h4, h5⟩ := AE he
  obtain ⟨w, ew, rw'⟩ := r.get h2
  have hl := r.length
  have hn := uN
  have fin : EP X pins σ Q w s := ⟨z, H, I, rw', q⟩
  exact subscriptTail_builtinR (x := w) pl.typeIs slot_tuple_getitem.lookup
    (getItem_tuple (j := j) (Q := fun r s' => r = w ∧ EP X pins σ Q r s') pl (by omega) (by omega) (by rw [List.size_toArray, ← hl]; exact h1) (by simpa using ew) ⟨rfl, fin⟩) hs
theorem Na : JX X TM := by
  intro value slice pins s σ H x y v u Q I rx ry h hs
  obtain ⟨z, i, c, rfl, rfl, hz, he, q⟩ := h
  obtain ⟨t, rfl⟩ := rx
  obtain ⟨t', rfl⟩ := ry
  obtain ⟨j, h1, h2, h3, h4, h5⟩ := AE he
  have hl : z.cps.toList.length = z.length := by simp [Str.length]
  rw [hl] at h1 h4 h5
  have hn := uN
  exact tail_any (typeIs_str s z t) slot_str_getitem.lookup (getItem_str (c := c) (by
    have e1 : decide (i < -(2 ^ 63 : Int)) = false := decide_eq_false (by omega)
    have e2 : decide (i ≥ 2 ^ 63) = false := decide_eq_false (by omega)
    rw [e1, e2, Bool.or_false]) (by rw [h1]; simpa using h2) ⟨.str ⟨#[c]⟩, H, I.tok _, ⟨_, rfl⟩, q⟩) hs
theorem AF (lo hi : Option Int) (n : Nat) : (sliceBounds lo hi none n).1 = ((HT.iI n 0 lo : Nat) : Int) ∧ (sliceBounds lo hi none n).2.1 = ((HT.iI n n hi : Nat) : Int) ∧ (sliceBounds lo hi none n).2.2 = 1 := by
  refine ⟨?_, ?_, rfl⟩
  · cases lo with
    | none => simp [sliceBounds, HT.iI]
    | some i =>
      simp only [sliceBounds, HT.iI, Option.getD_none, show (1 : Int) > 0 by decide, if_true]
      by_cases h : i < 0
      · simp only [h, if_true] <;> omega
      · simp only [h, if_false] <;> omega
  · cases hi with
    | none => simp [sliceBounds, HT.iI]
    | some i =>
      simp only [sliceBounds, HT.iI, Option.getD_none, show (1 : Int) > 0 by decide, if_true]
      by_cases h : i < 0
      · simp only [h, if_true] <;> omega
      · simp only [h, if_false] <;> omega
theorem yV (its : List Value) (lo hi : Option Int) : slicePick its.toArray lo hi none = ((its.drop (HT.iI its.length 0 lo)).take (HT.iI its.length its.length hi - HT.iI its.length 0 lo)).toArray := by
  obtain ⟨h1, h2, h3⟩ := AF lo hi its.toArray.size
  unfold slicePick
  rw [h1, h2, h3]
  simp only [sliceRange_one, pick_run, List.size_toArray] <;> rfl
noncomputable def TN (K : PySem.W.Frag) : V → Option Int → Option Int → Hp → VK → Prop := fun x lo hi H Q => ∃ a xs, x = .ref a ∧ pD K H a xs ∧ ∀ p, H p = none → Q (.ref p) (upd H p (.lst (BR xs lo hi)))
theorem Kq : LQ X (TN X.K) := by
  intro pins s σ H x v vl vu lo hi sl Q I rx hs pl pu h
  obtain ⟨a, xs, rfl, hx, q⟩ := h
  cases rx
  obtain ⟨its, r, ht, hz⟩ := I.list hx
  have hlen := r.length
  refine ⟨"list", _, slot_list_getitem.lookup, ht.isList.typeIs, ?_⟩
  refine wpAny_getItem_list_slice ht.isList hs pl pu .none (by simp) ?_ (by rw [List.size_toArray] <;> omega)
  rw [yV, ← hlen]
  refine ⟨.ref s.heap.objs.size, _, I.laid (t' := s.toks) (o := .lst (BR xs lo hi)) (fun b ob q => Heap.get?_push_of_some _ q) (Nat.le_refl _) ?_, rfl, q _ (I.hok.fresh (Nat.le_refl _))⟩
  exact ⟨Nat.le_trans (vF xs lo hi) hz, _, 0, (r.drop (HT.iI xs.length 0 lo)).take (HT.iI xs.length xs.length hi - HT.iI xs.length 0 lo), Heap.get?_push_size _ rfl⟩
theorem tB : iB X (.builtin "len") (fun xs H Q => ∃ p ys, xs = [.ref p] ∧ (pD X.K H p ys ∨ qS X.K H p ys) ∧ Q (.int ys.length) H) := by
  intro pins s σ H xs us Q I r h
  obtain ⟨p, ys, rfl, hq, q⟩ := h
  obtain ⟨u, rfl, rx⟩ := vals1 r
  cases rx
  have hn := uN
  rcases hq with hq | hq
  · obtain ⟨its, r', pl, hz⟩ := I.list hq
    have hlen := r'.length
    exact Calls.call_len_list pl.isList (by simp only [List.size_toArray] <;> omega) ⟨.int ys.length, H, I.tok _, ⟨s.toks + 1, by rw [List.size_toArray, hlen]⟩, q⟩
  · obtain ⟨its, r', pl, hz⟩ := I.tuple hq
    have hlen := r'.length
    exact len_tuple pl (by simp only [List.size_toArray] <;> omega) ⟨.int ys.length, H, I.tok _, ⟨s.toks + 1, by rw [List.size_toArray, hlen]⟩, q⟩
theorem AG : iB X (.builtin "len") (fun xs H Q => ∃ z, xs = [.str z] ∧ z.length ≤ sizeLine ∧ Q (.int z.length) H) := by
  intro pins s σ H xs us Q I r h
  obtain ⟨z, rfl, hz, q⟩ := h
  obtain ⟨u, rfl, t, rfl⟩ := vals1 r
  have hn := uN
  exact len_str (by omega) ⟨.int z.length, H, I.tok _, ⟨_, rfl⟩, q⟩
theorem iB.or {f : Value} {r r' : List V → Hp → VK → Prop} (h : iB X f r) (h' : iB X f r') : iB X f (fun xs H Q => r xs H Q ∨ r' xs H Q) := by
  intro pins s σ H xs us Q I rs q
  rcases q with q | q
  · exact h pins s σ H xs us Q I rs q
  · exact h' pins s σ H xs us Q I rs q
theorem tD : iB X (.type "list") (fun xs H Q => ∃ p ys, xs = [.ref p] ∧ (pD X.K H p ys ∨ qS X.K H p ys) ∧ ∀ l, H l = none → Q (.ref l) (upd H l (.lst ys))) := by
  intro pins s σ H xs us Q I r h
  obtain ⟨p, ys, rfl, hq, q⟩ := h
  obtain ⟨u, rfl, rx⟩ := vals1 r
  cases rx
  have fin : ∀ (its : List Value), Vals ys its → ys.length ≤ sizeLine → ∀ (h' : Heap) (c' : Nat), (∀ b o', s.heap.get? b = some o' → h'.get? b = some o') →
      h'.get? s.heap.objs.size = some { cls := .type "list", dict := none, data := .seq its.toArray c', slots := #[] } → EP X pins σ Q (.ref s.heap.objs.size) { s with heap := h' } := fun its r' hz h' c' kp e =>
    ⟨.ref s.heap.objs.size, _, I.laid (t' := s.toks) kp (Nat.le_refl _) (show lS X.prog X.w _ h' _ (.lst ys) from ⟨hz, its, c', r', e⟩), rfl, q _ (I.hok.fresh (Nat.le_refl _))⟩
  rcases hq with hq | hq
  · obtain ⟨its, r', pl, hz⟩ := I.list hq
    have hlen := r'.length
    obtain ⟨o, ho, hc, n, hd⟩ := pl.isList
    exact call_list_seq p (.inl rfl) ho hc hd (fun h' c' kp e => fin its r' hz h' c' kp e) (by simp only [List.size_toArray] <;> omega)
  · obtain ⟨its, r', pl, hz⟩ := I.tuple hq
    have hlen := r'.length
    obtain ⟨o, ho, hc, n, hd⟩ := pl
    exact call_list_seq p (.inr rfl) ho hc hd (fun h' c' kp e => fin its r' hz h' c' kp e) (by simp only [List.size_toArray] <;> omega)
theorem rq : iB X (.type "tuple") (fun xs H Q => ∃ p ys, xs = [.ref p] ∧ ((pD X.K H p ys ∧ ∀ l, H l = none → Q (.ref l) (upd H l (.tup ys))) ∨ (qS X.K H p ys ∧ Q (.ref p) H))) := by
  intro pins s σ H xs us Q I r h
  obtain ⟨p, ys, rfl, h⟩ := h
  obtain ⟨u, rfl, rx⟩ := vals1 r
  cases rx
  rcases h with ⟨hq, q⟩ | ⟨hq, q⟩
  · obtain ⟨its, r', pl, hz⟩ := I.list hq
    have hlen := r'.length
    refine call_tuple_list pl.isList (fun h' kp => ?_) (by simp only [List.size_toArray] <;> omega)
    have I1 : Inv X pins σ H { s with heap := h' } := I.kept (t' := s.toks) kp
    have I2 : Inv X pins σ (upd H h'.objs.size (.tup ys)) { s with heap := h'.push { cls := .type "tuple", data := .seq its.toArray } } :=
      I1.laid (t' := s.toks) (fun b o e => Heap.get?_push_of_some _ e) (Nat.le_refl _) (show lS X.prog X.w _ _ _ (.tup ys) from ⟨hz, its, r', IsTup.new _ _⟩)
    exact ⟨.ref h'.objs.size, _, I2, rfl, q _ (I1.hok.fresh (Nat.le_refl _))⟩
  · obtain ⟨its, r', pl, hz⟩ := I.tuple hq
    exact call_tuple_same pl ⟨.ref p, H, I, rfl, q⟩
noncomputable def Sn (K : PySem.W.Frag) (T : String) (x : V) (H : Hp) : Prop := match x with
  | .str _ => T = "str"
  | .int _ => T = "int"
  | .ref p => (T = "list" ∧ ∃ xs, pD K H p xs) ∨ (T = "tuple" ∧ ∃ o, K.lookup p = some o ∧ o.cls = .type "tuple" ∧ o.dict = none) ∨
      (T = "dict" ∧ ((∃ kvs, H p = some (.dK kvs)) ∨ ∃ kvs, H p = some (.dT kvs))) ∨ (T = "set" ∧ ∃ S n, H p = some (.set S n))
  | _ => False
theorem AH {pins : List (Addr × Obj)} {σ : St} {H : Hp} {s : Shared} {T : String} {x : V} {v : Value} (I : Inv X pins σ H s) (r : RelV x v) (ty : Sn X.K T x H) :
    s.TypeIs v T ∧ ∀ a, v = .ref a → ∃ ob, s.heap.get? a = some ob ∧ ob.dict = none := by
  cases x with
  | str z =>
    obtain ⟨t, rfl⟩ := r
    cases (show T = "str" from ty)
    exact ⟨typeIs_str s z t, fun _ e => nomatch e⟩
  | int i =>
    obtain ⟨t, rfl⟩ := r
    cases (show T = "int" from ty)
    exact ⟨typeIs_int s i t, fun _ e => nomatch e⟩
  | ref p =>
    cases r
    rcases ty with ⟨rfl, xs, hq⟩ | ⟨rfl, o, hk, hc, hd⟩ | ⟨rfl, hk⟩ | ⟨rfl, S, n, hk⟩
    · obtain ⟨its, _, pl, _⟩ := I.list hq
      refine ⟨pl.isList.typeIs, fun a e => ?_⟩
      cases e
      obtain ⟨o, n, e, c, hd, _⟩ := pl
      exact ⟨o, e, hd⟩
    · refine ⟨⟨o, I.Dp p o hk, hc⟩, fun a e => ?_⟩
      cases e
      exact ⟨o, I.Dp _ o hk, hd⟩
    · have z : ∃ o, s.heap.get? p = some o ∧ o.ExactDict := by
        rcases hk with ⟨kvs, hk⟩ | ⟨kvs, hk⟩
        · obtain ⟨_, _, _, _, o, _, _, e, ex, _⟩ := I.hok p _ hk
          exact ⟨o, e, ex⟩
        · obtain ⟨_, _, _, _, o, _, _, e, ex, _⟩ := I.hok p _ hk
          exact ⟨o, e, ex⟩
      obtain ⟨o, e, ex⟩ := z
      refine ⟨⟨o, e, ex.1⟩, fun a e2 => ?_⟩
      cases e2
      exact ⟨o, e, ex.2.1⟩
    · obtain ⟨o, _, _, _, e, ex, _⟩ := I.hok p _ hk
      refine ⟨⟨o, e, ex.1⟩, fun a e2 => ?_⟩
      cases e2
      exact ⟨o, e, ex.2.1⟩
  | _ => exact False.elim ty
noncomputable def TQ (K : PySem.W.Frag) (T : String) (r : V → List V → Hp → VK → Prop) (to : TE) : TE := fun σ H Q => to σ H fun x H1 => Sn K T x H1 ∧ r x [] H1 Q
noncomputable def XT (K : PySem.W.Frag) (T : String) (r : V → List V → Hp → VK → Prop) (to : TE) (t : TA) : TE := fun σ H Q => to σ H fun x H1 => Sn K T x H1 ∧ t σ H1 fun xs H2 => r x xs H2 Q
variable {o e : Expr} {es : List Expr} {to : TE} {t : TA} {name : Str} {apos cpos : Pos} {T id : String} {r : V → List V → Hp → VK → Prop}
theorem Nb (pa : PlainAttrs T) (slot : Slot T name id) (hty : typeOf (.builtin id) = pure (.type "method_descriptor")) (hm : DE X id r) (ho : PE X o to)
    (hbase : attributeBase o name X.env (eval o X.env) = eval o X.env := by rfl) (hline : (apos.endLine == cpos.line) = true := by rfl) : PE X (.Call (.Attribute o name apos) [] [] cpos) (TQ X.K T r to) := by
  intro pins s σ H Q I h
  refine wpAny_Call_method0_late hbase hline (ja (ho pins s σ H _ I h) fun v s1 ⟨x, H1, I1, r1, ty, q1⟩ => ?_)
  obtain ⟨h1, h2⟩ := AH I1 r1 ty
  exact ⟨T, id, pa, slot, hty, h1, h2, Calls.callWith_builtin rfl (PySem.evalArgs_none (hm pins s1 σ H1 x [] v [] Q I1 r1 .nil q1))⟩
theorem Pz (pa : PlainAttrs T) (slot : Slot T name id) (hty : typeOf (.builtin id) = pure (.type "method_descriptor")) (hm : DE X id r) (ho : PE X o to) (ha : PA X (e :: es) t)
    (hbase : attributeBase o name X.env (eval o X.env) = eval o X.env := by rfl)
    (hfew : ((backTo cpos (starEach (e :: es) X.env)).all (fun x => !x.1) && (backToKw cpos (keywordEach [] X.env)).all (fun x => x.1.isSome)
      && decide ((e :: es).length + ([] : List Keyword).length + (if ([] : List Keyword).isEmpty then 0 else 1) < 30)) = true := by rfl)
    (hline : (apos.endLine == cpos.line) = true := by rfl) (hs : starEach (e :: es) X.env = (false, eval e X.env) :: starEach es X.env := by rfl) (hplain : (backTo cpos (starEach es X.env)).any (·.1) = false := by rfl) :
    PE X (.Call (.Attribute o name apos) (e :: es) [] cpos) (XT X.K T r to t) := by
  intro pins s σ H Q I h
  refine wpAny_Call_method_late hbase hfew hline rfl (ja (ho pins s σ H _ I h) fun v s1 ⟨x, H1, I1, r1, ty, q1⟩ => ?_)
  obtain ⟨h1, h2⟩ := AH I1 r1 ty
  refine ⟨T, id, pa, slot, hty, h1, h2, ?_⟩
  have hA := ha cpos pins s1 σ H1 _ I1 q1
  rw [hs] at hA ⊢
  refine Calls.callWith_builtin (by show (false || (backTo cpos (starEach es X.env)).any (·.1)) = false; rw [hplain] <;> rfl) (Calls.evalArgs_plain ?_)
  exact ja hA fun us s2 ⟨vs, H2, I2, r2, q2⟩ => hm pins s2 σ H2 x vs v us Q I2 r1 r2 q2
end
end L2
namespace L2
open PySem PySem.Spec PyProof.Rows
noncomputable def TR (X : Cx) (id : String) (r : V → List V → Hp → VK → Prop) : Prop :=
  ∀ (pins : List (Addr × Obj)) (s : Shared) (σ : St) (H : Hp) (x : V) (xs : List V) (v : Value) (us : List Value) (Q : VK), Inv X pins σ H s → RelV x v → Vals xs us → r x xs H Q →
    wpAny (model X.prog X.w) X.A (call (.builtin id) (v :: us)) (EP X pins σ Q) X.xe s
theorem Vals.one : ∀ {x : V} {us : List Value}, Vals [x] us → ∃ u, us = [u] ∧ RelV x u
  | _, _, .cons r .nil => ⟨_, rfl, r⟩
theorem Vals.zero : ∀ {us : List Value}, Vals [] us → us = []
  | _, .nil => rfl
theorem Vals.dropLast {xs : List V} {us : List Value} (h : Vals xs us) : Vals xs.dropLast us.dropLast := by
  induction h with
  | nil => exact .nil
  | cons r t ih =>
    cases t with
    | nil => exact .nil
    | cons q t' => exact .cons r ih
theorem Vals.eraseIdx : ∀ {xs : List V} {us : List Value} (i : Nat), Vals xs us → Vals (xs.eraseIdx i) (us.eraseIdx i)
  | _, _, _, .nil => .nil
  | _, _, 0, .cons _ t => t
  | _, _, i + 1, .cons r t => .cons r (Vals.eraseIdx i t)
theorem Vals.reverse {xs : List V} {us : List Value} (h : Vals xs us) : Vals xs.reverse us.reverse := by
  induction h with
  | nil => exact .nil
  | cons r t ih => rw [List.reverse_cons, List.reverse_cons]; exact Vals.append ih (.cons r .nil)
theorem DF {α : Type} (l : List α) : l.eraseIdx (l.length - 1) = l.dropLast := by
  induction l with
  | nil => rfl
  | cons a r ih =>
    cases r with
    | nil => rfl
    | cons b r =>
      have e : (a :: b :: r).length - 1 = ((b :: r).length - 1) + 1 := by
        have h1 : (a :: b :: r).length = r.length + 2 := rfl
        have h2 : (b :: r).length = r.length + 1 := rfl
        omega
      rw [e, List.eraseIdx_cons_succ, ih]
      all_goals rfl
theorem zJ {α : Type} : ∀ (l : List α) (i : Nat), (l.eraseIdx i).length ≤ l.length
  | [], _ => Nat.le_refl _
  | _ :: _, 0 => Nat.le_succ _
  | _ :: r, i + 1 => Nat.succ_le_succ (zJ r i)
section
variable {X : Cx} {pins : List (Addr × Obj)} {σ : St} {H : Hp} {s : Shared} {l b : Addr} {xs ys zs : List V}
theorem Inv.Kr {its its' : List Value} {n : Nat} {f : Array Value → Array Value} {t' : Nat} (I : Inv X pins σ H s) (hH : H l = some (.lst xs))
    (e : s.heap.get? l = some { cls := .type "list", data := .seq its.toArray n }) (hf : f its.toArray = its'.toArray) (hv : Vals ys its') (hz : ys.length ≤ sizeLine) (ht : 0 < t' := by first | exact Nat.succ_pos _ | exact (Inv.os (by assumption)).2 | assumption | omega) :
    Inv X pins σ (upd H l (.lst ys)) { s with heap := s.heap.update l (Obj.mapSeq f), toks := t' } := by
  have q := PySem.IsL.update e f
  rw [hf] at q
  refine I.write (x := l) (e := l) (by rw [hH]; exact trivial) (.inl rfl) (fun b' u hb hu => (Heap.get?_update_other s.heap (Obj.mapSeq f) (Ne.symm hb)).trans hu) ⟨_, q⟩ ?_
  exact ⟨hz, its', _, hv, q⟩
theorem Inv.TU {its : List Value} {t' : Nat} (I : Inv X pins σ H s) (hv : Vals ys its) (hz : ys.length ≤ sizeLine) (ht : 0 < t' := by first | exact Nat.succ_pos _ | exact (Inv.os (by assumption)).2 | assumption | omega) :
    Inv X pins σ (upd H s.heap.objs.size (.lst ys)) { s with heap := s.heap.push { cls := .type "list", data := .seq its.toArray }, toks := t' } :=
  I.laid (fun _ _ q => Heap.get?_push_of_some _ q) (Nat.le_refl _) ⟨hz, its, 0, hv, Heap.get?_push_size _ rfl⟩
theorem Inv.fresh (I : Inv X pins σ H s) : H s.heap.objs.size = none := I.hok.fresh (Nat.le_refl _)
theorem Inv.Ks (I : Inv X pins σ H s) (hH : H l = some (.lst xs)) : xs.length ≤ sizeLine ∧ ∃ (its : List Value) (n : Nat), Vals xs its ∧ xs.length = its.length ∧ s.heap.get? l = some { cls := .type "list", data := .seq its.toArray n } := by
  obtain ⟨z, its, n, r, e⟩ := I.hok l _ hH
  exact ⟨z, its, n, r, r.length, e⟩
theorem HJ {n : Nat} (h : n ≤ sizeLine) : Builtin.List.listTooLong n = false := by
  unfold Builtin.List.listTooLong
  exact decide_eq_false (by omega)
end
section
variable {X : Cx}
noncomputable def Ku : V → List V → Hp → VK → Prop := fun x vs H Q => ∃ l xs y, x = .ref l ∧ vs = [y] ∧ H l = some (.lst xs) ∧ xs.length < sizeLine ∧ Q .kr (upd H l (.lst (xs ++ [y])))
theorem zK : TR X "list.append" Ku := by
  intro pins s σ H x vs v us Q I rx rv h
  obtain ⟨l, xs, y, rfl, rfl, hH, hz, q⟩ := h
  cases rx
  obtain ⟨u, rfl, ru⟩ := rv.one
  obtain ⟨z, its, n, r, hl, e⟩ := I.Ks hH
  refine call_meets F.slot_list_append ⟨_, e, rfl⟩ F.entry_list_append (F.args_list_append_2 _ _) (PySem.list_append l its.toArray n u (by rw [List.size_toArray]; omega)) ⟨e, ?_⟩
  refine ⟨.kr, _, I.Kr (its' := its ++ [u]) hH e (by simp) (r.append (.cons ru .nil)) ?_, rfl, q⟩
  rw [List.length_append, List.length_singleton]
  omega
noncomputable def TV : V → List V → Hp → VK → Prop := fun x vs H Q => ∃ l xs y, x = .ref l ∧ vs = [] ∧ H l = some (.lst xs) ∧ xs[xs.length - 1]? = some y ∧ Q y (upd H l (.lst xs.dropLast))
theorem Nc : TR X "list.pop" TV := by
  intro pins s σ H x vs v us Q I rx rv h
  obtain ⟨l, xs, y, rfl, rfl, hH, hy, q⟩ := h
  cases rx
  have Kv := rv.zero
  subst Kv
  obtain ⟨z, its, n, r, hl, e⟩ := I.Ks hH
  obtain ⟨u, hu, ru⟩ := r.get hy
  have hy' : its.toArray[its.toArray.size - 1]? = some u := by
    show its.toArray[its.length - 1]? = some u
    rw [← Array.getElem?_toList, ← hl]
    exact hu
  refine call_meets F.slot_list_pop ⟨_, e, rfl⟩ F.entry_list_pop (F.args_list_pop_1 _) (MeetsSeq.list_pop_last l its.toArray n u hy' (by rw [List.size_toArray]; omega)) ⟨e, ?_⟩
  refine ⟨y, _, I.Kr (its' := its.dropLast) hH e ?_ r.dropLast ?_, ru, q⟩
  · show its.toArray.eraseIdxIfInBounds (its.toArray.size - 1) = its.dropLast.toArray
    rw [List.size_toArray, List.eraseIdxIfInBounds_toArray, DF]
  · rw [List.length_dropLast]
    omega
noncomputable def Nd : V → List V → Hp → VK → Prop := fun x vs H Q => ∃ l xs i k y, x = .ref l ∧ vs = [.int i] ∧ H l = some (.lst xs) ∧ -(2 ^ 63) ≤ i ∧ i < 2 ^ 63 ∧ seqIndex? i xs.length = some k ∧ xs[k]? = some y ∧ Q y (upd H l (.lst (xs.eraseIdx k)))
theorem HK : TR X "list.pop" Nd := by
  intro pins s σ H x vs v us Q I rx rv h
  obtain ⟨l, xs, i, k, y, rfl, rfl, hH, h1, h2, hk, hy, q⟩ := h
  cases rx
  obtain ⟨u, rfl, ru⟩ := rv.one
  obtain ⟨t, rfl⟩ := ru
  obtain ⟨z, its, n, r, hl, e⟩ := I.Ks hH
  obtain ⟨w, hw, rw'⟩ := r.get hy
  refine call_meets F.slot_list_pop ⟨_, e, rfl⟩ F.entry_list_pop (F.args_list_pop_2 _ _)
    (MeetsSeq.list_pop_at l its.toArray n i t k w (fitsIndex_both h1 h2) (by rw [List.size_toArray, ← hl]; exact hk) (by rw [← Array.getElem?_toList]; exact hw) (by rw [List.size_toArray]; omega)) ⟨e, ?_⟩
  refine ⟨y, _, I.Kr (its' := its.eraseIdx k) hH e ?_ (r.eraseIdx k) ?_, rw', q⟩
  · show its.toArray.eraseIdxIfInBounds k = (its.eraseIdx k).toArray
    rw [List.eraseIdxIfInBounds_toArray]
  · have := zJ xs k
    omega
end
section
variable {prog : Program} {w : World} {A : Around} {E : Value → Shared → Prop} {s : Shared}
end
section
variable {X : Cx}
end
end L2
namespace V6
open PySem PySem.W PySem.Calls PyProof.Rows
theorem wD {P : Params} {h : Heap} : ∀ (ns : List Int) (vs : List Value), WellAll P h vs (ns.map WData.int) → IntsAre vs ns := by
  intro ns
  induction ns with
  | nil =>
    intro vs w
    rw [List.map_nil] at w
    cases w
    exact .nil
  | cons n ns ih =>
    intro vs w
    rw [List.map_cons] at w
    cases w with
    | cons a b =>
      cases a
      exact .cons _ _ (ih _ b)
theorem Gb {l : OpenLaw} {n : Nat} (hn : l.most = some n) {P : Params} {h : Heap} {args : List WData} {vals : List Value}
    (hpre : l.row.toRowW.claim.pre args = true) (hwl : WellAll P h vals args) :
    ∃ a vs ns, vals = [Value.ref a] ∧ args = [WData.list (ns.map WData.int)] ∧ h.get? a = some { cls := .type "list", data := .seq vs.toArray } ∧ IntsAre vs ns ∧ ns.length ≤ n := by
  have hsh : WShape.hasAll [] args [.list .int] = true := (pre_splitW hpre).1
  have hc : l.pre.holds [] { args := args } = true := (pre_splitW hpre).2
  obtain ⟨d, r, rfl, h1, h2⟩ := hasAllW_cons hsh
  obtain rfl := hasAllW_nil h2
  obtain ⟨xs, rfl, h3⟩ := hasW_list h1
  obtain ⟨ns, rfl⟩ := items_int h3
  have hlen : ns.length ≤ n := by
    unfold OpenLaw.pre at hc
    have h4 : (WTm.not (.lt (.lit (.int (n : Int))) (.len (.arg 0)))).holds [] { args := [.list (ns.map .int)] } = true := by
      have h4 := (holds_andW hc).1
      rw [hn] at h4
      exact h4
    have h5 := condW_of h4 (w_not (w_lt w_lit (w_len_list (w_arg rfl))))
    rw [List.length_map] at h5
    refine Nat.le_of_not_lt fun q => ?_
    have q' : (n : Int) < ((ns.length : Nat) : Int) := by omega
    first
      | (rw [decide_eq_true q'] at h5; exact absurd h5 (by decide))
      | (simp at h5; omega)
  cases hwl with
  | cons w1 w2 =>
    cases w2
    cases w1 with
    | list ho hall => exact ⟨_, _, ns, rfl, rfl, ho, wD ns _ hall, hlen⟩
theorem Gd (l : OpenLaw) (args : List WData) : l.row.toRowW.claim.post args (.bool true) args = true :=
  postW_of (r := l.row.toRowW) (X := (true == true))
    (show WShape.has [] (.bool true) .bool = true by first | rfl | decide | simp [WShape.has, WShape.arms, WShape.armsAll])
    (show (WTm.eq .res (.lit (.bool true))).value [] { args := args, res := some (.bool true), after := args } = some (.bool (true == true)) from w_eq_bool (w_res rfl) w_lit) rfl
theorem BS {l : OpenLaw} {n : Nat} {q : Program} {loose : List Str} {XP : (Str → Option Value) → Heap → Prop} {YP : World → Heap → Prop} {d : DefRec}
    (hn : l.most = some n) (hdf : d.params.defaults = [])
    (call : ∀ (w : World) (s₀ s₁ : Shared) (mg mb : Str → Option Value) (fa : Addr) (o : Obj) (pm cd doc : Value) (a : Addr) (vs : List Value) (ns : List Int),
      Ground q loose [] XP w s₀ mg mb s₁.heap → YP w s₁.heap →
      s₁.heap.get? fa = some o → o.data = .func (docDef d.name d.params d.body d.scope pm cd doc) → s₁.heap.CodeRec cd d.name → mg d.name = some (.ref fa) →
      s₁.heap.get? a = some { cls := .type "list", data := .seq vs.toArray } → IntsAre vs ns → ns.length ≤ n → s₁.gens = #[] →
      codeAny (model l.prog w) callerA (.call (.ref fa) ⟨[.ref a], []⟩) (fun r s' => r = .ok (.ret (.bool true)) ∧ OldK s₁.heap s'.heap ∧ s'.os = s₁.os ∧ AllBare s'.gens) s₁) :
    WalkO q loose XP YP l.row.toRowW d [] (fun f vs => PySem.call f vs) := by
  intro w s₀ s₁ mg mb G Y fa o pm cd doc dV kV ho hd hcd hD hmg hg args vals as hpre hlay hrd hwl hlo
  obtain rfl : dV = .none := Dflts.none hD hdf
  obtain rfl : kV = .none := Dflts.noKw hD
  obtain ⟨a, vs, ns, rfl, rfl, hobj, hints, hlen⟩ := Gb hn hpre hwl
  refine enter_call (codeAny_mono (call w s₀ s₁ mg mb fa o pm cd doc a vs ns G Y ho (fd_plain hd) hcd hmg hobj hints hlen hg) fun r s' hq => ?_)
  obtain ⟨rfl, h2, h3, h4⟩ := hq
  exact ⟨.inl ⟨.bool true, .bool true, [], rfl, fun _ => rfl, .bool true, Gd l _, fun _ => ⟨List.Pairwise.nil, fun _ hm => (nomatch hm)⟩⟩, h2, h3, h4⟩
section
variable {prog : Program} {w : World} {A : Around} {E : Value → Shared → Prop} {s : Shared} {K : Frag}
end
end V6
namespace L2
open PySem PySem.Spec PyProof.Rows
theorem zL : ∀ {vs : List Value} {ns : List Int}, IntsAre vs ns → Vals (ns.map V.int) vs
  | _, _, .nil => .nil
  | _, _, .cons n t h => .cons ⟨t, rfl⟩ (zL h)
noncomputable def Kw (H : Hp) : Prop := ∀ b, H b = none ∨ ∃ o xs, H b = some (.oE o (.lst xs))
theorem HL {P : Program} {w : World} {K : PySem.W.Frag} {mg mb : Str → Option Value} {CX : yR} {k : Nat} {fa a : Addr} {fd : FuncData} {x : Str} {sp : Sp} {s₁ : Shared} {vs : List Value} {ns : List Int}
    (KX : K.In s₁.heap) (hns : s₁.heap.Ns mainGlobals mg) (hb : s₁.heap.Ns builtinsNs mb) (So : ∀ x : Str, x ≠ "__name__" → mb x = bootBuiltins x) (hlim : s₁.heap.NoLimit) (hg : s₁.gens = #[])
    (ha : s₁.heap.get? a = some { cls := .type "list", data := .seq vs.toArray }) (hi : IntsAre vs ns) (hl : ns.length ≤ sizeLine) (hr : iK k callerA)
    (F : ∀ base : Heap, K.In base → base.Ns mainGlobals mg → rm P w K mg base CX k fa fd [x] sp) (hbind : ∀ (s : Shared) (u : Value), BindsTo s fd ⟨[u], []⟩ [(x, u)])
    (FZ : ∀ H : Hp, Kw H → pD K H a (ns.map V.int) → sp [.ref a] H (fun v _ => v = .bl true) fun _ _ _ => False)
    (TX : ∀ H e s', CX [] H s₁ (fun _ _ _ => False) e s' → False) :
    codeAny (model P w) callerA (.call (.ref fa) ⟨[.ref a], []⟩) (fun r s' => r = .ok (.ret (.bool true)) ∧ OldK s₁.heap s'.heap ∧ s'.os = s₁.os ∧ AllBare s'.gens) s₁ := by
  have rv := zL hi
  have TY := hi.length
  have core : ∀ H : Hp, Kw H → pD K H a (ns.map V.int) → sW P w H s₁.heap → (∀ b, H b ≠ none → b = a) → (H a ≠ none → K.lookup a = none) →
      codeAny (model P w) callerA (.call (.ref fa) ⟨[.ref a], []⟩) (fun r s' => r = .ok (.ret (.bool true)) ∧ OldK s₁.heap s'.heap ∧ s'.os = s₁.os ∧ AllBare s'.gens) s₁ := by
    intro H hO hS hok hA hK
    have jd : ∀ {b : Addr} {o : Obj}, s₁.heap.get? b = some o → H b = none → (Ax s₁.heap H).get? b = some o := fun e n => Hu e n
    have Pq : ∀ {b : Addr} {o : Obj} {es : Array DictEntry} {ep : Nat}, s₁.heap.get? b = some o → o.data = .dict es ep → H b = none := fun {b o es ep} e d => by
      cases q : H b with
      | none => rfl
      | some u =>
        have e' : b = a := hA b (by rw [q]; simp)
        subst e'
        rw [ha] at e; cases e
        have d' : Data.seq vs.toArray _ = Data.dict es ep := d
        cases d'
    have Sq : ∀ {b : Addr} {m : Str → Option Value}, s₁.heap.Ns b m → (Ax s₁.heap H).Ns b m := fun {b m} ⟨o, es, ep, e, d, r⟩ => ⟨o, es, ep, jd e (Pq e d), d, r⟩
    have V7 : K.In (Ax s₁.heap H) := fun b o e => jd (KX b o e) (by
      cases q : H b with
      | none => rfl
      | some u =>
        have e' : b = a := hA b (by rw [q]; simp)
        subst e'
        rw [hK (by rw [q]; simp)] at e; cases e)
    have hM : Mod K mg (Ax s₁.heap H) := ⟨V7, Sq hns, ⟨mb, Sq hb, So⟩, let ⟨mc, h1, h2⟩ := hlim; ⟨mc, Sq h1, h2⟩⟩
    have e0 : xy P w K mg (Ax s₁.heap H) callerA [] s₁ H := ⟨rfl, hM, fun b o e => J4 e, Nat.le_of_eq (FO _ _), trivial, fun b hb => absurd (show b ∈ ([] : List Addr) from hb) (by simp), hok, .of_eq hg⟩
    refine codeAny_mono ((F _ V7 (Sq hns)).run callerA [] s₁ H ⟨[.ref a], []⟩ [.ref a] [.ref a] _ _ hr e0 (hbind s₁ (.ref a)) (.cons rfl .nil) (FZ H hO hS)) fun r s' h => ?_
    cases r with
    | error e => exact (TX H e s' h).elim
    | ok fl =>
      cases fl with
      | next => exact False.elim h
      | brk => exact False.elim h
      | cont => exact False.elim h
      | ret u =>
        obtain ⟨v, H', os, bare, un, TZ, r', q⟩ := h
        have q' : v = .bl true := q
        subst q'
        obtain rfl : u = Value.bool true := r'
        refine ⟨rfl, OldK.of_keep fun b o e => ?_, os.1, bare⟩
        cases q : H b with
        | none => exact un.keep b o e q (by intro z; exact absurd (show b ∈ ([] : List Addr) from z) (by simp)) (by simp)
        | some u =>
          rcases hO b with z | ⟨ob, xs, z⟩
          · rw [q] at z; cases z
          · have z2 := un.qR b ob _ z
            obtain ⟨e1, _⟩ := hok b _ z
            obtain ⟨e2, _⟩ := TZ b _ z2
            rw [e] at e1; cases e1
            exact e2
  cases hk : K.lookup a with
  | some o =>
    have e := KX a o hk
    rw [ha] at e
    cases e
    refine core (fun _ => none) (fun _ => .inl rfl) (.inr ⟨_, vs.toArray, _, hk, rfl, rfl, rfl, by rw [List.size_toArray, TY]; exact hl, by simpa using rv⟩) (fun b u z => by have z' : (none : Option HO) = some u := z; cases z') (fun b z => absurd rfl z) fun z => absurd rfl z
  | none =>
    refine core (fun b => if b = a then some (.oE { cls := .type "list", data := .seq vs.toArray } (.lst (ns.map V.int))) else none) (fun b => ?_) (.inl (.inr ⟨{ cls := .type "list", data := .seq vs.toArray }, if_pos rfl⟩)) (fun b u z => ?_) (fun b z => ?_) fun _ => hk
    · by_cases hb : b = a
      · exact .inr ⟨_, _, if_pos hb⟩
      · exact .inl (if_neg hb)
    · by_cases hb : b = a
      · have z' := (if_pos hb).symm.trans z
        cases z'
        subst hb
        exact ⟨ha, by rw [List.length_map]; exact hl, vs, _, rv, ha⟩
      · have z' := (if_neg hb).symm.trans z
        cases z'
    · by_cases hb : b = a
      · exact hb
      · exact absurd (if_neg hb) z
end L2
namespace L2
open PySem PySem.Spec PyProof.Rows
noncomputable abbrev KOf {K : PySem.W.Frag} {h : Heap} (_ : K.In h) : PySem.W.Frag := K
theorem Ky {l : PySem.W.OpenLaw} {n k : Nat} {q : Program} {loose : List Str} {XP : (Str → Option Value) → Heap → Prop} {YP : World → Heap → Prop} {d : DefRec} {K : Params → PySem.W.Frag} {CX : World → yR} {sp : World → Sp} {x : Str}
    (hn : l.most = some n) (hn2 : n ≤ sizeLine) (hdf : d.params.defaults = []) (hr : iK k callerA)
    (hY : ∀ (w : World) (h : Heap), YP w h → (K w.params).In h)
    (F : ∀ (w : World) (mg : Str → Option Value) (fa : Addr) (h : Heap), (K w.params).In h → h.Ns mainGlobals mg → mg d.name = some (.ref fa) →
      ∃ fd : FuncData, (∀ (s : Shared) (u : Value), BindsTo s fd ⟨[u], []⟩ [(x, u)]) ∧
        ∀ base : Heap, (K w.params).In base → base.Ns mainGlobals mg → rm l.prog w (K w.params) mg base (CX w) k fa fd [x] (sp w))
    (FZ : ∀ (w : World) (H : Hp) (a : Addr) (ns : List Int), ns.length ≤ n → Kw H → pD (K w.params) H a (ns.map V.int) → sp w [.ref a] H (fun v _ => v = .bl true) fun _ _ _ => False)
    (TX : ∀ (w : World) (H : Hp) (s : Shared) (e : Value) (s' : Shared), CX w [] H s (fun _ _ _ => False) e s' → False) :
    PySem.W.WalkO q loose XP YP l.row.toRowW d [] (fun f vs => PySem.call f vs) := by
  refine V6.BS hn hdf fun w s₀ s₁ mg mb fa o pm cd doc a vs ns G Y ho hd hcd hmg hobj hints hlen hg => ?_
  have KX := hY w _ Y
  obtain ⟨fd, hb, hF⟩ := F w mg fa _ KX G.T.g hmg
  exact HL KX G.T.g G.T.b G.T.builtins G.T.nolimit hg hobj hints (Nat.le_trans hlen hn2) hr hF hb (fun H hO hS => FZ w H a ns hlen hO hS) fun H e s' => TX w H s₁ e s'
end L2
namespace L2
open PySem PySem.Spec PyProof.Rows
noncomputable def aF (s : Stmt) : Arguments := match s with
  | .FunctionDef _ a _ _ _ _ _ _ _ _ => a
  | _ => { posonlyargs := [], args := [], vararg := none, kwonlyargs := [], kw_defaults := [], kwarg := none, defaults := [] }
noncomputable def aD (s : Stmt) : List Stmt := match s with
  | .FunctionDef _ _ b _ _ _ _ _ _ _ => b
  | _ => []
noncomputable def aa (s : Stmt) : Scope := match s with
  | .FunctionDef _ _ _ _ _ _ sc _ _ _ => sc
  | _ => { kind := .function, names := [], isGenerator := false, isCoroutine := false }
structure sX (K : PySem.W.Frag) (x qual : Str) (st : Stmt) (f : Addr) (fd : FuncData) : Prop where
  ex : ∃ (oc : Value) (od : Option Addr) (kV doc pm : Value) (an : Option Addr) (cdv ct : Value) (osl : Array (Option Value)),
    fd = PySem.W.fnOf x qual (aF st) (aD st) (aa st) .none kV doc pm an cdv ct ∧ K.lookup f = some ⟨oc, od, .func fd, osl⟩ ∧ PySem.W.codeIn K cdv qual = true
  kp : PySem.W.keepIn K (.ref f) = true
section
variable {P : Program} {w : World} {K : PySem.W.Frag} {mg : Str → Option Value} {base : Heap}
theorem sX.binds {x qual : Str} {st : Stmt} {f : Addr} {fd : FuncData} {ps : List Str} (F : sX K x qual st f fd)
    (h : ∀ (kV doc pm : Value) (an : Option Addr) (cdv ct : Value) (us : List Value), us.length = ps.length → bindArgs (PySem.W.fnOf x qual (aF st) (aD st) (aa st) .none kV doc pm an cdv ct) ⟨us, []⟩ = pure (ps.zip us)) : Binds K fd ps [] := by
  obtain ⟨oc, od, kV, doc, pm, an, cdv, ct, osl, rfl, lk, hcd⟩ := F.ex
  exact .all (h kV doc pm an cdv ct)
theorem d8 {x qual : Str} {st : Stmt} {f : Addr} {oc : Value} {od an : Option Addr} {osl : Array (Option Value)} {kV doc pm cdv ct : Value} (l : K.lookup f = some ⟨oc, od, .func (PySem.W.fnOf x qual (aF st) (aD st) (aa st) .none kV doc pm an cdv ct), osl⟩)
    (c : PySem.W.codeIn K cdv qual = true) (k : PySem.W.keepIn K (.ref f) = true) : sX K x qual st f (PySem.W.fnOf x qual (aF st) (aD st) (aa st) .none kV doc pm an cdv ct) := ⟨⟨oc, od, kV, doc, pm, an, cdv, ct, osl, rfl, l, c⟩, k⟩
end
section
variable {X : Cx}
end
noncomputable def PB (H H' : Hp) : Prop := ∀ b o, H b = some o → H' b = some o
theorem PB.free {H H' : Hp} (e : PB H H') {l : Addr} (h : H' l = Option.none) : H l = Option.none := by
  cases q : H l with
  | none => rfl
  | some o =>
    rw [e l o q] at h
    cases h
end L2
end
section
set_option Elab.async false
set_option linter.all false
set_option maxRecDepth 100000
namespace L2
open PySem PySem.Spec PyProof.Rows
section
variable {κ : Type} [DecidableEq κ]
noncomputable def Kz (kvs : List (κ × V)) (k : κ) : Option V := (kvs.find? fun kv => decide (kv.1 = k)).map (·.2)
noncomputable def putK (kvs : List (κ × V)) (k : κ) (v : V) : List (κ × V) :=
  if (kvs.any fun kv => decide (kv.1 = k)) = true then kvs.map (fun kv => if kv.1 = k then (kv.1, v) else kv) else kvs ++ [(k, v)]
theorem J3.getD {o : Option V} {u : Option Value} {d : V} {d' : Value} (r : J3 o u) (rd : RelV d d') : RelV (o.getD d) (u.getD d') := by
  cases o with
  | none => cases u with
    | none => exact rd
    | some _ => exact (show False from r).elim
  | some _ => cases u with
    | none => exact (show False from r).elim
    | some _ => exact r
end
noncomputable abbrev KT (H : Hp) : List (List Key × V) → List (List Key × Addr × Value) → Prop := Paired fun p q => p.1 = q.1 ∧ H q.2.1 = some (.tup (p.1.map kV)) ∧ RelV p.2 q.2.2
theorem KT.keeps {H H' : Hp} {kvs : List (List Key × V)} {xs : List (List Key × Addr × Value)} (r : KT H kvs xs) (ht : ∀ b ys, H b = some (.tup ys) → H' b = some (.tup ys)) : KT H' kvs xs :=
  Paired.Mu r fun _ _ z => ⟨z.1, ht _ _ z.2.1, z.2.2⟩
section
variable {P : Program} {w : World} {H : Hp} {h : Heap} {a : Addr}
end
noncomputable def KA (H : Hp) (a : Addr) (y : V) (r : Option V) : Prop :=
  (∃ kvs k, Rd H a (.dK kvs) ∧ y = kV k ∧ r = Kz kvs k) ∨ ∃ kvs k b, Rd H a (.dT kvs) ∧ y = .ref b ∧ H b = some (.tup (k.map kV)) ∧ r = Kz kvs k
noncomputable def KC (H : Hp) (a : Addr) (y v : V) (H' : Hp) : Prop :=
  (∃ kvs k, H a = some (.dK kvs) ∧ y = kV k ∧ kvs.length < sizeLine ∧ H' = upd H a (.dK (putK kvs k v))) ∨
  ∃ kvs k b, H a = some (.dT kvs) ∧ y = .ref b ∧ H b = some (.tup (k.map kV)) ∧ kvs.length < sizeLine ∧ H' = upd H a (.dT (putK kvs k v))
theorem KA.k {H : Hp} {a : Addr} {kvs : List (Key × V)} {k : Key} (e : H a = some (.dK kvs)) : KA H a (kV k) (Kz kvs k) := .inl ⟨kvs, k, .inl e, rfl, rfl⟩
theorem KA.t {H : Hp} {a b : Addr} {kvs : List (List Key × V)} {k : List Key} (e : H a = some (.dT kvs)) (eb : H b = some (.tup (k.map kV))) : KA H a (.ref b) (Kz kvs k) := .inr ⟨kvs, k, b, .inl e, rfl, eb, rfl⟩
theorem KC.k {H : Hp} {a : Addr} {kvs : List (Key × V)} {k : Key} {v : V} (e : H a = some (.dK kvs)) (hl : kvs.length < sizeLine) : KC H a (kV k) v (upd H a (.dK (putK kvs k v))) := .inl ⟨kvs, k, e, rfl, hl, rfl⟩
theorem KC.t {H : Hp} {a b : Addr} {kvs : List (List Key × V)} {k : List Key} {v : V} (e : H a = some (.dT kvs)) (eb : H b = some (.tup (k.map kV))) (hl : kvs.length < sizeLine) :
    KC H a (.ref b) v (upd H a (.dT (putK kvs k v))) := .inr ⟨kvs, k, b, e, rfl, eb, hl, rfl⟩
section
variable {X : Cx} {pins : List (Addr × Obj)} {σ : St} {H : Hp} {s : Shared} {a : Addr} {y v : V} {u r : Value} {o : Option V} {A : Around} {E : Value → Shared → Prop}
end
section
variable {X : Cx} {pins : List (Addr × Obj)} {σ : St} {H : Hp} {s : Shared} {a : Addr} {kvs : List (Key × V)} {k : Key} {u : Value} {A : Around} {E : Value → Shared → Prop}
end
section
variable {X : Cx} {o i e value : Expr} {pos pos' tpos : Pos} {td ty tv : TE}
end
section
variable {X : Cx} {pos : Pos}
end
structure M1 (X : Cx) (o : Expr) (m : Str) (apos : Pos) (e : Expr) (cpos : Pos) : Prop where
  base : attributeBase o m X.env (eval o X.env) = eval o X.env
  few : ((backTo cpos (starEach [e] X.env)).all (fun x => !x.1) && (backToKw cpos (keywordEach [] X.env)).all (fun x => x.1.isSome)
    && decide (([e] : List Expr).length + ([] : List Keyword).length + (if ([] : List Keyword).isEmpty then 0 else 1) < 30)) = true
  line : (apos.endLine == cpos.line) = true
  trees : backTo cpos (starEach [e] X.env) = [(false, eval e X.env)]
structure M2 (X : Cx) (o : Expr) (m : Str) (apos : Pos) (e f : Expr) (cpos : Pos) : Prop where
  base : attributeBase o m X.env (eval o X.env) = eval o X.env
  few : ((backTo cpos (starEach [e, f] X.env)).all (fun x => !x.1) && (backToKw cpos (keywordEach [] X.env)).all (fun x => x.1.isSome)
    && decide (([e, f] : List Expr).length + ([] : List Keyword).length + (if ([] : List Keyword).isEmpty then 0 else 1) < 30)) = true
  line : (apos.endLine == cpos.line) = true
  trees : backTo cpos (starEach [e, f] X.env) = [(false, eval e X.env), (false, eval f X.env)]
section
variable {X : Cx} {pins : List (Addr × Obj)} {σ : St} {H : Hp} {s : Shared} {a : Addr} {y d : V} {u r : Value} {o : Option V} {A : Around} {E : Value → Shared → Prop}
end
section
variable {X : Cx} {o e f : Expr} {apos cpos : Pos} {td ty tx : TE}
end
section
variable {X : Cx} {pins : List (Addr × Obj)} {σ : St} {H : Hp} {s : Shared} {a : Addr} {kvs : List (Key × V)} {A : Around} {E : Value → Shared → Prop}
end
section
variable {X : Cx} {pins : List (Addr × Obj)} {σ : St} {H : Hp} {s : Shared} {a : Addr} {y : V} {u : Value} {A : Around} {E : Value → Shared → Prop}
end
end L2
end
section
set_option Elab.async false
set_option linter.all false
set_option maxRecDepth 100000
namespace L3
open PySem PySem.Spec L2
inductive D where
 | kr | bl (b : Bool) | int (i : Int) | str (x : Str) | tup (xs : List D) | con (xs : List D) | obj (n : Nat) | fn (x : Str) | zM (cls : Str) (args : List D)
inductive DO where
 | lst (xs : List D)
 | dead
 | dct (kvs : List (Key × D))
noncomputable abbrev DH := List DO
noncomputable abbrev DS := List (Option D)
inductive XD where
 | mk (cls : Str) (args : List D)
inductive Out (α : Type) where
 | stuck
 | ok (a : α) (G : DH)
 | fR (c : XD) (G : DH)
noncomputable abbrev M (α : Type) := DH → Out α
noncomputable def M.bind {α β : Type} (m : M α) (k : α → M β) : M β := fun G => match m G with
 | .stuck => .stuck
 | .ok a G' => k a G'
 | .fR c G' => .fR c G'
noncomputable def M.ret {α : Type} (a : α) : M α := fun G => .ok a G
noncomputable def M.stop {α : Type} : M α := fun _ => .stuck
noncomputable def Nf (K : PySem.W.Frag) (H : Hp) (a : Addr) (xs : List V) : Prop :=
 (∃ o, H a = some (.oE o (.lst xs))) ∨
  ∃ (o : Obj) (its : Array Value) (n : Nat), K.lookup a = some o ∧ o.cls = .type "list" ∧ o.dict = none ∧ o.data = .seq its n ∧ its.size ≤ sizeLine ∧ Vals xs its.toList
theorem Nf.seq {K : PySem.W.Frag} {H : Hp} {a : Addr} {xs : List V} (h : Nf K H a xs) : pD K H a xs := by
 rcases h with ⟨o, h⟩ | h
 ·exact .inl (.inr ⟨o, h⟩)
 ·exact .inr h
noncomputable def PC (a : Addr) (cv : Value) : Heap → Prop := fun h => ∃ o, h.get? a = some o ∧ o.cls = cv
mutual
noncomputable def Rep (K : PySem.W.Frag) (mg : Str → Option Value) (ρ : List Addr) (H : Hp) : D → V → Prop
 | .kr, v => v = .kr
 | .bl b, v => v = .bl b
 | .int i, v => v = .int i
 | .str x, v => v = .str x
 | .tup ds, v => ∃ a xs, v = .ref a ∧ qS K H a xs ∧ aG K mg ρ H ds xs
 | .con ds, v => ∃ a xs, v = .ref a ∧ Nf K H a xs ∧ aG K mg ρ H ds xs
 | .obj n, v => ∃ a, v = .ref a ∧ ρ[n]? = some a
 | .fn x, v => ∃ a, v = .ref a ∧ mg x = some (.ref a)
 | .zM c _, v => ∃ a cv, v = .ref a ∧ mg c = some cv ∧ H a = some (.ext (PC a cv))
noncomputable def aG (K : PySem.W.Frag) (mg : Str → Option Value) (ρ : List Addr) (H : Hp) : List D → List V → Prop
 | [], vs => vs = []
 | d :: ds, vs => ∃ v r, vs = v :: r ∧ Rep K mg ρ H d v ∧ aG K mg ρ H ds r
end
structure fY (K : PySem.W.Frag) (H H' : Hp) (ρ ρ' : List Addr) : Prop where
 tup : ∀ a xs, qS K H a xs → qS K H' a xs
 con : ∀ a xs, Nf K H a xs → Nf K H' a xs
 pre : ∃ r, ρ' = ρ ++ r
 ext : ∀ a φ, H a = some (.ext φ) → H' a = some (.ext φ)
section
variable {K : PySem.W.Frag} {mg : Str → Option Value} {H H' H1 H2 : Hp} {ρ ρ' ρ1 ρ2 : List Addr}
theorem fY.refl : fY K H H ρ ρ := ⟨fun _ _ h => h, fun _ _ h => h, ⟨[], by simp⟩, fun _ _ h => h⟩
theorem fY.trans (a : fY K H H1 ρ ρ1) (b : fY K H1 H2 ρ1 ρ2) : fY K H H2 ρ ρ2 := by
 obtain ⟨r1, e1⟩ := a.pre
 obtain ⟨r2, e2⟩ := b.pre
 exact ⟨fun x xs h => b.tup x xs (a.tup x xs h), fun x xs h => b.con x xs (a.con x xs h), ⟨r1 ++ r2, by rw [e2, e1, List.append_assoc]⟩, fun x φ h => b.ext x φ (a.ext x φ h)⟩
theorem fY.get (f : fY K H H' ρ ρ') {n : Nat} {a : Addr} (h : ρ[n]? = some a) : ρ'[n]? = some a := by
 obtain ⟨r, e⟩ := f.pre
 rw [e, List.getElem?_append_left (List.getElem?_eq_some_iff.mp h).1]; exact h
mutual
theorem Rep.mono (f : fY K H H' ρ ρ') : ∀ (d : D) (v : V), Rep K mg ρ H d v → Rep K mg ρ' H' d v
 | .kr, v, h => by unfold Rep at h ⊢; exact h
 | .bl b, v, h => by unfold Rep at h ⊢; exact h
 | .int i, v, h => by unfold Rep at h ⊢; exact h
 | .str x, v, h => by unfold Rep at h ⊢; exact h
 | .tup ds, v, h => by
  unfold Rep at h ⊢
  obtain ⟨a, xs, e, s, r⟩ := h
  exact ⟨a, xs, e, f.tup _ _ s, aG.mono f ds xs r⟩
 | .con ds, v, h => by
  unfold Rep at h ⊢
  obtain ⟨a, xs, e, s, r⟩ := h
  exact ⟨a, xs, e, f.con _ _ s, aG.mono f ds xs r⟩
 | .obj n, v, h => by
  unfold Rep at h ⊢
  obtain ⟨a, e, r⟩ := h
  exact ⟨a, e, f.get r⟩
 | .fn x, v, h => by unfold Rep at h ⊢; exact h
 | .zM c as, v, h => by
  unfold Rep at h ⊢
  obtain ⟨a, cv, e, m, r⟩ := h
  exact ⟨a, cv, e, m, f.ext _ _ r⟩
theorem aG.mono (f : fY K H H' ρ ρ') : ∀ (ds : List D) (vs : List V), aG K mg ρ H ds vs → aG K mg ρ' H' ds vs
 | [], vs, h => by unfold aG at h ⊢; exact h
 | d :: ds, vs, h => by
  unfold aG at h ⊢
  obtain ⟨v, r, e, h1, h2⟩ := h
  exact ⟨v, r, e, Rep.mono f d v h1, aG.mono f ds r h2⟩
end
theorem aG.length : ∀ {ds : List D} {vs : List V}, aG K mg ρ H ds vs → ds.length = vs.length
 | [], vs, h => by unfold aG at h; subst h; rfl
 | d :: ds, vs, h => by
  unfold aG at h
  obtain ⟨v, r, rfl, _, h2⟩ := h
  simp [aG.length h2]
theorem aG.nil : aG K mg ρ H [] [] := by unfold aG; rfl
theorem aG.cons {d : D} {v : V} {ds : List D} {vs : List V} (h : Rep K mg ρ H d v) (t : aG K mg ρ H ds vs) : aG K mg ρ H (d :: ds) (v :: vs) := by
 unfold aG; exact ⟨v, vs, rfl, h, t⟩
theorem aG.get : ∀ {ds : List D} {vs : List V} {i : Nat} {d : D}, aG K mg ρ H ds vs → ds[i]? = some d → ∃ v, vs[i]? = some v ∧ Rep K mg ρ H d v
 | [], vs, i, d, h, e => by simp at e
 | x :: ds, vs, 0, d, h, e => by
  unfold aG at h
  obtain ⟨v, r, rfl, h1, _⟩ := h
  simp at e; subst e
  exact ⟨v, rfl, h1⟩
 | x :: ds, vs, i + 1, d, h, e => by
  unfold aG at h
  obtain ⟨v, r, rfl, _, h2⟩ := h
  obtain ⟨u, e1, e2⟩ := aG.get (i := i) (d := d) h2 (by simpa using e)
  exact ⟨u, by simpa using e1, e2⟩
theorem aG.append : ∀ {ds es : List D} {vs us : List V}, aG K mg ρ H ds vs → aG K mg ρ H es us → aG K mg ρ H (ds ++ es) (vs ++ us)
 | [], es, vs, us, h, h' => by unfold aG at h; subst h; exact h'
 | d :: ds, es, vs, us, h, h' => by
  unfold aG at h
  obtain ⟨v, r, rfl, h1, h2⟩ := h
  exact .cons h1 (aG.append h2 h')
theorem aG.take : ∀ (n : Nat) {ds : List D} {vs : List V}, aG K mg ρ H ds vs → aG K mg ρ H (ds.take n) (vs.take n)
 | 0, _, _, _ => by simpa using aG.nil
 | n + 1, [], vs, h => by unfold aG at h; subst h; simpa using aG.nil
 | n + 1, d :: ds, vs, h => by
  unfold aG at h
  obtain ⟨v, r, rfl, h1, h2⟩ := h
  exact .cons h1 (aG.take n h2)
theorem aG.drop : ∀ (n : Nat) {ds : List D} {vs : List V}, aG K mg ρ H ds vs → aG K mg ρ H (ds.drop n) (vs.drop n)
 | 0, _, _, h => by simpa using h
 | n + 1, [], vs, h => by unfold aG at h; subst h; simpa using aG.nil
 | n + 1, d :: ds, vs, h => by
  unfold aG at h
  obtain ⟨v, r, rfl, h1, h2⟩ := h
  simpa using aG.drop n h2
theorem aG.ints : ∀ (ns : List Int), aG K mg ρ H (ns.map D.int) (ns.map V.int)
 | [] => .nil
 | n :: ns => .cons (by unfold Rep; rfl) (aG.ints ns)
end
noncomputable def KD (K : PySem.W.Frag) (mg : Str → Option Value) (ρ : List Addr) (H : Hp) (a : Addr) : DO → Prop
 | .lst ds => ∃ xs, H a = some (.lst xs) ∧ aG K mg ρ H ds xs
 | .dead => ∃ o, H a = some o
 | .dct kvs => ∃ xs, H a = some (.dK ((kvs.map (·.1)).zip xs)) ∧ aG K mg ρ H (kvs.map (·.2)) xs
structure lO (K : PySem.W.Frag) (mg : Str → Option Value) (H : Hp) (ρ : List Addr) (G : DH) : Prop where
 hl : ρ.length = G.length
 nd : ρ.Nodup
 ob : ∀ (n : Nat) (o : DO), G[n]? = some o → ∃ a, ρ[n]? = some a ∧ KD K mg ρ H a o
noncomputable def yW (K : PySem.W.Frag) (mg : Str → Option Value) (H : Hp) (ρ : List Addr) (σ : St) (τ : DS) : Prop :=
 σ.length = τ.length ∧ ∀ (i : Nat) (d : D), τ[i]? = some (some d) → ∃ v, σ[i]? = some (some v) ∧ Rep K mg ρ H d v
structure Ab (K : PySem.W.Frag) (mg : Str → Option Value) (σ : St) (H : Hp) (τ : DS) (ρ : List Addr) (G : DH) : Prop where
 st : yW K mg H ρ σ τ
 hp : lO K mg H ρ G
section
variable {K : PySem.W.Frag} {mg : Str → Option Value} {H H' H1 H2 : Hp} {ρ ρ' ρ1 ρ2 : List Addr} {G G' : DH} {σ : L2.St} {τ : DS}
theorem yW.mono (f : fY K H H' ρ ρ') (h : yW K mg H ρ σ τ) : yW K mg H' ρ' σ τ := ⟨h.1, fun i d e => by
 obtain ⟨v, e1, r⟩ := h.2 i d e
 exact ⟨v, e1, r.mono f⟩⟩
theorem yW.set {i : Nat} {d : D} {v : V} (h : yW K mg H ρ σ τ) (r : Rep K mg ρ H d v) : yW K mg H ρ (σ.set i (some v)) (τ.set i (some d)) := by
 refine ⟨by simp [h.1], fun j e he => ?_⟩
 by_cases hj : i = j
 ·subst hj
  rw [List.getElem?_set] at he
  by_cases hi : i < τ.length
  ·rw [if_pos rfl, if_pos hi] at he
   cases he
   exact ⟨v, by rw [List.getElem?_set, if_pos rfl, if_pos (by rw [h.1]; exact hi)], r⟩
  ·rw [if_pos rfl, if_neg hi] at he
   cases he
 ·rw [List.getElem?_set_ne hj] at he
  obtain ⟨u, e1, r1⟩ := h.2 j e he
  exact ⟨u, by rw [List.getElem?_set_ne hj]; exact e1, r1⟩
theorem Ab.fut (ab : Ab K mg σ H τ ρ G) (f : fY K H H' ρ ρ') (hp : lO K mg H' ρ' G') : Ab K mg σ H' τ ρ' G' := ⟨ab.st.mono f, hp⟩
theorem lO.lst {n : Nat} {ds : List D} (h : lO K mg H ρ G) (e : G[n]? = some (.lst ds)) : ∃ a xs, ρ[n]? = some a ∧ H a = some (.lst xs) ∧ aG K mg ρ H ds xs := by
 obtain ⟨a, e1, xs, e2, r⟩ := h.ob n _ e
 exact ⟨a, xs, e1, e2, r⟩
theorem lO.there {n : Nat} {a : Addr} (h : lO K mg H ρ G) (e : ρ[n]? = some a) : ∃ o, H a = some o := by
 have hn : n < G.length := by rw [← h.hl]; exact (List.getElem?_eq_some_iff.mp e).1
 obtain ⟨a', e1, r⟩ := h.ob n G[n] (List.getElem?_eq_getElem hn)
 rw [e] at e1; cases e1
 cases hg : G[n] with
 | lst xs => rw [hg] at r; obtain ⟨ys, e2, _⟩ := r; exact ⟨_, e2⟩
 | dead => rw [hg] at r; exact r
 | dct kv => rw [hg] at r; obtain ⟨ys, e2, _⟩ := r; exact ⟨_, e2⟩
theorem lO.not_mem {p : Addr} (h : lO K mg H ρ G) (hp : H p = none) : p ∉ ρ := fun hm => by
 obtain ⟨n, hn, e⟩ := List.getElem_of_mem hm
 obtain ⟨o, q⟩ := h.there (n := n) (a := p) (by rw [List.getElem?_eq_getElem hn, e])
 rw [hp] at q; cases q
theorem KD.mono {a : Addr} {o : DO} (f : fY K H H' ρ ρ') (he : ∀ u, H a = some u → H' a = some u) (h : KD K mg ρ H a o) : KD K mg ρ' H' a o := by
 cases o with
 | lst ds =>
  obtain ⟨xs, e, r⟩ := h
  exact ⟨xs, he _ e, r.mono f⟩
 | dead =>
  obtain ⟨o, e⟩ := h
  exact ⟨o, he _ e⟩
 | dct kv =>
  obtain ⟨xs, e, r⟩ := h
  exact ⟨xs, he _ e, r.mono f⟩
theorem lT {p : Addr} {o : HO} (hp : H p = none) (ρ : List Addr) : fY K H (upd H p o) ρ ρ := by
 refine ⟨fun a xs h => ?_, fun a xs h => ?_, ⟨[], by simp⟩, fun a φ h => by rw [bL (e8 h hp)]; exact h⟩
 ·rcases h with (h | ⟨q, h⟩) | h
  ·exact .inl (.inl (by rw [bL (e8 h hp)]; exact h))
  ·exact .inl (.inr ⟨q, by rw [bL (e8 h hp)]; exact h⟩)
  ·exact .inr h
 ·rcases h with ⟨q, h⟩ | h
  ·exact .inl ⟨q, by rw [bL (e8 h hp)]; exact h⟩
  ·exact .inr h
theorem AI {p : Addr} {xs ys : List V} (hp : H p = some (.lst xs)) (ρ : List Addr) : fY K H (upd H p (.lst ys)) ρ ρ := by
 refine ⟨fun a zs h => ?_, fun a zs h => ?_, ⟨[], by simp⟩, fun a φ h => by rw [bL (mP h hp (by intro z; cases z))]; exact h⟩
 ·rcases h with (h | ⟨q, h⟩) | h
  ·exact .inl (.inl (by rw [bL (mP h hp (by intro z; cases z))]; exact h))
  ·exact .inl (.inr ⟨q, by rw [bL (mP h hp (by intro z; cases z))]; exact h⟩)
  ·exact .inr h
 ·rcases h with ⟨q, h⟩ | h
  ·exact .inl ⟨q, by rw [bL (mP h hp (by intro z; cases z))]; exact h⟩
  ·exact .inr h
theorem lO.new {p : Addr} {o : HO} (h : lO K mg H ρ G) (hp : H p = none) : lO K mg (upd H p o) ρ G :=
 ⟨h.hl, h.nd, fun n ob e => by
  obtain ⟨a, e1, r⟩ := h.ob n ob e
  exact ⟨a, e1, r.mono (lT hp ρ) fun u q => by rw [bL (e8 q hp)]; exact q⟩⟩
theorem cT {α : Type} (l : List α) (a : α) : (l ++ [a])[l.length]? = some a := by simp
theorem pG (ρ : List Addr) (p : Addr) : fY K H H ρ (ρ ++ [p]) := ⟨fun _ _ h => h, fun _ _ h => h, ⟨[p], rfl⟩, fun _ _ h => h⟩
theorem lO.more {p : Addr} {ds : List D} {xs : List V} (h : lO K mg H ρ G) (hp : H p = none) (r : aG K mg ρ H ds xs) : lO K mg (upd H p (.lst xs)) (ρ ++ [p]) (G ++ [.lst ds]) := by
 have f : fY K H (upd H p (.lst xs)) ρ (ρ ++ [p]) := (lT hp ρ).trans (pG ρ p)
 refine ⟨by simp [h.hl], ?_, fun n ob e => ?_⟩
 ·rw [List.nodup_append]
  refine ⟨h.nd, by simp, fun a ha b hb => ?_⟩
  have e : b = p := by simpa using hb
  subst e
  rintro rfl
  exact h.not_mem hp ha
 ·by_cases hn : n < G.length
  ·rw [List.getElem?_append_left hn] at e
   obtain ⟨a, e1, r'⟩ := h.ob n ob e
   exact ⟨a, f.get e1, r'.mono f fun u q => by rw [bL (e8 q hp)]; exact q⟩
  ·have hl : n < (G ++ [DO.lst ds]).length := (List.getElem?_eq_some_iff.mp e).1
   have hn' : n = G.length := by simp at hl; omega
   subst hn'
   rw [cT] at e
   cases e
   refine ⟨p, by rw [← h.hl, cT], xs, gB, r.mono f⟩
theorem lO.put {n : Nat} {a : Addr} {ds es : List D} {xs ys : List V} (h : lO K mg H ρ G) (hn : ρ[n]? = some a) (ha : H a = some (.lst xs)) (r : aG K mg ρ H es ys) : lO K mg (upd H a (.lst ys)) ρ (G.set n (.lst es)) := by
 have f : fY K H (upd H a (.lst ys)) ρ ρ := AI ha ρ
 refine ⟨by simp [h.hl], h.nd, fun m ob e => ?_⟩
 by_cases hm : n = m
 ·subst hm
  rw [List.getElem?_set, if_pos rfl] at e
  split at e
  ·cases e
   exact ⟨a, hn, ys, gB, r.mono f⟩
  ·cases e
 ·rw [List.getElem?_set_ne hm] at e
  obtain ⟨b, e1, r'⟩ := h.ob m ob e
  have hb : b ≠ a := by
   rintro rfl
   obtain ⟨h1, JY⟩ := List.getElem?_eq_some_iff.mp hn
   obtain ⟨h2, JZ⟩ := List.getElem?_eq_some_iff.mp e1
   exact hm ((List.getElem_inj h.nd).mp (JY.trans JZ.symm))
  exact ⟨b, e1, r'.mono f fun u q => by rw [bL hb]; exact q⟩
end
noncomputable abbrev gK := XD → St → Hp → Prop
section
variable (K : PySem.W.Frag) (mg : Str → Option Value) (EE : gK)
noncomputable def mO (H : Hp) (σ : St) (τ : DS) (ρ : List Addr) : Out D → VK → Prop
 | .stuck, _ => False
 | .ok d G', Q => ∀ v H' ρ', fY K H H' ρ ρ' → Ab K mg σ H' τ ρ' G' → Rep K mg ρ' H' d v → Q v H'
 | .fR c G', _ => ∀ H' ρ', fY K H H' ρ ρ' → Ab K mg σ H' τ ρ' G' → EE c σ H'
noncomputable def KG (H : Hp) (σ : St) (τ : DS) (ρ : List Addr) : Out Bool → (Bool → Hp → Prop) → Prop
 | .stuck, _ => False
 | .ok b G', Q => ∀ H' ρ', fY K H H' ρ ρ' → Ab K mg σ H' τ ρ' G' → Q b H'
 | .fR c G', _ => ∀ H' ρ', fY K H H' ρ ρ' → Ab K mg σ H' τ ρ' G' → EE c σ H'
noncomputable def PD (H : Hp) (σ : St) (τ : DS) (ρ : List Addr) : Out (List D) → (List V → Hp → Prop) → Prop
 | .stuck, _ => False
 | .ok ds G', Q => ∀ vs H' ρ', fY K H H' ρ ρ' → Ab K mg σ H' τ ρ' G' → aG K mg ρ' H' ds vs → Q vs H'
 | .fR c G', _ => ∀ H' ρ', fY K H H' ρ ρ' → Ab K mg σ H' τ ρ' G' → EE c σ H'
noncomputable def eV (m : DS → M D) : TE := fun σ H Q => ∃ τ ρ G, Ab K mg σ H τ ρ G ∧ mO K mg EE H σ τ ρ (m τ G) Q
noncomputable def liftT (m : DS → M Bool) : TT := fun σ H Q => ∃ τ ρ G, Ab K mg σ H τ ρ G ∧ KG K mg EE H σ τ ρ (m τ G) Q
noncomputable def vG (m : DS → M (List D)) : TA := fun σ H Q => ∃ τ ρ G, Ab K mg σ H τ ρ G ∧ PD K mg EE H σ τ ρ (m τ G) Q
inductive Res where
 | stuck
 | nx (τ : DS) (G : DH)
 | rt (d : D) (G : DH)
 | bk (τ : DS) (G : DH)
 | ct (τ : DS) (G : DH)
 | xn (c : XD) (τ : DS) (G : DH)
noncomputable def yX (H : Hp) (ρ : List Addr) (Dd : Ends) : Res → Prop
 | .stuck => False
 | .nx τ G => ∀ σ' H' ρ', fY K H H' ρ ρ' → Ab K mg σ' H' τ ρ' G → Dd.nx σ' H'
 | .bk τ G => ∀ σ' H' ρ', fY K H H' ρ ρ' → Ab K mg σ' H' τ ρ' G → Dd.bk σ' H'
 | .ct τ G => ∀ σ' H' ρ', fY K H H' ρ ρ' → Ab K mg σ' H' τ ρ' G → Dd.ct σ' H'
 | .rt d G => ∀ v H' ρ', fY K H H' ρ ρ' → lO K mg H' ρ' G → Rep K mg ρ' H' d v → Dd.rt v H'
 | .xn c τ G => ∀ σ' H' ρ', fY K H H' ρ ρ' → Ab K mg σ' H' τ ρ' G → EE c σ' H'
noncomputable abbrev MS := DS → DH → Res
noncomputable def kT (m : MS) : TS := fun Dd σ H => ∃ τ ρ G, Ab K mg σ H τ ρ G ∧ yX K mg EE H ρ Dd (m τ G)
end
section
variable {K : PySem.W.Frag} {mg : Str → Option Value} {EE : gK} {H H1 : Hp} {σ : L2.St} {τ : DS} {ρ ρ1 : List Addr}
theorem mO.fut {r : Out D} {Q : VK} (f : fY K H H1 ρ ρ1) (h : mO K mg EE H σ τ ρ r Q) : mO K mg EE H1 σ τ ρ1 r Q := by
 cases r with
 | stuck => exact h
 | ok d G' => exact fun v H' ρ' f' => h v H' ρ' (f.trans f')
 | fR c G' => exact fun H' ρ' f' => h H' ρ' (f.trans f')
theorem KG.fut {r : Out Bool} {Q : Bool → Hp → Prop} (f : fY K H H1 ρ ρ1) (h : KG K mg EE H σ τ ρ r Q) : KG K mg EE H1 σ τ ρ1 r Q := by
 cases r with
 | stuck => exact h
 | ok d G' => exact fun H' ρ' f' => h H' ρ' (f.trans f')
 | fR c G' => exact fun H' ρ' f' => h H' ρ' (f.trans f')
theorem PD.fut {r : Out (List D)} {Q : List V → Hp → Prop} (f : fY K H H1 ρ ρ1) (h : PD K mg EE H σ τ ρ r Q) : PD K mg EE H1 σ τ ρ1 r Q := by
 cases r with
 | stuck => exact h
 | ok d G' => exact fun v H' ρ' f' => h v H' ρ' (f.trans f')
 | fR c G' => exact fun H' ρ' f' => h H' ρ' (f.trans f')
theorem yX.fut {r : Res} {Dd : Ends} (f : fY K H H1 ρ ρ1) (h : yX K mg EE H ρ Dd r) : yX K mg EE H1 ρ1 Dd r := by
 cases r with
 | stuck => exact h
 | nx τ G => exact fun s H' ρ' f' => h s H' ρ' (f.trans f')
 | bk τ G => exact fun s H' ρ' f' => h s H' ρ' (f.trans f')
 | ct τ G => exact fun s H' ρ' f' => h s H' ρ' (f.trans f')
 | rt d G => exact fun s H' ρ' f' => h s H' ρ' (f.trans f')
 | xn c τ G => exact fun s H' ρ' f' => h s H' ρ' (f.trans f')
theorem mw {m : DS → M D} {k : DS → D → M D} {Q : VK} (h : eV K mg EE (fun τ => (m τ).bind (k τ)) σ H Q) :
  eV K mg EE m σ H fun x H1 => ∃ τ ρ G d, Ab K mg σ H1 τ ρ G ∧ Rep K mg ρ H1 d x ∧ mO K mg EE H1 σ τ ρ (k τ d G) Q := by
 obtain ⟨τ, ρ, G, ab, ok⟩ := h
 refine ⟨τ, ρ, G, ab, ?_⟩
 dsimp only [M.bind] at ok
 cases e : m τ G with
 | stuck => rw [e] at ok; exact ok
 | fR c G' => rw [e] at ok; exact ok
 | ok d G' => rw [e] at ok; exact fun v H' ρ' f eu r => ⟨τ, ρ', G', d, eu, r, ok.fut f⟩
theorem HM {m : DS → M D} {k : DS → D → M Bool} {Q : Bool → Hp → Prop} (h : liftT K mg EE (fun τ => (m τ).bind (k τ)) σ H Q) :
  eV K mg EE m σ H fun x H1 => ∃ τ ρ G d, Ab K mg σ H1 τ ρ G ∧ Rep K mg ρ H1 d x ∧ KG K mg EE H1 σ τ ρ (k τ d G) Q := by
 obtain ⟨τ, ρ, G, ab, ok⟩ := h
 refine ⟨τ, ρ, G, ab, ?_⟩
 dsimp only [M.bind] at ok
 cases e : m τ G with
 | stuck => rw [e] at ok; exact ok
 | fR c G' => rw [e] at ok; exact ok
 | ok d G' => rw [e] at ok; exact fun v H' ρ' f eu r => ⟨τ, ρ', G', d, eu, r, ok.fut f⟩
theorem DG {m : DS → M Bool} {k : DS → Bool → M Bool} {Q : Bool → Hp → Prop} (h : liftT K mg EE (fun τ => (m τ).bind (k τ)) σ H Q) :
  liftT K mg EE m σ H fun b H1 => ∃ τ ρ G, Ab K mg σ H1 τ ρ G ∧ KG K mg EE H1 σ τ ρ (k τ b G) Q := by
 obtain ⟨τ, ρ, G, ab, ok⟩ := h
 refine ⟨τ, ρ, G, ab, ?_⟩
 dsimp only [M.bind] at ok
 cases e : m τ G with
 | stuck => rw [e] at ok; exact ok
 | fR c G' => rw [e] at ok; exact ok
 | ok d G' => rw [e] at ok; exact fun H' ρ' f eu => ⟨τ, ρ', G', eu, ok.fut f⟩
theorem Ng {m : DS → M D} {k : DS → D → M (List D)} {Q : List V → Hp → Prop} (h : vG K mg EE (fun τ => (m τ).bind (k τ)) σ H Q) :
  eV K mg EE m σ H fun x H1 => ∃ τ ρ G d, Ab K mg σ H1 τ ρ G ∧ Rep K mg ρ H1 d x ∧ PD K mg EE H1 σ τ ρ (k τ d G) Q := by
 obtain ⟨τ, ρ, G, ab, ok⟩ := h
 refine ⟨τ, ρ, G, ab, ?_⟩
 dsimp only [M.bind] at ok
 cases e : m τ G with
 | stuck => rw [e] at ok; exact ok
 | fR c G' => rw [e] at ok; exact ok
 | ok d G' => rw [e] at ok; exact fun v H' ρ' f eu r => ⟨τ, ρ', G', d, eu, r, ok.fut f⟩
theorem xC {m : DS → M (List D)} {k : DS → List D → M D} {Q : VK} (h : eV K mg EE (fun τ => (m τ).bind (k τ)) σ H Q) :
  vG K mg EE m σ H fun x H1 => ∃ τ ρ G d, Ab K mg σ H1 τ ρ G ∧ aG K mg ρ H1 d x ∧ mO K mg EE H1 σ τ ρ (k τ d G) Q := by
 obtain ⟨τ, ρ, G, ab, ok⟩ := h
 refine ⟨τ, ρ, G, ab, ?_⟩
 dsimp only [M.bind] at ok
 cases e : m τ G with
 | stuck => rw [e] at ok; exact ok
 | fR c G' => rw [e] at ok; exact ok
 | ok d G' => rw [e] at ok; exact fun v H' ρ' f eu r => ⟨τ, ρ', G', d, eu, r, ok.fut f⟩
noncomputable def fu {α : Type} (m : M α) (k : α → DH → Res) (x : XD → DH → Res) : DH → Res := fun G => match m G with
 | .stuck => .stuck
 | .ok a G' => k a G'
 | .fR c G' => x c G'
theorem xD {m : DS → M D} {k : DS → D → DH → Res} {Dd : Ends} (h : kT K mg EE (fun τ => fu (m τ) (k τ) fun c G => .xn c τ G) Dd σ H) :
  eV K mg EE m σ H fun x H1 => ∃ τ ρ G d, Ab K mg σ H1 τ ρ G ∧ Rep K mg ρ H1 d x ∧ yX K mg EE H1 ρ Dd (k τ d G) := by
 obtain ⟨τ, ρ, G, ab, ok⟩ := h
 refine ⟨τ, ρ, G, ab, ?_⟩
 dsimp only [fu] at ok
 cases e : m τ G with
 | stuck => rw [e] at ok; exact ok
 | fR c G' => rw [e] at ok; exact fun H' ρ' f eu => ok σ H' ρ' f eu
 | ok d G' => rw [e] at ok; exact fun v H' ρ' f eu r => ⟨τ, ρ', G', d, eu, r, ok.fut f⟩
theorem HN {m : DS → M Bool} {k : DS → Bool → DH → Res} {Dd : Ends} (h : kT K mg EE (fun τ => fu (m τ) (k τ) fun c G => .xn c τ G) Dd σ H) :
  liftT K mg EE m σ H fun b H1 => ∃ τ ρ G, Ab K mg σ H1 τ ρ G ∧ yX K mg EE H1 ρ Dd (k τ b G) := by
 obtain ⟨τ, ρ, G, ab, ok⟩ := h
 refine ⟨τ, ρ, G, ab, ?_⟩
 dsimp only [fu] at ok
 cases e : m τ G with
 | stuck => rw [e] at ok; exact ok
 | fR c G' => rw [e] at ok; exact fun H' ρ' f eu => ok σ H' ρ' f eu
 | ok d G' => rw [e] at ok; exact fun H' ρ' f eu => ⟨τ, ρ', G', eu, ok.fut f⟩
end
noncomputable def QE (X : Cx) (EE : gK) (e : Expr) (m : DS → M D) : Prop := PE X e (eV X.K X.mg EE m)
noncomputable def QT (X : Cx) (EE : gK) (e : Expr) (m : DS → M Bool) : Prop := PT X e (liftT X.K X.mg EE m)
noncomputable def QW (X : Cx) (EE : gK) (e : Expr) (m : DS → M Bool) : Prop := PW X e (liftT X.K X.mg EE m)
noncomputable def QA (X : Cx) (EE : gK) (es : List Expr) (m : DS → M (List D)) : Prop := PA X es (vG X.K X.mg EE m)
noncomputable def QS (X : Cx) (EE : gK) (st : Stmt) (m : MS) : Prop := PS X st (kT X.K X.mg EE m)
noncomputable def ER (X : Cx) (EE : gK) (st : List Stmt) (m : MS) : Prop := Dr X st (kT X.K X.mg EE m)
section
variable {X : Cx}
theorem PE.mono {e : Expr} {t t' : TE} (h : PE X e t) (i : ∀ σ H Q, t' σ H Q → t σ H Q) : PE X e t' := fun pins s σ H Q I q => h pins s σ H Q I (i _ _ _ q)
theorem PT.mono {e : Expr} {t t' : TT} (h : PT X e t) (i : ∀ σ H Q, t' σ H Q → t σ H Q) : PT X e t' := fun pins s σ H Q I q => h pins s σ H Q I (i _ _ _ q)
theorem PA.mono {e : List Expr} {t t' : TA} (h : PA X e t) (i : ∀ σ H Q, t' σ H Q → t σ H Q) : PA X e t' := fun pos pins s σ H Q I q => h pos pins s σ H Q I (i _ _ _ q)
theorem PS.mono {e : Stmt} {t t' : TS} (h : PS X e t) (i : ∀ D σ H, t' D σ H → t D σ H) : PS X e t' := fun pins s σ H D I q => h pins s σ H D I (i _ _ _ q)
theorem Dr.mono {e : List Stmt} {t t' : TS} (h : Dr X e t) (i : ∀ D σ H, t' D σ H → t D σ H) : Dr X e t' := fun pins s σ H D I q => h pins s σ H D I (i _ _ _ q)
end
end L3
end
section
set_option Elab.async false
set_option linter.all false
set_option maxRecDepth 100000
namespace L3
open PySem PySem.Spec L2
section
variable {X : Cx} {EE : gK} {a b c : Expr} {ma mb mc : DS → M D} {pos : Pos}
noncomputable def ai (i : Nat) : DS → M D := fun τ G => match τ[i]? with
 | some (some d) => .ok d G
 | _ => .stuck
noncomputable def eC (d : D) : DS → M D := fun _ => M.ret d
theorem Nh (i : Nat) {x : Str} {pos : Pos} (hN : X.N[i]? = some x := by rfl) (hv : Mw X.env.scope x := by first | exact Or.inl rfl | exact Or.inr (Or.inl rfl) | exact Or.inr (Or.inr rfl)) (hd : (x == ("__debug__" : Str)) = false := by decide)
  (hcd : (x == ("__classdict__" : Str)) = false := by decide) : QE X EE (.Name x pos) (ai i) := PE.mono (Hw hN hv hd hcd) fun σ H Q ⟨τ, ρ, G, ab, ok⟩ => by
 unfold ai at ok
 cases e : τ[i]? with
 | none => rw [e] at ok; exact ok.elim
 | some o =>
  cases o with
  | none => rw [e] at ok; exact ok.elim
  | some d =>
   rw [e] at ok
   obtain ⟨v, e1, r⟩ := ab.st.2 i d e
   exact ⟨v, e1, ok v H ρ .refl ab r⟩
theorem HP {d : D} {v : V} {e : Expr} (h : PE X e (tC v)) (r : ∀ ρ H, Rep X.K X.mg ρ H d v) : QE X EE e (eC d) := PE.mono h fun σ H Q ⟨τ, ρ, G, ab, ok⟩ => ok v H ρ .refl ab (r ρ H)
theorem ak {i : Int} {j pos} : QE X EE (.Constant (.int i) j pos) (eC (.int i)) := HP MA fun _ _ => by unfold Rep; rfl
theorem ES {i : Bool} {j pos} : QE X EE (.Constant (.bool i) j pos) (eC (.bl i)) := HP O5 fun _ _ => by unfold Rep; rfl
theorem cC {x j pos} : QE X EE (.Constant (.str x) j pos) (eC (.str x)) := HP MB fun _ _ => by unfold Rep; rfl
noncomputable def zN (K : PySem.W.Frag) (mg : Str → Option Value) (x : Str) (d : D) : Prop := ∃ u v, mg x = some u ∧ RelV v u ∧ ∀ ρ H, Rep K mg ρ H d v
theorem KH {x : Str} {d : D} {pos : Pos} (h : zN X.K X.mg x d) (hg : Gl X x := by rfl) (hd : (x == ("__debug__" : Str)) = false := by decide) : QE X EE (.Name x pos) (eC d) := by
 obtain ⟨u, v, hm, r, hr⟩ := h
 exact HP (EM hg hm r hd) hr
noncomputable def aC (f : D → D → M D) (ma mb : DS → M D) : DS → M D := fun τ => (ma τ).bind fun x => (mb τ).bind fun y => f x y
noncomputable def HQ (X : Cx) (EE : gK) (r : R2) (f : D → D → M D) : Prop := ∀ (σ : L2.St) (H : Hp) (τ : DS) (ρ : List Addr) (G : DH) (x y : V) (d e : D) (Q : VK),
 Ab X.K X.mg σ H τ ρ G → Rep X.K X.mg ρ H d x → Rep X.K X.mg ρ H e y → mO X.K X.mg EE H σ τ ρ (f d e G) Q → r x y H Q
theorem wW {f : D → D → M D} {r : R2} (hd : HQ X EE r f) {σ : L2.St} {H : Hp} {Q : VK} (h : eV X.K X.mg EE (aC f ma mb) σ H Q) :
  Pd r (eV X.K X.mg EE ma) (eV X.K X.mg EE mb) σ H Q := by
 obtain ⟨τ, ρ, G, ab, ok⟩ := mw (k := fun τ x => (mb τ).bind fun y => f x y) h
 refine ⟨τ, ρ, G, ab, ?_⟩
 cases e : ma τ G with
 | stuck => rw [e] at ok; exact ok
 | fR c G' => rw [e] at ok; exact ok
 | ok d G' =>
  rw [e] at ok
  intro v H' ρ' f' eu r'
  obtain ⟨τ2, ρ2, G2, d2, gf, r2, bD⟩ := ok v H' ρ' f' eu r'
  refine ⟨τ2, ρ2, G2, gf, ?_⟩
  dsimp only [M.bind] at bD
  cases e2 : mb τ2 G2 with
  | stuck => rw [e2] at bD; exact bD
  | fR c G' => rw [e2] at bD; exact bD
  | ok d3 G3 =>
   rw [e2] at bD
   exact fun v3 H3 ρ3 f3 Ge r3 => hd σ H3 τ2 ρ3 G3 v v3 d2 d3 Q Ge (r2.mono f3) r3 (bD.fut f3)
theorem zO {op : Operator} {r : R2} {f : D → D → M D} (ho : pF X (binaryOp op) r) (hd : HQ X EE r f) (ha : QE X EE a ma) (hb : QE X EE b mb) : QE X EE (.BinOp a op b pos) (aC f ma mb) :=
 PE.mono (Pe ho ha hb) fun _ _ _ h => wW hd h
theorem DI {op : CmpOp} {r : R2} {f : D → D → M D} (ho : pF X (compareOp op) r) (hd : HQ X EE r f) (ha : QE X EE a ma) (hb : QE X EE b mb) (hm : behindInMarks op b = false) : QE X EE (.Compare a [op] [b] pos) (aC f ma mb) :=
 PE.mono (Ke ho ha hb hm) fun _ _ _ h => wW hd h
theorem PF {r : R2} {f : D → D → M D} (ho : JX X r) (hd : HQ X EE r f) (ha : QE X EE a ma) (hb : QE X EE b mb) (hs : wV b := by intro _ _; rfl) : QE X EE (.Subscript a b pos) (aC f ma mb) :=
 PE.mono (Py ho ha hb hs) fun _ _ _ h => wW hd h
theorem HQ.or {r r' : R2} {f : D → D → M D} (h : ∀ (σ : L2.St) (H : Hp) (τ : DS) (ρ : List Addr) (G : DH) (x y : V) (d e : D) (Q : VK),
 Ab X.K X.mg σ H τ ρ G → Rep X.K X.mg ρ H d x → Rep X.K X.mg ρ H e y → mO X.K X.mg EE H σ τ ρ (f d e G) Q → r x y H Q ∨ r' x y H Q) : HQ X EE (fun x y H Q => r x y H Q ∨ r' x y H Q) f := h
noncomputable def jS (C : Int → Int → Bool) (g : Int → Int → D) : D → D → M D
 | .int i, .int j => if C i j then M.ret (g i j) else M.stop
 | _, _ => M.stop
theorem ET {C : Int → Int → Bool} {g : Int → Int → D} {d e : D} {G : DH} {σ : L2.St} {H : Hp} {τ : DS} {ρ : List Addr} {Q : VK} (ok : mO X.K X.mg EE H σ τ ρ (jS C g d e G) Q) :
  ∃ i j, d = .int i ∧ e = .int j ∧ C i j = true ∧ mO X.K X.mg EE H σ τ ρ (.ok (g i j) G) Q := by
 cases d <;> cases e <;> try exact ok.elim
 rename_i i j
 dsimp only [jS] at ok
 cases hc : C i j with
 | false => rw [hc] at ok; exact ok.elim
 | true => rw [hc] at ok; exact ⟨i, j, rfl, rfl, hc, ok⟩
theorem wX {C : Int → Int → Bool} {P : Int → Int → Prop} {g : Int → Int → D} {gv : Int → Int → V} (hC : ∀ i j, C i j = true → P i j) (hg : ∀ i j ρ H, Rep X.K X.mg ρ H (g i j) (gv i j)) : HQ X EE (rI P gv) (jS C g) :=
 fun σ H τ ρ G x y d e Q ab r1 r2 ok => by
  obtain ⟨i, j, rfl, rfl, hc, ok⟩ := ET ok
  unfold Rep at r1 r2
  exact ⟨i, j, r1, r2, hC i j hc, ok _ H ρ .refl ab (hg i j ρ H)⟩
theorem tE {g : Int → Int → D} {gv : Int → Int → V} (hg : ∀ i j ρ H, Rep X.K X.mg ρ H (g i j) (gv i j)) : HQ X EE (MN gv) (jS (fun _ _ => true) g) :=
 fun σ H τ ρ G x y d e Q ab r1 r2 ok => by
  obtain ⟨i, j, rfl, rfl, hc, ok⟩ := ET ok
  unfold Rep at r1 r2
  exact ⟨i, j, r1, r2, ok _ H ρ .refl ab (hg i j ρ H)⟩
noncomputable abbrev DJ := jS (fun _ _ => true) fun i j => .int (i - j)
noncomputable abbrev HR := jS (fun i j => (decide (-(2 ^ 64) < i) && decide (i < 2 ^ 64)) || (decide (-(2 ^ 64) < j) && decide (j < 2 ^ 64))) fun i j => .int (i * j)
noncomputable abbrev gp := jS (fun _ j => decide (0 < j) && decide (j < 1073741824)) fun i j => .int (i / j)
noncomputable abbrev eB := jS (fun _ j => decide (0 < j)) fun i j => .int (i % j)
noncomputable abbrev Gf := jS (fun i j => decide (0 ≤ j) && (decide (j ≤ 1000000) && decide (i.natAbs < 2 ^ 64))) fun i j => .int (i ^ j.toNat)
noncomputable abbrev J0 := jS (fun _ _ => true) fun i j => .bl (decide (i < j))
noncomputable abbrev wF := jS (fun _ _ => true) fun i j => .bl (decide (j < i))
theorem uP (ha : QE X EE a ma) (hb : QE X EE b mb) : QE X EE (.BinOp a .Sub b pos) (aC DJ ma mb) := zO MR (tE fun _ _ _ _ => by unfold Rep; rfl) ha hb
theorem AJ (ha : QE X EE a ma) (hb : QE X EE b mb) : QE X EE (.BinOp a .Mult b pos) (aC HR ma mb) := zO MT (wX (fun i j h => by
 simp only [Bool.or_eq_true, Bool.and_eq_true, decide_eq_true_eq] at h; exact h) fun _ _ _ _ => by unfold Rep; rfl) ha hb
theorem gM (ha : QE X EE a ma) (hb : QE X EE b mb) : QE X EE (.BinOp a .FloorDiv b pos) (aC gp ma mb) := zO Kd (wX (fun i j h => by
 simp only [Bool.and_eq_true, decide_eq_true_eq] at h; exact h) fun _ _ _ _ => by unfold Rep; rfl) ha hb
theorem eE (ha : QE X EE a ma) (hb : QE X EE b mb) : QE X EE (.BinOp a .Mod b pos) (aC eB ma mb) := zO MU (wX (fun i j h => of_decide_eq_true h) fun _ _ _ _ => by unfold Rep; rfl) ha hb
theorem HS (ha : QE X EE a ma) (hb : QE X EE b mb) : QE X EE (.BinOp a .Pow b pos) (aC Gf ma mb) := zO MV (wX (fun i j h => by
 simp only [Bool.and_eq_true, decide_eq_true_eq] at h; exact h) fun _ _ _ _ => by unfold Rep; rfl) ha hb
theorem PJ (ha : QE X EE a ma) (hb : QE X EE b mb) : QE X EE (.Compare a [.Gt] [b] pos) (aC wF ma mb) := DI LP (tE fun _ _ _ _ => by unfold Rep; rfl) ha hb (HA _)
noncomputable def bQ (ds : List D) : M D := fun G => if ds.length ≤ sizeLine then .ok (.obj G.length) (G ++ [.lst ds]) else .stuck
noncomputable def eF (ds : List D) : M D := fun G => if ds.length ≤ sizeLine then .ok (.tup ds) G else .stuck
theorem rP {σ : L2.St} {H : Hp} {τ : DS} {ρ : List Addr} {G : DH} {ds : List D} {vs : List V} {Q : VK} (ab : Ab X.K X.mg σ H τ ρ G) (r : aG X.K X.mg ρ H ds vs) (ok : mO X.K X.mg EE H σ τ ρ (bQ ds G) Q) :
  vs.length ≤ sizeLine ∧ ∀ p, H p = none → Q (.ref p) (upd H p (.lst vs)) := by
 unfold bQ at ok
 split at ok
 ·rename_i hl
  rw [r.length] at hl
  refine ⟨hl, fun p hp => ?_⟩
  have f : fY X.K H (upd H p (.lst vs)) ρ (ρ ++ [p]) := (lT hp ρ).trans (pG ρ p)
  refine ok (.ref p) _ (ρ ++ [p]) f (ab.fut f (ab.hp.more hp r)) ?_
  unfold Rep
  exact ⟨p, rfl, by rw [← ab.hp.hl, cT]⟩
 ·exact ok.elim
theorem AK {σ : L2.St} {H : Hp} {τ : DS} {ρ : List Addr} {G : DH} {ds : List D} {vs : List V} {Q : VK} (ab : Ab X.K X.mg σ H τ ρ G) (r : aG X.K X.mg ρ H ds vs) (ok : mO X.K X.mg EE H σ τ ρ (eF ds G) Q) :
  vs.length ≤ sizeLine ∧ ∀ p, H p = none → Q (.ref p) (upd H p (.tup vs)) := by
 unfold eF at ok
 split at ok
 ·rename_i hl
  rw [r.length] at hl
  refine ⟨hl, fun p hp => ?_⟩
  have f : fY X.K H (upd H p (.tup vs)) ρ ρ := lT hp ρ
  refine ok (.ref p) _ ρ f (ab.fut f (ab.hp.new hp)) ?_
  unfold Rep
  exact ⟨p, vs, rfl, .of gB, r.mono f⟩
 ·exact ok.elim
noncomputable def aq : DS → M (List D) := fun _ => M.ret []
noncomputable def af (m : DS → M D) (r : DS → M (List D)) : DS → M (List D) := fun τ => (m τ).bind fun x => (r τ).bind fun xs => M.ret (x :: xs)
theorem aj : QA X EE [] aq := PA.mono HE fun σ H Q ⟨τ, ρ, G, ab, ok⟩ => ok [] H ρ .refl ab .nil
theorem KI {e : Expr} {es : List Expr} {m : DS → M D} {r : DS → M (List D)} (ha : QE X EE e m) (hr : QA X EE es r) (hs : starEach (e :: es) X.env = (false, eval e X.env) :: starEach es X.env := by rfl) : QA X EE (e :: es) (af m r) :=
 PA.mono (AB ha hr hs) fun σ H Q h => by
  obtain ⟨τ, ρ, G, ab, ok⟩ := Ng (k := fun τ x => (r τ).bind fun xs => M.ret (x :: xs)) h
  refine ⟨τ, ρ, G, ab, ?_⟩
  cases e : m τ G with
  | stuck => rw [e] at ok; exact ok
  | fR c G' => rw [e] at ok; exact ok
  | ok d G' =>
   rw [e] at ok
   intro v H' ρ' f' eu r'
   obtain ⟨τ2, ρ2, G2, d2, gf, r2, bD⟩ := ok v H' ρ' f' eu r'
   refine ⟨τ2, ρ2, G2, gf, ?_⟩
   dsimp only [M.bind] at bD
   cases e2 : r τ2 G2 with
   | stuck => rw [e2] at bD; exact bD
   | fR c G' => rw [e2] at bD; exact bD
   | ok d3 G3 =>
    rw [e2] at bD
    exact fun v3 H3 ρ3 f3 Ge r3 => bD (v :: v3) H3 ρ3 f3 Ge (.cons (r2.mono f3) r3)
noncomputable def aA (f : List D → M D) (m : DS → M (List D)) : DS → M D := fun τ => (m τ).bind f
theorem qu {m : DS → M (List D)} {f : List D → M D} {r : List V → Hp → VK → Prop} {σ : L2.St} {H : Hp} {Q : VK}
  (hd : ∀ (H : Hp) (τ : DS) (ρ : List Addr) (G : DH) (xs : List V) (ds : List D), Ab X.K X.mg σ H τ ρ G → aG X.K X.mg ρ H ds xs → mO X.K X.mg EE H σ τ ρ (f ds G) Q → r xs H Q)
  (h : eV X.K X.mg EE (aA f m) σ H Q) : vG X.K X.mg EE m σ H fun xs H1 => r xs H1 Q := by
 obtain ⟨τ, ρ, G, ab, ok⟩ := xC (k := fun _ => f) h
 refine ⟨τ, ρ, G, ab, ?_⟩
 cases e : m τ G with
 | stuck => rw [e] at ok; exact ok
 | fR c G' => rw [e] at ok; exact ok
 | ok d G' =>
  rw [e] at ok
  intro v H' ρ' f' eu r'
  obtain ⟨τ2, ρ2, G2, d2, gf, r2, bD⟩ := ok v H' ρ' f' eu r'
  exact hd H' τ2 ρ2 G2 v d2 gf r2 bD
theorem dM {es : List Expr} {m : DS → M (List D)} {x1} (h : QA X EE es m) : QE X EE (.Tuple es x1 pos) (aA eF m) :=
 PE.mono (M0 h) fun σ H Q h => qu (r := fun xs H1 Q => xs.length ≤ sizeLine ∧ ∀ p, H1 p = none → Q (.ref p) (upd H1 p (.tup xs))) (fun H τ ρ G xs ds ab r ok => AK ab r ok) h
theorem fS {es : List Expr} {m : DS → M (List D)} (h : QA X EE es m) : QE X EE (.List es pos) (aA bQ m) :=
 PE.mono (M3 h) fun σ H Q h => qu (r := fun xs H1 Q => xs.length ≤ sizeLine ∧ ∀ p, H1 p = none → Q (.ref p) (upd H1 p (.lst xs))) (fun H τ ρ G xs ds ab r ok => rP ab r ok) h
noncomputable def CallD (X : Cx) (EE : gK) (r : List V → Hp → VK → Prop) (f : List D → M D) : Prop := ∀ (σ : L2.St) (H : Hp) (τ : DS) (ρ : List Addr) (G : DH) (xs : List V) (ds : List D) (Q : VK),
 Ab X.K X.mg σ H τ ρ G → aG X.K X.mg ρ H ds xs → mO X.K X.mg EE H σ τ ρ (f ds G) Q → r xs H Q
theorem HU {x : Str} {p : Pos} {e : Expr} {es : List Expr} {m : DS → M (List D)} {id : String} {r : List V → Hp → VK → Prop} {f : List D → M D} (hc : iB X (.builtin id) r) (hd : CallD X EE r f) (hm : X.mg x = none) (ha : QA X EE (e :: es) m)
  (hg : Gl X x := by rfl) (hv : bootBuiltins x = some (.builtin id) := by first | rfl | decide) (hn : x ≠ "__name__" := by decide) (hdb : (x == ("__debug__" : Str)) = false := by decide)
  (he : starEach (e :: es) X.env = (false, eval e X.env) :: starEach es X.env := by rfl) (hpl : (backTo pos (starEach es X.env)).any (·.1) = false := by rfl) : QE X EE (.Call (.Name x p) (e :: es) [] pos) (aA f m) :=
 PE.mono (HF hc hg hm hv ha hn hdb he hpl) fun σ H Q h => qu (r := r) (fun H τ ρ G xs ds ab r ok => hd σ H τ ρ G xs ds Q ab r ok) h
theorem Gg {x : Str} {p : Pos} {e : Expr} {es : List Expr} {m : DS → M (List D)} {T : String} {r : List V → Hp → VK → Prop} {f : List D → M D} (hc : iB X (.type T) r) (hd : CallD X EE r f) (hm : X.mg x = none) (ha : QA X EE (e :: es) m)
  (hg : Gl X x := by rfl) (hv : bootBuiltins x = some (.type T) := by first | rfl | decide) (hn : x ≠ "__name__" := by decide) (hdb : (x == ("__debug__" : Str)) = false := by decide)
  (he : starEach (e :: es) X.env = (false, eval e X.env) :: starEach es X.env := by rfl) (hpl : (backTo pos (starEach es X.env)).any (·.1) = false := by rfl) : QE X EE (.Call (.Name x p) (e :: es) [] pos) (aA f m) :=
 PE.mono (Ga hc hg hm hv ha hn hdb he hpl) fun σ H Q h => qu (r := r) (fun H τ ρ G xs ds ab r ok => hd σ H τ ρ G xs ds Q ab r ok) h
noncomputable def nA (f : D → M Bool) (m : DS → M D) : DS → M Bool := fun τ => (m τ).bind f
noncomputable def uQ : D → M Bool
 | .kr => M.ret false
 | .bl b => M.ret b
 | .int i => M.ret (i != 0)
 | .str y => if y.length ≤ sizeLine then M.ret ((y.length : Int) != 0) else M.stop
 | .tup xs => M.ret (!xs.isEmpty)
 | .con xs => M.ret (!xs.isEmpty)
 | .obj n => fun G => match G[n]? with
  | some (.lst xs) => .ok (!xs.isEmpty) G
  | _ => .stuck
 | .fn _ => M.stop
 | .zM _ _ => M.stop
theorem nB {K : PySem.W.Frag} {mg : Str → Option Value} {ρ : List Addr} {H : Hp} {ds : List D} {vs : List V} (r : aG K mg ρ H ds vs) : (!vs.isEmpty) = !ds.isEmpty := by
 have := r.length
 cases ds <;> cases vs <;> first | rfl | (simp at this)
theorem HV {m : DS → M D} {σ : L2.St} {H : Hp} {Q : Bool → Hp → Prop} (h : liftT X.K X.mg EE (nA uQ m) σ H Q) :
  eV X.K X.mg EE m σ H fun x H1 => ∃ k, MY X.K x H1 k ∧ Q k H1 := by
 obtain ⟨τ, ρ, G, ab, ok⟩ := HM (k := fun _ => uQ) h
 refine ⟨τ, ρ, G, ab, ?_⟩
 cases e : m τ G with
 | stuck => rw [e] at ok; exact ok
 | fR c G' => rw [e] at ok; exact ok
 | ok d G' =>
  rw [e] at ok
  intro v H' ρ' f' eu r'
  obtain ⟨τ2, ρ2, G2, d2, gf, r2, bD⟩ := ok v H' ρ' f' eu r'
  cases d2 with
  | kr => unfold Rep at r2; subst r2; exact ⟨false, rfl, bD H' ρ2 .refl gf⟩
  | bl b => unfold Rep at r2; subst r2; exact ⟨b, rfl, bD H' ρ2 .refl gf⟩
  | int i => unfold Rep at r2; subst r2; exact ⟨_, rfl, bD H' ρ2 .refl gf⟩
  | str y =>
   unfold Rep at r2; subst r2
   dsimp only [uQ] at bD
   split at bD
   ·rename_i hl; exact ⟨_, ⟨hl, rfl⟩, bD H' ρ2 .refl gf⟩
   ·exact bD.elim
  | tup xs =>
   unfold Rep at r2
   obtain ⟨p, vs, rfl, sq, rs⟩ := r2
   exact ⟨!vs.isEmpty, .inr (.inl ⟨vs, sq, rfl⟩), by rw [nB rs]; exact bD H' ρ2 .refl gf⟩
  | con xs =>
   unfold Rep at r2
   obtain ⟨p, vs, rfl, sq, rs⟩ := r2
   exact ⟨!vs.isEmpty, .inl ⟨vs, sq.seq, rfl⟩, by rw [nB rs]; exact bD H' ρ2 .refl gf⟩
  | obj n =>
   unfold Rep at r2
   obtain ⟨p, rfl, e1⟩ := r2
   dsimp only [uQ] at bD
   cases q : G2[n]? with
   | none => rw [q] at bD; exact bD.elim
   | some o =>
    cases o with
    | dead => first | (rw [q] at ok; exact ok.elim) | (rw [q] at bD; exact bD.elim) | (rw [q] at e; cases e; done) | (rw [g] at ok; exact ok.elim) | (rw [g] at q; cases q; done) | (rw [g] at h; cases h; done) | (rw [g2] at ok; exact ok.elim) | (rw [g1, g2] at ok; exact ok.elim) | (rw [q1] at ok; exact ok.elim) | exact ok.elim
    | dct kv => first | (rw [q] at ok; exact ok.elim) | (rw [q] at bD; exact bD.elim) | (rw [q] at e; cases e; done) | (rw [g] at ok; exact ok.elim) | (rw [g] at q; cases q; done) | (rw [g] at h; cases h; done) | (rw [g2] at ok; exact ok.elim) | (rw [g1, g2] at ok; exact ok.elim) | (rw [q1] at ok; exact ok.elim) | exact ok.elim
    | lst xs =>
     rw [q] at bD
     obtain ⟨p', vs, e2, hp, rs⟩ := gf.hp.lst q
     rw [e1] at e2; cases e2
     exact ⟨!vs.isEmpty, .inl ⟨vs, .of hp, rfl⟩, by rw [nB rs]; exact bD H' ρ2 .refl gf⟩
  | fn x => exact bD.elim
  | zM c as => exact bD.elim
theorem Ni (ha : QE X EE a ma) (he : ∀ whole, isTrue a X.env whole = (do let v ← whole; standAt a.pos; holding [v] (truthy v)) := by intro _; rfl) : QT X EE a (nA uQ ma) :=
 PT.mono (HB ha he) fun σ H Q h => HV h
end
end L3
end
section
set_option Elab.async false
set_option linter.all false
set_option maxRecDepth 100000
namespace L3
open PySem PySem.Spec L2
noncomputable def fT {α β : Type} (f : α → Option β) : List α → Option (List β)
 | [] => some []
 | a :: r => match f a, fT f r with
  | some b, some bs => some (b :: bs)
  | _, _ => none
noncomputable def oV (G : DH) : Nat → D → Option PyData
 | 0, _ => none
 | _ + 1, .kr => some .none
 | _ + 1, .bl b => some (.bool b)
 | _ + 1, .int i => some (.int i)
 | _ + 1, .str x => some (.str x)
 | n + 1, .tup ds => (fT (oV G n) ds).map .tuple
 | n + 1, .con ds => (fT (oV G n) ds).map .list
 | n + 1, .obj k => match G[k]? with
  | some (.lst ds) => (fT (oV G n) ds).map .list
  | _ => none
 | _ + 1, .fn _ => none
 | _ + 1, .zM _ _ => none
section
variable {X : Cx} {EE : gK} {pins : List (Addr × Obj)} {σ : L2.St} {H : Hp} {s : Shared} {ρ : List Addr} {G : DH}
theorem readsAll {f : D → Option PyData} (hf : ∀ (d : D) (x : V) (u : Value) (p : PyData), Rep X.K X.mg ρ H d x → RelV x u → f d = some p → ∃ as, Reads s.heap u p as) :
  ∀ (ds : List D) (xs : List V) (us : List Value) (ps : List PyData), aG X.K X.mg ρ H ds xs → Vals xs us → fT f ds = some ps → ∃ as, ReadsAll s.heap us ps as
 | [], xs, us, ps, r, v, e => by
  unfold aG at r; subst r
  cases v; cases e
  exact ⟨[], .nil⟩
 | d :: ds, xs, us, ps, r, v, e => by
  unfold aG at r
  obtain ⟨x, r', rfl, h1, h2⟩ := r
  cases v with
  | cons v1 v2 =>
  unfold fT at e
  cases e1 : f d with
  | none => rw [e1] at e; cases e
  | some p =>
   cases e2 : fT f ds with
   | none => rw [e1, e2] at e; cases e
   | some qs =>
    rw [e1, e2] at e
    cases e
    obtain ⟨as, a1⟩ := hf d x _ p h1 v1 e1
    obtain ⟨bs, a2⟩ := readsAll hf ds r' _ qs h2 v2 e2
    exact ⟨as ++ bs, .cons a1 a2⟩
theorem gS (I : Inv X pins σ H s) (hp : lO X.K X.mg H ρ G) : ∀ (n : Nat) (d : D) (x : V) (u : Value) (p : PyData), Rep X.K X.mg ρ H d x → RelV x u → oV G n d = some p → ∃ as, Reads s.heap u p as
 | 0, _, _, _, _, _, _, e => nomatch e
 | n + 1, .kr, x, u, p, r, v, e => by unfold Rep at r; subst r; cases v; cases e; exact ⟨_, .none⟩
 | n + 1, .bl b, x, u, p, r, v, e => by unfold Rep at r; subst r; cases v; cases e; exact ⟨_, .bool b⟩
 | n + 1, .int i, x, u, p, r, v, e => by unfold Rep at r; subst r; obtain ⟨t, rfl⟩ := v; cases e; exact ⟨_, .int i t⟩
 | n + 1, .str y, x, u, p, r, v, e => by unfold Rep at r; subst r; obtain ⟨t, rfl⟩ := v; cases e; exact ⟨_, .str y t⟩
 | n + 1, .tup ds, x, u, p, r, v, e => by
  unfold Rep at r
  obtain ⟨a, xs, rfl, sq, rs⟩ := r
  cases v
  obtain ⟨its, vs, ⟨o, e1, e2, k, e3⟩, _⟩ := I.tuple sq
  unfold oV at e
  cases q : fT (oV G n) ds with
  | none => rw [q] at e; cases e
  | some ps =>
   rw [q] at e; cases e
   obtain ⟨as, ra⟩ := readsAll (fun d x u p => gS I hp n d x u p) ds xs its ps rs vs q
   exact ⟨as, .tuple e1 e2 e3 (by simpa using ra)⟩
 | n + 1, .con ds, x, u, p, r, v, e => by
  unfold Rep at r
  obtain ⟨a, xs, rfl, sq, rs⟩ := r
  cases v
  obtain ⟨its, vs, ⟨o, k, e1, e2, e3, e4⟩, _⟩ := I.list sq.seq
  unfold oV at e
  cases q : fT (oV G n) ds with
  | none => rw [q] at e; cases e
  | some ps =>
   rw [q] at e; cases e
   obtain ⟨as, ra⟩ := readsAll (fun d x u p => gS I hp n d x u p) ds xs its ps rs vs q
   exact ⟨_, .list e1 e2 e4 (by simpa using ra)⟩
 | n + 1, .obj k, x, u, p, r, v, e => by
  unfold Rep at r
  obtain ⟨a, rfl, e0⟩ := r
  cases v
  dsimp only [oV] at e
  cases q : G[k]? with
  | none => rw [q] at e; cases e
  | some o =>
   cases o with
   | dead => first | (rw [q] at ok; exact ok.elim) | (rw [q] at bD; exact bD.elim) | (rw [q] at e; cases e; done) | (rw [g] at ok; exact ok.elim) | (rw [g] at q; cases q; done) | (rw [g] at h; cases h; done) | (rw [g2] at ok; exact ok.elim) | (rw [g1, g2] at ok; exact ok.elim) | (rw [q1] at ok; exact ok.elim) | exact ok.elim
   | dct kv => first | (rw [q] at ok; exact ok.elim) | (rw [q] at bD; exact bD.elim) | (rw [q] at e; cases e; done) | (rw [g] at ok; exact ok.elim) | (rw [g] at q; cases q; done) | (rw [g] at h; cases h; done) | (rw [g2] at ok; exact ok.elim) | (rw [g1, g2] at ok; exact ok.elim) | (rw [q1] at ok; exact ok.elim) | exact ok.elim
   | lst ds =>
    rw [q] at e
    obtain ⟨a', xs, e1, e2, rs⟩ := hp.lst q
    rw [e0] at e1; cases e1
    obtain ⟨its, vs, ⟨o, k, e1, e2, e3, e4⟩, _⟩ := I.list (.of e2)
    dsimp only at e
    cases q : fT (oV G n) ds with
    | none => rw [q] at e; cases e
    | some ps =>
     rw [q] at e; cases e
     obtain ⟨as, ra⟩ := readsAll (fun d x u p => gS I hp n d x u p) ds xs its ps rs vs q
     exact ⟨_, .list e1 e2 e4 (by simpa using ra)⟩
 | n + 1, .fn y, x, u, p, r, v, e => nomatch e
 | n + 1, .zM y _, x, u, p, r, v, e => nomatch e
end
section
variable {X : Cx} {EE : gK} {a b c : Expr} {ma mb mc : DS → M D} {pos : Pos}
noncomputable def rD (X : Cx) (EE : gK) (f : D → D → M D) : R2 := fun x y H Q => ∃ σ τ ρ G d e, Ab X.K X.mg σ H τ ρ G ∧ Rep X.K X.mg ρ H d x ∧ Rep X.K X.mg ρ H e y ∧ mO X.K X.mg EE H σ τ ρ (f d e G) Q
theorem pH {f : D → D → M D} : HQ X EE (rD X EE f) f := fun σ H τ ρ G x y d e Q ab r1 r2 ok => ⟨σ, τ, ρ, G, d, e, ab, r1, r2, ok⟩
theorem PK {f : D → D → M D} {r : R2} (h : HQ X EE r f) {x y : V} {H : Hp} {Q : VK} (q : rD X EE f x y H Q) : r x y H Q := by
 obtain ⟨σ, τ, ρ, G, d, e, ab, r1, r2, ok⟩ := q
 exact h σ H τ ρ G x y d e Q ab r1 r2 ok
noncomputable abbrev deep : Nat := 600
noncomputable def BU (d e : D) (G : DH) : Option Bool := match oV G deep d, oV G deep e with
 | some p, some q => if p.canLay0 && (q.canLay0 && decide (min p.depth q.depth ≤ 580)) then some (PyData.eqv p q) else none
 | _, _ => none
noncomputable def g7 (neg : Bool) (d e : D) : M D := fun G => match BU d e G with
 | some b => .ok (.bl (neg ^^ b)) G
 | none => .stuck
theorem dO (hu : X.A.units + 600 < cLine) : pF X (compareOp .Eq) (rD X EE (g7 false)) := by
 intro pins s σ0 H x y v u Q I rx ry ⟨σ, τ, ρ, G, d, e, ab, r1, r2, ok⟩
 dsimp only [g7, BU] at ok
 cases e1 : oV G deep d with
 | none => rw [e1] at ok; exact ok.elim
 | some p =>
  cases e2 : oV G deep e with
  | none => rw [e1, e2] at ok; exact ok.elim
  | some q =>
   rw [e1, e2] at ok
   dsimp only at ok
   by_cases hc : (p.canLay0 && (q.canLay0 && decide (min p.depth q.depth ≤ 580))) = true
   ·rw [if_pos hc] at ok
    simp only [Bool.and_eq_true, decide_eq_true_eq] at hc
    obtain ⟨as, ra⟩ := gS I ab.hp deep d x v p r1 rx e1
    obtain ⟨bs, rb⟩ := gS I ab.hp deep e y u q r2 ry e2
    refine SeqAt.compareEq_reads ra rb hc.1 hc.2.1 (by omega) ⟨.bl _, H, I, rfl, ?_⟩
    have := ok (.bl _) H ρ .refl ab (by unfold Rep; rfl)
    simpa using this
   ·rw [if_neg hc] at ok; exact ok.elim
theorem uR (hu : X.A.units + 600 < cLine) : pF X (compareOp .NotEq) (rD X EE (g7 true)) := by
 intro pins s σ0 H x y v u Q I rx ry ⟨σ, τ, ρ, G, d, e, ab, r1, r2, ok⟩
 dsimp only [g7, BU] at ok
 cases e1 : oV G deep d with
 | none => rw [e1] at ok; exact ok.elim
 | some p =>
  cases e2 : oV G deep e with
  | none => rw [e1, e2] at ok; exact ok.elim
  | some q =>
   rw [e1, e2] at ok
   dsimp only at ok
   by_cases hc : (p.canLay0 && (q.canLay0 && decide (min p.depth q.depth ≤ 580))) = true
   ·rw [if_pos hc] at ok
    simp only [Bool.and_eq_true, decide_eq_true_eq] at hc
    obtain ⟨as, ra⟩ := gS I ab.hp deep d x v p r1 rx e1
    obtain ⟨bs, rb⟩ := gS I ab.hp deep e y u q r2 ry e2
    refine SeqAt.compareNe_reads ra rb hc.1 hc.2.1 (by omega) ⟨.bl _, H, I, rfl, ?_⟩
    have := ok (.bl _) H ρ .refl ab (by unfold Rep; rfl)
    simpa using this
   ·rw [if_neg hc] at ok; exact ok.elim
theorem PL (hu : X.A.units + 600 < cLine) (ha : QE X EE a ma) (hb : QE X EE b mb) : QE X EE (.Compare a [.Eq] [b] pos) (aC (g7 false) ma mb) := DI (dO hu) pH ha hb (HA _)
inductive PM where
 | lst (xs : List D) | tup (xs : List D) | str (x : Str)
noncomputable def bE (G : DH) : D → Option PM
 | .tup xs => some (.tup xs)
 | .con xs => some (.lst xs)
 | .obj n => match G[n]? with
  | some (.lst xs) => some (.lst xs)
  | _ => none
 | .str x => some (.str x)
 | _ => none
noncomputable def LS (d : D) (ds : List D) (G : DH) : Option Bool := match oV G deep d, fT (oV G deep) ds with
 | some p, some qs => if p.canLay0 && (PyData.canLayAll0 qs && decide (min (PyData.depthAll qs) p.depth ≤ 580)) then some (qs.any fun y => PyData.eqv y p) else none
 | _, _ => none
noncomputable def uK (neg : Bool) (d e : D) : M D := fun G => match bE G e with
 | some (.lst ds) => match LS d ds G with
  | some b => .ok (.bl (neg ^^ b)) G
  | none => .stuck
 | some (.tup ds) => match LS d ds G with
  | some b => .ok (.bl (neg ^^ b)) G
  | none => .stuck
 | some (.str j) => match d with
  | .str i => .ok (.bl (neg ^^ !(Builtin.Str.occurrences j i 0 j.length 1).isEmpty)) G
  | _ => .stuck
 | none => .stuck
theorem dX {pins : List (Addr × Obj)} {σ0 : L2.St} {H : Hp} {s : Shared} {ρ : List Addr} {G : DH} {d : D} {ds : List D} {x : V} (h : lO X.K X.mg H ρ G) (r : Rep X.K X.mg ρ H d x) (e : bE G d = some (.lst ds)) :
  ∃ p xs, x = .ref p ∧ pD X.K H p xs ∧ aG X.K X.mg ρ H ds xs := by
 cases d with
 | con xs =>
  cases e
  unfold Rep at r
  obtain ⟨a, xs, rfl, sq, rs⟩ := r
  exact ⟨a, xs, rfl, sq.seq, rs⟩
 | obj n =>
  unfold Rep at r
  obtain ⟨a, rfl, e0⟩ := r
  dsimp only [bE] at e
  cases q : G[n]? with
  | none => rw [q] at e; cases e
  | some o =>
   cases o with
   | dead => first | (rw [q] at ok; exact ok.elim) | (rw [q] at bD; exact bD.elim) | (rw [q] at e; cases e; done) | (rw [g] at ok; exact ok.elim) | (rw [g] at q; cases q; done) | (rw [g] at h; cases h; done) | (rw [g2] at ok; exact ok.elim) | (rw [g1, g2] at ok; exact ok.elim) | (rw [q1] at ok; exact ok.elim) | exact ok.elim
   | dct kv => first | (rw [q] at ok; exact ok.elim) | (rw [q] at bD; exact bD.elim) | (rw [q] at e; cases e; done) | (rw [g] at ok; exact ok.elim) | (rw [g] at q; cases q; done) | (rw [g] at h; cases h; done) | (rw [g2] at ok; exact ok.elim) | (rw [g1, g2] at ok; exact ok.elim) | (rw [q1] at ok; exact ok.elim) | exact ok.elim
   | lst ys =>
    rw [q] at e; cases e
    obtain ⟨a', xs, e1, e2, rs⟩ := h.lst q
    rw [e0] at e1; cases e1
    exact ⟨a, xs, rfl, .of e2, rs⟩
 | _ => cases e
theorem iV {H : Hp} {ρ : List Addr} {G : DH} {d : D} {ds : List D} {x : V} (r : Rep X.K X.mg ρ H d x) (e : bE G d = some (.tup ds)) :
  ∃ p xs, x = .ref p ∧ qS X.K H p xs ∧ aG X.K X.mg ρ H ds xs := by
 cases d with
 | tup xs =>
  cases e
  unfold Rep at r
  obtain ⟨a, xs, rfl, sq, rs⟩ := r
  exact ⟨a, xs, rfl, sq, rs⟩
 | obj n =>
  dsimp only [bE] at e
  cases q : G[n]? with
  | none => rw [q] at e; cases e
  | some o => cases o <;> (rw [q] at e; cases e)
 | _ => cases e
theorem qv {H : Hp} {ρ : List Addr} {G : DH} {d : D} {y : Str} {x : V} (r : Rep X.K X.mg ρ H d x) (e : bE G d = some (.str y)) : d = .str y ∧ x = .str y := by
 cases d with
 | str z => cases e; unfold Rep at r; exact ⟨rfl, r⟩
 | obj n =>
  dsimp only [bE] at e
  cases q : G[n]? with
  | none => rw [q] at e; cases e
  | some o => cases o <;> (rw [q] at e; cases e)
 | _ => cases e
theorem Nj {pins : List (Addr × Obj)} {σ0 : L2.St} {H : Hp} {s : Shared} {ρ : List Addr} {G : DH} {p : Addr} {xs : List V} {ds : List D} {qs : List PyData} (I : Inv X pins σ0 H s) (hp : lO X.K X.mg H ρ G) (sq : pD X.K H p xs) (rs : aG X.K X.mg ρ H ds xs)
  (e : fT (oV G deep) ds = some qs) : ∃ as, Reads s.heap (.ref p) (.list qs) as := by
 obtain ⟨its, vs, ⟨o, k, e1, e2, e3, e4⟩, _⟩ := I.list sq
 obtain ⟨as, ra⟩ := readsAll (fun d x u p => gS I hp deep d x u p) ds xs its qs rs vs e
 exact ⟨_, .list e1 e2 e4 (by simpa using ra)⟩
theorem Nl {pins : List (Addr × Obj)} {σ0 : L2.St} {H : Hp} {s : Shared} {ρ : List Addr} {G : DH} {p : Addr} {xs : List V} {ds : List D} {qs : List PyData} (I : Inv X pins σ0 H s) (hp : lO X.K X.mg H ρ G) (sq : qS X.K H p xs) (rs : aG X.K X.mg ρ H ds xs)
  (e : fT (oV G deep) ds = some qs) : ∃ as, Reads s.heap (.ref p) (.tuple qs) as := by
 obtain ⟨its, vs, ⟨o, e1, e2, k, e3⟩, _⟩ := I.tuple sq
 obtain ⟨as, ra⟩ := readsAll (fun d x u p => gS I hp deep d x u p) ds xs its qs rs vs e
 exact ⟨_, .tuple e1 e2 e3 (by simpa using ra)⟩
theorem BV {d : D} {ds : List D} {G : DH} {b : Bool} (h : LS d ds G = some b) : ∃ p qs, oV G deep d = some p ∧ fT (oV G deep) ds = some qs ∧ p.canLay0 = true ∧ PyData.canLayAll0 qs = true ∧ min (PyData.depthAll qs) p.depth ≤ 580 ∧ b = qs.any fun y => PyData.eqv y p := by
 unfold LS at h
 cases e1 : oV G deep d with
 | none => rw [e1] at h; cases h
 | some p =>
  cases e2 : fT (oV G deep) ds with
  | none => rw [e1, e2] at h; cases h
  | some qs =>
   rw [e1, e2] at h
   dsimp only at h
   by_cases hc : (p.canLay0 && (PyData.canLayAll0 qs && decide (min (PyData.depthAll qs) p.depth ≤ 580))) = true
   ·rw [if_pos hc] at h
    simp only [Bool.and_eq_true, decide_eq_true_eq] at hc
    exact ⟨p, qs, rfl, rfl, hc.1, hc.2.1, hc.2.2, (Option.some.inj h).symm⟩
   ·rw [if_neg hc] at h; cases h
theorem rQ (hu : X.A.units + 600 < cLine) : pF X (compareOp .In) (rD X EE (uK false)) := by
 intro pins s σ0 H x y v u Q I rx ry ⟨σ, τ, ρ, G, d, e, ab, r1, r2, ok⟩
 dsimp only [uK] at ok
 cases q : bE G e with
 | none => rw [q] at ok; exact ok.elim
 | some sk =>
  rw [q] at ok
  cases sk with
  | lst ds =>
   dsimp only at ok
   cases qb : LS d ds G with
   | none => rw [qb] at ok; exact ok.elim
   | some b =>
    rw [qb] at ok
    obtain ⟨p, qs, e1, e2, h1, h2, h3, rfl⟩ := BV qb
    obtain ⟨l, xs, rfl, sq, rs⟩ := dX (pins := pins) (σ0 := σ0) (s := s) ab.hp r2 q
    cases ry
    obtain ⟨as, ra⟩ := gS I ab.hp deep d x v p r1 rx e1
    obtain ⟨bs, rb⟩ := Nj I ab.hp sq rs e2
    refine SeqAt.in_list_reads rb ra h2 h1 (by omega) ⟨.bl _, H, I, rfl, ?_⟩
    have := ok (.bl _) H ρ .refl ab (by unfold Rep; rfl)
    simpa using this
  | tup ds =>
   dsimp only at ok
   cases qb : LS d ds G with
   | none => rw [qb] at ok; exact ok.elim
   | some b =>
    rw [qb] at ok
    obtain ⟨p, qs, e1, e2, h1, h2, h3, rfl⟩ := BV qb
    obtain ⟨l, xs, rfl, sq, rs⟩ := iV r2 q
    cases ry
    obtain ⟨as, ra⟩ := gS I ab.hp deep d x v p r1 rx e1
    obtain ⟨bs, rb⟩ := Nl I ab.hp sq rs e2
    refine SeqAt.in_tuple_reads rb ra h2 h1 (by omega) ⟨.bl _, H, I, rfl, ?_⟩
    have := ok (.bl _) H ρ .refl ab (by unfold Rep; rfl)
    simpa using this
  | str j =>
   obtain ⟨rfl, rfl⟩ := qv r2 q
   cases d with
   | str i =>
    unfold Rep at r1; subst r1
    refine FU pins s σ0 H _ _ v u Q I rx ry ⟨i, j, rfl, rfl, ?_⟩
    have := ok (.bl _) H ρ .refl ab (by unfold Rep; rfl)
    simpa using this
   | _ => exact ok.elim
theorem PN (hu : X.A.units + 600 < cLine) (ha : QE X EE a ma) (hb : QE X EE b mb) (hm : behindInMarks .In b = false := by first | rfl | (with_unfolding_all rfl)) : QE X EE (.Compare a [.In] [b] pos) (aC (uK false) ma mb) := DI (rQ hu) pH ha hb hm
end
end L3
end
section
set_option Elab.async false
set_option linter.all false
set_option maxRecDepth 100000
namespace L3
open PySem PySem.Spec L2
section
variable {X : Cx} {EE : gK} {a b c : Expr} {ma mb mc : DS → M D} {pos : Pos}
noncomputable def cX (d e : D) : M D := fun G => match e with
 | .int i => match bE G d with
  | some (.lst xs) => match j8 xs i with
   | some v => .ok v G
   | none => .stuck
  | some (.tup xs) => match j8 xs i with
   | some v => .ok v G
   | none => .stuck
  | some (.str z) => if z.length ≤ sizeLine then (match j8 z.cps.toList i with
   | some c => .ok (.str ⟨#[c]⟩) G
   | none => .stuck) else .stuck
  | none => .stuck
 | _ => .stuck
theorem BW {K : PySem.W.Frag} {mg : Str → Option Value} {ρ : List Addr} {H : Hp} {ds : List D} {vs : List V} {i : Int} {d : D} (r : aG K mg ρ H ds vs) (h : j8 ds i = some d) : ∃ v, j8 vs i = some v ∧ Rep K mg ρ H d v := by
 unfold j8 at h ⊢
 rw [← r.length]
 cases e : LR ds.length i with
 | none => rw [e] at h; cases h
 | some j =>
  rw [e] at h
  obtain ⟨v, e1, e2⟩ := r.get (show ds[j]? = some d from h)
  exact ⟨v, e1, e2⟩
theorem T3 : JX X (rD X EE cX) := by
 intro value slice pins s σ0 H x y v u Q I rx ry ⟨σ, τ, ρ, G, d, e, ab, r1, r2, ok⟩ hs
 cases e <;> try exact ok.elim
 rename_i i
 unfold Rep at r2; subst r2
 dsimp only [cX] at ok
 cases q : bE G d with
 | none => rw [q] at ok; exact ok.elim
 | some sk =>
  rw [q] at ok
  cases sk with
  | lst ds =>
   dsimp only at ok
   cases qa : j8 ds i with
   | none => rw [qa] at ok; exact ok.elim
   | some z =>
    rw [qa] at ok
    obtain ⟨l, xs, rfl, sq, rs⟩ := dX (pins := pins) (σ0 := σ0) (s := s) ab.hp r1 q
    obtain ⟨w, e1, e2⟩ := BW rs qa
    exact Kp value slice pins s σ0 H _ _ v u Q I rx ry ⟨l, xs, i, w, rfl, rfl, sq, e1, ok w H ρ .refl ab e2⟩ hs
  | tup ds =>
   dsimp only at ok
   cases qa : j8 ds i with
   | none => rw [qa] at ok; exact ok.elim
   | some z =>
    rw [qa] at ok
    obtain ⟨l, xs, rfl, sq, rs⟩ := iV r1 q
    obtain ⟨w, e1, e2⟩ := BW rs qa
    exact M9 value slice pins s σ0 H _ _ v u Q I rx ry ⟨l, xs, i, w, rfl, rfl, sq, e1, ok w H ρ .refl ab e2⟩ hs
  | str z =>
   dsimp only at ok
   obtain ⟨rfl, rfl⟩ := qv r1 q
   by_cases hz : z.length ≤ sizeLine
   ·rw [if_pos hz] at ok
    cases qa : j8 z.cps.toList i with
    | none => rw [qa] at ok; exact ok.elim
    | some c =>
     rw [qa] at ok
     exact Na value slice pins s σ0 H _ _ v u Q I rx ry ⟨z, i, c, rfl, rfl, hz, qa, ok _ H ρ .refl ab (by unfold Rep; rfl)⟩ hs
   ·rw [if_neg hz] at ok; exact ok.elim
theorem HW (ha : QE X EE a ma) (hb : QE X EE b mb) (hs : wV b := by intro _ _; rfl) : QE X EE (.Subscript a b pos) (aC cX ma mb) := PF T3 pH ha hb hs
noncomputable def vH : DS → M (Option Int) := fun _ => M.ret none
noncomputable def iC (m : DS → M D) : DS → M (Option Int) := fun τ => (m τ).bind fun d => match d with
 | .int i => M.ret (some i)
 | _ => M.stop
noncomputable def XU (K : PySem.W.Frag) (mg : Str → Option Value) (EE : gK) (H : Hp) (σ : L2.St) (τ : DS) (ρ : List Addr) : Out (Option Int) → (Option Int → Hp → Prop) → Prop
 | .stuck, _ => False
 | .ok b G', Q => ∀ H' ρ', fY K H H' ρ ρ' → Ab K mg σ H' τ ρ' G' → Q b H'
 | .fR c G', _ => ∀ H' ρ', fY K H H' ρ ρ' → Ab K mg σ H' τ ρ' G' → EE c σ H'
noncomputable def PR (K : PySem.W.Frag) (mg : Str → Option Value) (EE : gK) (m : DS → M (Option Int)) : TO := fun σ H Q => ∃ τ ρ G, Ab K mg σ H τ ρ G ∧ XU K mg EE H σ τ ρ (m τ G) Q
noncomputable def QO (X : Cx) (EE : gK) (e : Option Expr) (m : DS → M (Option Int)) : Prop := PO X e (PR X.K X.mg EE m)
theorem PO.mono {e : Option Expr} {t t' : TO} (h : PO X e t) (i : ∀ σ H Q, t' σ H Q → t σ H Q) : PO X e t' := fun pins s σ H Q I q => h pins s σ H Q I (i _ _ _ q)
theorem qw : QO X EE none vH := PO.mono Kl fun σ H Q ⟨τ, ρ, G, ab, ok⟩ => ok H ρ .refl ab
theorem jM (ha : QE X EE a ma) : QO X EE (some a) (iC ma) := PO.mono (Km ha) fun σ H Q ⟨τ, ρ, G, ab, ok⟩ => by
 refine ⟨τ, ρ, G, ab, ?_⟩
 dsimp only [iC, M.bind] at ok
 cases e : ma τ G with
 | stuck => rw [e] at ok; exact ok
 | fR c G' => rw [e] at ok; exact ok
 | ok d G' =>
  rw [e] at ok
  intro v H' ρ' f eu r
  cases d <;> try exact ok.elim
  rename_i i
  unfold Rep at r
  exact ⟨i, r, ok H' ρ' f eu⟩
noncomputable def cutD (xs : List D) (lo hi : Option Int) : List D := (xs.drop (HT.iI xs.length 0 lo)).take (HT.iI xs.length xs.length hi - HT.iI xs.length 0 lo)
noncomputable def yS (d : D) (lo hi : Option Int) : M D := fun G => match bE G d with
 | some (.lst xs) => bQ (cutD xs lo hi) G
 | some (.tup xs) => if HT.iI xs.length 0 lo = 0 ∧ HT.iI xs.length xs.length hi = xs.length then .stuck else eF (cutD xs lo hi) G
 | some (.str z) => if z.length ≤ sizeLine then .ok (.str (Txt.slice z lo hi)) G else .stuck
 | none => .stuck
noncomputable def DK (m : DS → M D) (ml mh : DS → M (Option Int)) : DS → M D := fun τ => (m τ).bind fun d => (ml τ).bind fun lo => (mh τ).bind fun hi => yS d lo hi
noncomputable def T4 (X : Cx) (EE : gK) : V → Option Int → Option Int → Hp → VK → Prop := fun x lo hi H Q => ∃ σ τ ρ G d, Ab X.K X.mg σ H τ ρ G ∧ Rep X.K X.mg ρ H d x ∧ mO X.K X.mg EE H σ τ ρ (yS d lo hi G) Q
theorem BX {K : PySem.W.Frag} {mg : Str → Option Value} {ρ : List Addr} {H : Hp} {ds : List D} {vs : List V} (r : aG K mg ρ H ds vs) (lo hi : Option Int) : aG K mg ρ H (cutD ds lo hi) (BR vs lo hi) := by
 unfold cutD BR
 rw [r.length]
 exact (r.drop _).take _
theorem qx (x : Str) (l u : Option (Int × Tok)) (lo hi : Option Int) (hl : l.map (·.1) = lo) (hu : u.map (·.1) = hi) (t : Tok) (s : Shared) (Q : Value → Shared → Prop) (hz : x.length ≤ sizeLine)
  (h : ∀ t' k, Q (.str (Txt.slice x lo hi) t') { s with toks := k }) : (sliceMade x t l u none).post Q s := by
 subst hl hu
 cases l <;> cases u <;> exact post_val_or_str ⟨Nat.le_trans (Txt.slice_le x _ _) hz, fun t' k => h t' k⟩
theorem T5 : LQ X (T4 X EE) := by
 intro pins s σ0 H x v vl vu lo hi sl Q I rx hs pl pu ⟨σ, τ, ρ, G, d, ab, r1, ok⟩
 dsimp only [yS] at ok
 cases q : bE G d with
 | none => rw [q] at ok; exact ok.elim
 | some sk =>
  rw [q] at ok
  cases sk with
  | lst ds =>
   obtain ⟨l, xs, rfl, sq, rs⟩ := dX (pins := pins) (σ0 := σ0) (s := s) ab.hp r1 q
   exact Kq pins s σ0 H _ v vl vu lo hi sl Q I rx hs pl pu ⟨l, xs, rfl, sq, (rP ab (BX rs lo hi) ok).2⟩
  | tup ds =>
   obtain ⟨l, xs, rfl, sq, rs⟩ := iV r1 q
   dsimp only at ok
   by_cases hw : HT.iI ds.length 0 lo = 0 ∧ HT.iI ds.length ds.length hi = ds.length
   ·rw [if_pos hw] at ok; exact ok.elim
   ·rw [if_neg hw] at ok
    refine M8 pins s σ0 H _ v vl vu lo hi sl Q I rx hs pl pu ⟨l, xs, rfl, sq, ?_, (AK ab (BX rs lo hi) ok).2⟩
    rw [← rs.length]; exact hw
  | str z =>
   obtain ⟨rfl, rfl⟩ := qv r1 q
   dsimp only at ok
   by_cases hz : z.length ≤ sizeLine
   ·rw [if_pos hz] at ok
    obtain ⟨t, rfl⟩ := rx
    refine ⟨"str", _, F.slot_str_getitem.lookup, typeIs_str _ _ _, ?_⟩
    obtain ⟨o, e1, e2, e3⟩ := hs
    refine oF I.os.2 ?_
    have fin : ∀ t' k, 0 < k → EP X pins σ0 Q (.str (Txt.slice z lo hi) t') { s with toks := k } := fun t' k ht => ⟨.str _, H, I.tok k, ⟨t', rfl⟩, ok _ H ρ .refl ab (by unfold Rep; rfl)⟩
    cases pl with
    | none =>
     cases pu with
     | none => exact wpAny_getItem_str_slice (l := none) (u := none) (st := none) ⟨o, e1, e2, e3⟩ rfl (qx z none none none none rfl rfl t s _ hz fin)
     | int j tj => exact wpAny_getItem_str_slice (l := none) (u := some (j, tj)) (st := none) ⟨o, e1, e2, e3⟩ rfl (qx z none (some (j, tj)) none (some j) rfl rfl t s _ hz fin)
    | int i ti =>
     cases pu with
     | none => exact wpAny_getItem_str_slice (l := some (i, ti)) (u := none) (st := none) ⟨o, e1, e2, e3⟩ rfl (qx z (some (i, ti)) none (some i) none rfl rfl t s _ hz fin)
     | int j tj => exact wpAny_getItem_str_slice (l := some (i, ti)) (u := some (j, tj)) (st := none) ⟨o, e1, e2, e3⟩ rfl (qx z (some (i, ti)) (some (j, tj)) (some i) (some j) rfl rfl t s _ hz fin)
   ·rw [if_neg hz] at ok; exact ok.elim
theorem jT {lo hi : Option Expr} {ml mh : DS → M (Option Int)} {p2 : Pos} (ha : QE X EE a ma) (hl : QO X EE lo ml) (hh : QO X EE hi mh) : QE X EE (.Subscript a (.Slice lo hi none p2) pos) (DK ma ml mh) :=
 PE.mono (HH T5 ha hl hh) fun σ H Q ⟨τ, ρ, G, ab, ok⟩ => by
  refine ⟨τ, ρ, G, ab, ?_⟩
  dsimp only [DK, M.bind] at ok
  cases e1 : ma τ G with
  | stuck => rw [e1] at ok; exact ok
  | fR c G' => rw [e1] at ok; exact ok
  | ok d G1 =>
   rw [e1] at ok
   dsimp only at ok
   intro v H1 ρ1 f1 uS r1
   refine ⟨τ, ρ1, G1, uS, ?_⟩
   cases e2 : ml τ G1 with
   | stuck => rw [e2] at ok; exact ok
   | fR c G' => rw [e2] at ok; exact fun H' ρ' f' => ok H' ρ' (f1.trans f')
   | ok l G2 =>
    rw [e2] at ok
    dsimp only at ok
    intro H2 ρ2 f2 gf
    refine ⟨τ, ρ2, G2, gf, ?_⟩
    cases e3 : mh τ G2 with
    | stuck => rw [e3] at ok; exact ok
    | fR c G' => rw [e3] at ok; exact fun H' ρ' f' => ok H' ρ' ((f1.trans f2).trans f')
    | ok u G3 =>
     rw [e3] at ok
     dsimp only at ok
     intro H3 ρ3 f3 Ge
     exact ⟨σ, τ, ρ3, G3, d, Ge, r1.mono (f2.trans f3), ok.fut ((f1.trans f2).trans f3)⟩
noncomputable def tF (ma mb : DS → M Bool) : DS → M Bool := fun τ => (ma τ).bind fun c => if c then mb τ else M.ret false
noncomputable def rR (ma mb : DS → M Bool) : DS → M Bool := fun τ => (ma τ).bind fun c => if c then M.ret true else mb τ
noncomputable def EU (ma : DS → M Bool) : DS → M Bool := fun τ => (ma τ).bind fun c => M.ret (!c)
variable {ta tb tc : DS → M Bool} {rest : List Expr}
theorem HX {σ : L2.St} {H : Hp} {Q : Bool → Hp → Prop} (h : liftT X.K X.mg EE (tF ta tb) σ H Q) : O6 (liftT X.K X.mg EE ta) (liftT X.K X.mg EE tb) σ H Q := by
 obtain ⟨τ, ρ, G, ab, ok⟩ := DG (k := fun τ c => if c then tb τ else M.ret false) h
 refine ⟨τ, ρ, G, ab, ?_⟩
 cases e : ta τ G with
 | stuck => rw [e] at ok; exact ok
 | fR c G' => rw [e] at ok; exact ok
 | ok k G' =>
  rw [e] at ok
  intro H' ρ' f' eu
  obtain ⟨τ2, ρ2, G2, gf, bD⟩ := ok H' ρ' f' eu
  cases k with
  | true => exact ⟨τ2, ρ2, G2, gf, bD⟩
  | false => exact bD H' ρ2 .refl gf
theorem KJ {σ : L2.St} {H : Hp} {Q : Bool → Hp → Prop} (h : liftT X.K X.mg EE (rR ta tb) σ H Q) : V1 (liftT X.K X.mg EE ta) (liftT X.K X.mg EE tb) σ H Q := by
 obtain ⟨τ, ρ, G, ab, ok⟩ := DG (k := fun τ c => if c then M.ret true else tb τ) h
 refine ⟨τ, ρ, G, ab, ?_⟩
 cases e : ta τ G with
 | stuck => rw [e] at ok; exact ok
 | fR c G' => rw [e] at ok; exact ok
 | ok k G' =>
  rw [e] at ok
  intro H' ρ' f' eu
  obtain ⟨τ2, ρ2, G2, gf, bD⟩ := ok H' ρ' f' eu
  cases k with
  | false => exact ⟨τ2, ρ2, G2, gf, bD⟩
  | true => exact bD H' ρ2 .refl gf
theorem PW.mono {e : Expr} {t t' : TT} (h : PW X e t) (i : ∀ σ H Q, t' σ H Q → t σ H Q) : PW X e t' := fun wh pins s σ H Q I q => h wh pins s σ H Q I (i _ _ _ q)
theorem qy (ha : QT X EE a ta) : QW X EE (.BoolOp .And [a] pos) ta := J7 ha
theorem AL (ha : QT X EE a ta) : QW X EE (.BoolOp .Or [a] pos) ta := MC ha
theorem uT (ha : QT X EE a ta) (hb : QW X EE (.BoolOp .And (b :: rest) pos) tb) : QW X EE (.BoolOp .And (a :: b :: rest) pos) (tF ta tb) := PW.mono (MD ha hb) fun _ _ _ h => HX h
theorem zP (ha : QT X EE a ta) (hb : QW X EE (.BoolOp .Or (b :: rest) pos) tb) : QW X EE (.BoolOp .Or (a :: b :: rest) pos) (rR ta tb) := PW.mono (O7 ha hb) fun _ _ _ h => KJ h
theorem yY {e : Expr} (h : QW X EE e ta) : QT X EE e ta := h.pt
theorem HY (ha : QT X EE a ta) : QT X EE (.UnaryOp .Not a pos) (EU ta) := PT.mono (ME ha) fun σ H Q h => by
 obtain ⟨τ, ρ, G, ab, ok⟩ := DG (k := fun τ c => M.ret (!c)) h
 refine ⟨τ, ρ, G, ab, ?_⟩
 cases e : ta τ G with
 | stuck => rw [e] at ok; exact ok
 | fR c G' => rw [e] at ok; exact ok
 | ok k G' =>
  rw [e] at ok
  intro H' ρ' f' eu
  obtain ⟨τ2, ρ2, G2, gf, bD⟩ := ok H' ρ' f' eu
  exact bD H' ρ2 .refl gf
noncomputable def gn (m : DS → M D) : DS → M Bool := fun τ => (m τ).bind fun d => match d with
 | .bl b => M.ret b
 | _ => M.stop
theorem KL {m : DS → M D} {σ : L2.St} {H : Hp} {Q : Bool → Hp → Prop} (h : liftT X.K X.mg EE (gn m) σ H Q) : eV X.K X.mg EE m σ H fun x H1 => ∃ c, x = .bl c ∧ Q c H1 := by
 obtain ⟨τ, ρ, G, ab, ok⟩ := HM (k := fun _ d => match d with | .bl b => M.ret b | _ => M.stop) h
 refine ⟨τ, ρ, G, ab, ?_⟩
 cases e : m τ G with
 | stuck => rw [e] at ok; exact ok
 | fR c G' => rw [e] at ok; exact ok
 | ok d G' =>
  rw [e] at ok
  intro v H' ρ' f' eu r'
  obtain ⟨τ2, ρ2, G2, d2, gf, r2, bD⟩ := ok v H' ρ' f' eu r'
  cases d2 <;> try exact bD.elim
  rename_i k
  unfold Rep at r2
  exact ⟨k, r2, bD H' ρ2 .refl gf⟩
theorem Nn {op : CmpOp} {f : D → D → M D} (ho : pF X (compareOp op) (rD X EE f)) (ha : QE X EE a ma) (hb : QE X EE b mb) (hm : behindInMarks op b = false) : QT X EE (.Compare a [op] [b] pos) (gn (aC f ma mb)) :=
 PT.mono (Kf ho ha hb hm) fun σ H Q h => by
  have h1 := KL h
  exact wW pH h1
theorem LU {f : D → D → M D} {g : Value → Value → Sem Value} {r : R2} (ho : pF X g r) (hd : HQ X EE r f) : pF X g (rD X EE f) := fun pins s σ H x y v u Q I rx ry q => ho pins s σ H x y v u Q I rx ry (PK hd q)
theorem AM : pF X (compareOp .Lt) (rD X EE J0) := LU Pj (tE fun _ _ _ _ => by unfold Rep; rfl)
theorem uU : pF X (compareOp .Gt) (rD X EE wF) := LU LP (tE fun _ _ _ _ => by unfold Rep; rfl)
noncomputable def HZ (ma : DS → M D) : DS → M D := fun τ => (ma τ).bind fun d => match d with
 | .int i => M.ret (.int (-i))
 | _ => M.stop
theorem H8 (ha : QE X EE a ma) : QE X EE (.UnaryOp .USub a pos) (HZ ma) := PE.mono (Pf MW ha) fun σ H Q h => by
 obtain ⟨τ, ρ, G, ab, ok⟩ := mw (k := fun τ d => match d with | .int i => M.ret (.int (-i)) | _ => M.stop) h
 refine ⟨τ, ρ, G, ab, ?_⟩
 cases e : ma τ G with
 | stuck => rw [e] at ok; exact ok
 | fR c G' => rw [e] at ok; exact ok
 | ok k G' =>
  rw [e] at ok
  intro v H' ρ' f' eu r'
  obtain ⟨τ2, ρ2, G2, d2, gf, r2, bD⟩ := ok v H' ρ' f' eu r'
  cases d2 <;> try exact bD.elim
  rename_i k
  unfold Rep at r2
  exact ⟨k, r2, bD _ H' ρ2 .refl gf (by unfold Rep; rfl)⟩
end
end L3
end
section
set_option Elab.async false
set_option linter.all false
set_option maxRecDepth 100000
namespace L3
open PySem PySem.Spec L2
section
variable {X : Cx} {EE : gK} {a b c : Expr} {ma mb mc : DS → M D} {pos : Pos} {ta tb tc : DS → M Bool} {ms mt : MS}
noncomputable def bJ : MS := fun τ G => .nx τ G
noncomputable def bq (m k : MS) : MS := fun τ G => match m τ G with
 | .nx τ' G' => k τ' G'
 | r => r
theorem bw : ER X EE [] bJ := Dr.mono J8 fun D σ H ⟨τ, ρ, G, ab, ok⟩ => ok σ H ρ .refl ab
theorem BY {Dd : Ends} {σ : L2.St} {H : Hp} (h : kT X.K X.mg EE (bq ms mt) Dd σ H) : O9 (kT X.K X.mg EE ms) (kT X.K X.mg EE mt) Dd σ H := by
 obtain ⟨τ, ρ, G, ab, ok⟩ := h
 refine ⟨τ, ρ, G, ab, ?_⟩
 dsimp only [bq] at ok
 cases e : ms τ G with
 | nx τ' G' => rw [e] at ok; exact fun σ' H' ρ' f eu => ⟨τ', ρ', G', eu, ok.fut f⟩
 | stuck => rw [e] at ok; exact ok
 | rt d G => rw [e] at ok; exact ok
 | bk τ G => rw [e] at ok; exact ok
 | ct τ G => rw [e] at ok; exact ok
 | xn c τ G => rw [e] at ok; exact ok
theorem ao {st : Stmt} {rest : List Stmt} (h1 : QS X EE st ms) (h2 : ER X EE rest mt) : ER X EE (st :: rest) (bq ms mt) := Dr.mono (Hx h1 h2) fun _ _ _ h => BY h
theorem ay {st : Stmt} (h1 : QS X EE st ms) : ER X EE [st] ms := J9 h1
noncomputable def mQ (m : DS → M D) : MS := fun τ => fu (m τ) (fun _ G => .nx τ G) fun c G => .xn c τ G
noncomputable def dF (m : DS → M D) : MS := fun τ => fu (m τ) (fun d G => .rt d G) fun c G => .xn c τ G
noncomputable def bT (i : Nat) (m : DS → M D) : MS := fun τ => fu (m τ) (fun d G => .nx (τ.set i (some d)) G) fun c G => .xn c τ G
noncomputable def jw (t : DS → M Bool) (ma mb : MS) : MS := fun τ => fu (t τ) (fun c G => if c then ma τ G else mb τ G) fun c G => .xn c τ G
theorem KN (he : QE X EE a ma) (hs : swapsWith a none pos.line X.env = pure false := by rfl) : QS X EE (.Expr a pos) (mQ ma) := PS.mono (Ka he hs) fun D σ H h => by
 obtain ⟨τ, ρ, G, ab, ok⟩ := xD (k := fun τ d G => .nx τ G) h
 refine ⟨τ, ρ, G, ab, ?_⟩
 cases e : ma τ G with
 | stuck => rw [e] at ok; exact ok
 | fR c G' => rw [e] at ok; exact ok
 | ok d G' =>
  rw [e] at ok
  intro v H' ρ' f' eu r'
  obtain ⟨τ2, ρ2, G2, d2, gf, r2, bD⟩ := ok v H' ρ' f' eu r'
  exact bD σ H' ρ2 .refl gf
theorem br (he : QE X EE a ma) : QS X EE (.Return (some a) pos) (dF ma) := PS.mono (MF he) fun D σ H h => by
 obtain ⟨τ, ρ, G, ab, ok⟩ := xD (k := fun τ d G => .rt d G) h
 refine ⟨τ, ρ, G, ab, ?_⟩
 cases e : ma τ G with
 | stuck => rw [e] at ok; exact ok
 | fR c G' => rw [e] at ok; exact ok
 | ok d G' =>
  rw [e] at ok
  intro v H' ρ' f' eu r'
  obtain ⟨τ2, ρ2, G2, d2, gf, r2, bD⟩ := ok v H' ρ' f' eu r'
  exact bD v H' ρ2 .refl gf.hp r2
theorem Ab.set {K : PySem.W.Frag} {mg : Str → Option Value} {σ : L2.St} {H : Hp} {τ : DS} {ρ : List Addr} {G : DH} {i : Nat} {d : D} {v : V} (ab : Ab K mg σ H τ ρ G) (r : Rep K mg ρ H d v) : Ab K mg (σ.set i (some v)) H (τ.set i (some d)) ρ G := ⟨ab.st.set r, ab.hp⟩
theorem Np {i : Nat} {x : Str} {pos' : Pos} (hN : X.N.Nodup) (he : QE X EE a ma) (hi : X.N[i]? = some x := by rfl) (hx : Loc X.env.scope x := by first | exact Or.inl rfl | exact Or.inr rfl)
  (hs : swapsWith a (some (.Name x pos')) pos.line X.env = pure false := by rfl) (hf : X.fn x = true ∨ X.env.scope.names.lookup x = some .local := by first | exact .inl rfl | exact .inr rfl | assumption) :
  QS X EE (.Assign [.Name x pos'] a pos) (bT i ma) := PS.mono (MK hN hi hx he hs hf) fun D σ H h => by
 obtain ⟨τ, ρ, G, ab, ok⟩ := xD (k := fun τ d G => .nx (τ.set i (some d)) G) h
 refine ⟨τ, ρ, G, ab, ?_⟩
 cases e : ma τ G with
 | stuck => rw [e] at ok; exact ok
 | fR c G' => rw [e] at ok; exact ok
 | ok d G' =>
  rw [e] at ok
  intro v H' ρ' f' eu r'
  obtain ⟨τ2, ρ2, G2, d2, gf, r2, bD⟩ := ok v H' ρ' f' eu r'
  exact bD _ H' ρ2 .refl (gf.set r2)
theorem cY {body els : List Stmt} (hc : QT X EE c tc) (ha : ER X EE body ms) (hb : ER X EE els mt) : QS X EE (.If c body els pos) (jw tc ms mt) := PS.mono (Pb hc ha hb) fun D σ H h => by
 obtain ⟨τ, ρ, G, ab, ok⟩ := HN (k := fun τ c G => if c then ms τ G else mt τ G) h
 refine ⟨τ, ρ, G, ab, ?_⟩
 cases e : tc τ G with
 | stuck => rw [e] at ok; exact ok
 | fR c G' => rw [e] at ok; exact ok
 | ok k G' =>
  rw [e] at ok
  intro H' ρ' f' eu
  obtain ⟨τ2, ρ2, G2, gf, bD⟩ := ok H' ρ' f' eu
  cases k with
  | true => exact ⟨τ2, ρ2, G2, gf, bD⟩
  | false => exact ⟨τ2, ρ2, G2, gf, bD⟩
noncomputable abbrev tG := D → DS → Option DS
noncomputable def BZ (K : PySem.W.Frag) (mg : Str → Option Value) (g : tG) : TG := fun v σ H Q => ∃ τ ρ G d τ', Ab K mg σ H τ ρ G ∧ Rep K mg ρ H d v ∧ g d τ = some τ' ∧ ∀ σ', Ab K mg σ' H τ' ρ G → Q σ' H
noncomputable def QG (X : Cx) (e : Expr) (g : tG) : Prop := PG X e (BZ X.K X.mg g)
noncomputable def gN (i : Nat) : tG := fun d τ => some (τ.set i (some d))
theorem KO {i : Nat} {x : Str} (hN : X.N.Nodup) (hi : X.N[i]? = some x := by rfl) (hx : Loc X.env.scope x := by first | exact Or.inl rfl | exact Or.inr rfl) (hf : X.fn x = true ∨ X.env.scope.names.lookup x = some .local := by first | exact .inl rfl | exact .inr rfl | assumption) :
  QG X (.Name x pos) (gN i) := fun pins s σ H v u Q I r ⟨τ, ρ, G, d, τ', ab, rd, e, q⟩ => Az hN hi hx hf pins s σ H v u Q I r (by
 cases e
 exact q _ (ab.set rd))
noncomputable def fq (g : tG) (body : MS) : List D → MS
 | [], τ, G => .nx τ G
 | d :: r, τ, G => match g d τ with
  | none => .stuck
  | some τ1 => match body τ1 G with
   | .nx τ' G' => fq g body r τ' G'
   | .ct τ' G' => fq g body r τ' G'
   | .bk τ' G' => .nx τ' G'
   | x => x
noncomputable def AN (g : tG) (body : MS) (n : Nat) : Nat → Nat → MS
 | 0, _, _, _ => .stuck
 | f + 1, k, τ, G => match G[n]? with
  | some (.lst xs) => match xs[k]? with
   | none => .nx τ G
   | some d => match g d τ with
    | none => .stuck
    | some τ1 => match body τ1 G with
     | .nx τ' G' => AN g body n f (k + 1) τ' G'
     | .ct τ' G' => AN g body n f (k + 1) τ' G'
     | .bk τ' G' => .nx τ' G'
     | x => x
  | _ => .stuck
end
end L3
end
section
set_option Elab.async false
set_option linter.all false
set_option maxRecDepth 100000
namespace L3
open PySem PySem.Spec L2
noncomputable def KP (z : Str) : It := ⟨fun i _ => i < z.cps.size, fun i H x H' => H' = H ∧ ∃ c, z.cps[i]? = some c ∧ x = .str ⟨#[c]⟩, fun i _ => z.cps.size ≤ i⟩
theorem Ia {P : Program} {w : World} {K : PySem.W.Frag} {tg : Expr} (z : Str) (t : Tok) (it : Addr) : Turn P w K tg (KP z) [it] it (fun i h => h.IsStrIter it (strIterType z) z t i) where
 mem := by simp
 obj := fun i h st b hb => by
  have e : b = it := by simpa using hb
  subst e
  obtain ⟨o, e, c, d⟩ := st
  exact ⟨o, e, fun v z => by rw [d] at z; cases z⟩
 keep := fun i h h' st k => by
  obtain ⟨o, e, r⟩ := st
  exact ⟨o, k it (by simp) o e, r⟩
 item := by
  intro X hP hw hK hc i pins s σ H E I hf st hg
  subst hP hw hK
  obtain ⟨f0, f1, f2, f3, f4, f5⟩ := hf it (by simp)
  have hx : z.cps[i]? = some z.cps[i] := Array.getElem?_eq_getElem hg
  have fin : ∀ h', h'.IsStrIter it (strIterType z) z t (i + 1) → Heap.SameBut it s.heap h' → ∃ u, some (Value.str ⟨#[z.cps[i]]⟩ s.toks) = some u ∧
   wpAny (model X.prog X.w) X.A (letOwnedTupleGo tg (.ref it) u) (fun _ s2 => ∃ x H', Inv X pins σ H' s2 ∧ RelV x u ∧ (KP z).zB i H x H' ∧ s2.heap.IsStrIter it (strIterType z) z t (i + 1) ∧ ∀ b ∈ [it], H' b = none) E { s with heap := h', toks := s.toks + 1 } := fun h' st' sb => by
   have I1 : Inv X pins σ H { s with heap := h', toks := s.toks + 1 } := I.turned (t' := s.toks + 1) (fun b o hb e => (sb.2 b hb).trans e) f0 f1 f3 f4 f5
   obtain ⟨o, e, c, d⟩ := id st'
   refine ⟨_, rfl, BP (s := { s with heap := h', toks := s.toks + 1 }) e c d ?_ ⟨.str ⟨#[z.cps[i]]⟩, H, I1, ⟨_, rfl⟩, ⟨rfl, _, hx, rfl⟩, st', fun b hb => (hf b hb).1⟩⟩
   unfold strIterType
   split <;> decide
  cases ha : z.cps.all (· < 128) with
  | true =>
   have e : strIterType z = "str_ascii_iterator" := by unfold strIterType; rw [ha]; rfl
   rw [e] at st fin
   exact wpAny_pyNext_ascii_item st hx fun h' st' sb => by rw [e]; exact fin h' st' sb
  | false =>
   have e : strIterType z = "str_iterator" := by unfold strIterType; rw [ha]; rfl
   rw [e] at st fin
   exact wpAny_pyNext_wide_item st hx fun h' st' sb => by rw [e]; exact fin h' st' sb
 done := by
  intro X hP hw hK hc i pins s σ H E I hf st hg
  subst hP hw hK
  obtain ⟨f0, f1, f2, f3, f4, f5⟩ := hf it (by simp)
  have hx : z.cps[i]? = none := Array.getElem?_eq_none hg
  have fin : ∀ h', Heap.ExtBut it s.heap h' → (none : Option Value) = none ∧ Inv X pins σ H { s with heap := h' } := fun h' eb => ⟨rfl, I.turned (t' := s.toks) (fun b o hb e => eb b o hb e) f0 f1 f3 f4 f5⟩
  cases ha : z.cps.all (· < 128) with
  | true =>
   have e : strIterType z = "str_ascii_iterator" := by unfold strIterType; rw [ha]; rfl
   rw [e] at st
   exact wpAny_pyNext_ascii_end (I.ok.hd hc) st hx fin
  | false =>
   have e : strIterType z = "str_iterator" := by unfold strIterType; rw [ha]; rfl
   rw [e] at st
   exact wpAny_pyNext_wide_end (I.ok.hd hc) st hx fin
 self := fun A i s Q E st h => by
  cases ha : z.cps.all (· < 128) with
  | true =>
   have e : strIterType z = "str_ascii_iterator" := by unfold strIterType; rw [ha]; rfl
   rw [e] at st
   exact wpAny_pyIter_striter_ascii st h
  | false =>
   have e : strIterType z = "str_iterator" := by unfold strIterType; rw [ha]; rfl
   rw [e] at st
   exact wpAny_pyIter_striter_wide st h
section
variable {X : Cx} {EE : gK} {a b c tg : Expr} {ma mb mc : DS → M D} {pos : Pos} {ms mt : MS}
noncomputable def uV (g : tG) (m : DS → M D) (body : MS) : MS := fun τ => fu (m τ) (fun d G => match d with
 | .obj n => match G[n]? with
  | some (.lst xs) => AN g body n (xs.length + 1) 0 τ G
  | _ => .stuck
 | .tup xs => fq g body xs τ G
 | .con xs => fq g body xs τ G
 | .str z => fq g body (z.cps.toList.map fun c => .str ⟨#[c]⟩) τ G
 | _ => .stuck) fun c G => .xn c τ G
theorem qA {g : tG} {body : MS} {Dd : Ends} {J : It} {H0 : Hp} {σ0 : L2.St} {ρ0 : List Addr} {G0 : DH} {τ0 : DS} (ds : List D)
  (go : ∀ i H ρ, i < ds.length → fY X.K H0 H ρ0 ρ → J.go i H) (stop : ∀ i H ρ, ds.length ≤ i → fY X.K H0 H ρ0 ρ → J.stop i H)
  (zB : ∀ i d H ρ x H', ds[i]? = some d → fY X.K H0 H ρ0 ρ → J.zB i H x H' → H' = H ∧ Rep X.K X.mg ρ H d x)
  (ab : Ab X.K X.mg σ0 H0 τ0 ρ0 G0) (ok : yX X.K X.mg EE H0 ρ0 Dd (fq g body ds τ0 G0)) :
  ∃ W : Nat → Nat → L2.St → Hp → Prop, (∃ m, W 0 m σ0 H0) ∧ ∀ i m σ H, W i m σ H →
   (J.stop i H ∧ Dd.nx σ H) ∨ (J.go i H ∧ ∃ N : L2.St → Hp → Prop, (∀ σ' H', N σ' H' → ∃ m', m' < m ∧ W (i + 1) m' σ' H') ∧ ∀ x H', J.zB i H x H' → BZ X.K X.mg g x σ H' fun σ2 H2 => kT X.K X.mg EE body { Dd with nx := N, ct := N, bk := Dd.nx } σ2 H2) := by
 refine ⟨fun i m σ H => i ≤ ds.length ∧ m = ds.length - i ∧ ∃ τ ρ G, Ab X.K X.mg σ H τ ρ G ∧ fY X.K H0 H ρ0 ρ ∧ yX X.K X.mg EE H ρ Dd (fq g body (ds.drop i) τ G), ⟨ds.length, Nat.zero_le _, rfl, τ0, ρ0, G0, ab, .refl, by simpa using ok⟩, ?_⟩
 rintro i m σ H ⟨hi, rfl, τ, ρ, G, ab, f, ok⟩
 by_cases hlt : i < ds.length
 ·refine .inr ⟨go i H ρ hlt f, fun σ' H' => ∃ τ' ρ' G', Ab X.K X.mg σ' H' τ' ρ' G' ∧ fY X.K H0 H' ρ0 ρ' ∧ yX X.K X.mg EE H' ρ' Dd (fq g body (ds.drop (i + 1)) τ' G'), fun σ' H' n => ⟨ds.length - (i + 1), by omega, hlt, rfl, n⟩, fun x H' y => ?_⟩
  obtain ⟨rfl, rx⟩ := zB i ds[i] H ρ x H' (List.getElem?_eq_getElem hlt) f y
  rw [List.drop_eq_getElem_cons hlt] at ok
  unfold fq at ok
  cases e : g ds[i] τ with
  | none => rw [e] at ok; exact ok.elim
  | some τ1 =>
   rw [e] at ok
   dsimp only at ok
   refine ⟨τ, ρ, G, ds[i], τ1, ab, rx, e, fun σ' eu => ⟨τ1, ρ, G, eu, ?_⟩⟩
   cases eb : body τ1 G with
   | stuck => rw [eb] at ok; exact ok
   | nx τ2 G2 => rw [eb] at ok; exact fun σ2 H2 ρ2 f2 gf => ⟨τ2, ρ2, G2, gf, f.trans f2, ok.fut f2⟩
   | ct τ2 G2 => rw [eb] at ok; exact fun σ2 H2 ρ2 f2 gf => ⟨τ2, ρ2, G2, gf, f.trans f2, ok.fut f2⟩
   | bk τ2 G2 => rw [eb] at ok; exact ok
   | rt d G2 => rw [eb] at ok; exact ok
   | xn c τ2 G2 => rw [eb] at ok; exact ok
 ·have e : i = ds.length := by omega
  subst e
  refine .inl ⟨stop _ H ρ (Nat.le_refl _) f, ?_⟩
  rw [List.drop_eq_nil_of_le (Nat.le_refl _)] at ok
  exact ok σ H ρ .refl ab
theorem KQ {g : tG} {body : MS} {Dd : Ends} {H0 : Hp} {σ0 : L2.St} {ρ0 : List Addr} {G0 : DH} {τ0 : DS} {n : Nat} {p : Addr} {fuel : Nat} (hn : ρ0[n]? = some p)
  (ab : Ab X.K X.mg σ0 H0 τ0 ρ0 G0) (ok : yX X.K X.mg EE H0 ρ0 Dd (AN g body n fuel 0 τ0 G0)) :
  ∃ W : Nat → Nat → L2.St → Hp → Prop, (∃ m, W 0 m σ0 H0) ∧ ∀ i m σ H, W i m σ H →
   ((JW X.K p).stop i H ∧ Dd.nx σ H) ∨ ((JW X.K p).go i H ∧ ∃ N : L2.St → Hp → Prop, (∀ σ' H', N σ' H' → ∃ m', m' < m ∧ W (i + 1) m' σ' H') ∧ ∀ x H', (JW X.K p).zB i H x H' → BZ X.K X.mg g x σ H' fun σ2 H2 => kT X.K X.mg EE body { Dd with nx := N, ct := N, bk := Dd.nx } σ2 H2) := by
 refine ⟨fun i m σ H => ∃ τ ρ G, Ab X.K X.mg σ H τ ρ G ∧ fY X.K H0 H ρ0 ρ ∧ yX X.K X.mg EE H ρ Dd (AN g body n m i τ G), ⟨fuel, τ0, ρ0, G0, ab, .refl, ok⟩, ?_⟩
 rintro i m σ H ⟨τ, ρ, G, ab, f, ok⟩
 cases m with
 | zero => exact ok.elim
 | succ m =>
  unfold AN at ok
  cases q : G[n]? with
  | none => rw [q] at ok; exact ok.elim
  | some o =>
   cases o with
   | dead => first | (rw [q] at ok; exact ok.elim) | (rw [q] at bD; exact bD.elim) | (rw [q] at e; cases e; done) | (rw [g] at ok; exact ok.elim) | (rw [g] at q; cases q; done) | (rw [g] at h; cases h; done) | (rw [g2] at ok; exact ok.elim) | (rw [g1, g2] at ok; exact ok.elim) | (rw [q1] at ok; exact ok.elim) | exact ok.elim
   | dct kv => first | (rw [q] at ok; exact ok.elim) | (rw [q] at bD; exact bD.elim) | (rw [q] at e; cases e; done) | (rw [g] at ok; exact ok.elim) | (rw [g] at q; cases q; done) | (rw [g] at h; cases h; done) | (rw [g2] at ok; exact ok.elim) | (rw [g1, g2] at ok; exact ok.elim) | (rw [q1] at ok; exact ok.elim) | exact ok.elim
   | lst ds =>
    rw [q] at ok
    dsimp only at ok
    obtain ⟨p', xs, e1, e2, rs⟩ := ab.hp.lst q
    rw [f.get hn] at e1; cases e1
    cases qd : ds[i]? with
    | none =>
     rw [qd] at ok
     have hl : xs.length ≤ i := by rw [← rs.length]; exact List.getElem?_eq_none_iff.mp qd
     exact .inl ⟨⟨xs, .of e2, hl⟩, ok σ H ρ .refl ab⟩
    | some d =>
     rw [qd] at ok
     dsimp only at ok
     obtain ⟨x0, ex, rx⟩ := rs.get qd
     refine .inr ⟨⟨xs, x0, .of e2, ex⟩, fun σ' H' => ∃ τ' ρ' G', Ab X.K X.mg σ' H' τ' ρ' G' ∧ fY X.K H0 H' ρ0 ρ' ∧ yX X.K X.mg EE H' ρ' Dd (AN g body n m (i + 1) τ' G'), fun σ' H' z => ⟨m, Nat.lt_succ_self _, z⟩, fun x H' y => ?_⟩
     obtain ⟨rfl, y⟩ := y
     have e3 := y xs (.of e2)
     rw [ex] at e3; cases e3
     cases e : g d τ with
     | none => rw [e] at ok; exact ok.elim
     | some τ1 =>
      rw [e] at ok
      dsimp only at ok
      refine ⟨τ, ρ, G, d, τ1, ab, rx, e, fun σ' eu => ⟨τ1, ρ, G, eu, ?_⟩⟩
      cases eb : body τ1 G with
      | stuck => rw [eb] at ok; exact ok
      | nx τ2 G2 => rw [eb] at ok; exact fun σ2 H2 ρ2 f2 gf => ⟨τ2, ρ2, G2, gf, f.trans f2, ok.fut f2⟩
      | ct τ2 G2 => rw [eb] at ok; exact fun σ2 H2 ρ2 f2 gf => ⟨τ2, ρ2, G2, gf, f.trans f2, ok.fut f2⟩
      | bk τ2 G2 => rw [eb] at ok; exact ok
      | rt d G2 => rw [eb] at ok; exact ok
      | xn c τ2 G2 => rw [eb] at ok; exact ok
theorem PI.any {l : Expr} {tl : TE} (hl : PE X l tl) : PI X tg l (fun σ H R => tl σ H fun x H1 => (∃ p, x = .ref p ∧ (∃ xs, pD X.K H1 p xs) ∧ R (JW X.K p) H1) ∨ (∃ p, x = .ref p ∧ (∃ xs, qS X.K H1 p xs) ∧ R (Sk X.K p) H1) ∨ ∃ z, x = .str z ∧ R (KP z) H1) := by
 intro pins s σ H R I h
 refine ja (hl pins s σ H _ I h) fun u s1 ⟨x, H1, I1, r1, q⟩ => ?_
 rcases q with ⟨p, rfl, ⟨xs, sq⟩, q⟩ | ⟨p, rfl, ⟨xs, sq⟩, q⟩ | ⟨z, rfl, q⟩
 ·cases r1
  obtain ⟨its, rv, pl, hz⟩ := I1.list sq
  refine wpAny_pyIter_list pl.isList ?_
  have I2 : Inv X pins σ H1 { s1 with heap := s1.heap.push { cls := .type "list_iterator", data := .fields #[.ref p, .int 0 0] } } := I1.kept (t' := s1.toks) fun b o e => Heap.get?_push_of_some _ e
  refine ⟨s1.heap.objs.size, [s1.heap.objs.size], _, JW X.K p, H1, rfl, I2, FQ p _, ⟨_, Heap.get?_push_size _ rfl, rfl, rfl⟩, fun b hb => ?_, q⟩
  have e : b = s1.heap.objs.size := by simpa using hb
  subst e
  exact I1.FP (Nat.le_refl _) (I1.hok.fresh (Nat.le_refl _))
 ·cases r1
  obtain ⟨its, rv, pl, hz⟩ := I1.tuple sq
  refine wpAny_pyIter_tuple pl ?_
  have I2 : Inv X pins σ H1 { s1 with heap := s1.heap.push { cls := .type "tuple_iterator", data := .fields #[.ref p, .int 0 0] } } := I1.kept (t' := s1.toks) fun b o e => Heap.get?_push_of_some _ e
  refine ⟨s1.heap.objs.size, [s1.heap.objs.size], _, Sk X.K p, H1, rfl, I2, Dt p _, ⟨_, Heap.get?_push_size _ rfl, rfl, rfl⟩, fun b hb => ?_, q⟩
  have e : b = s1.heap.objs.size := by simpa using hb
  subst e
  exact I1.FP (Nat.le_refl _) (I1.hok.fresh (Nat.le_refl _))
 ·obtain ⟨t, rfl⟩ := r1
  refine wpAny_pyIter_strU ?_
  have I2 : Inv X pins σ H1 { s1 with heap := s1.heap.push { cls := .type (strIterType z), data := .fields #[.str z t, .int 0 0] } } := I1.kept (t' := s1.toks) fun b o e => Heap.get?_push_of_some _ e
  refine ⟨s1.heap.objs.size, [s1.heap.objs.size], _, KP z, H1, rfl, I2, Ia z t _, ⟨_, Heap.get?_push_size _ rfl, rfl, rfl⟩, fun b hb => ?_, q⟩
  have e : b = s1.heap.objs.size := by simpa using hb
  subst e
  exact I1.FP (Nat.le_refl _) (I1.hok.fresh (Nat.le_refl _))
theorem Nq {g : tG} {body : List Stmt} (hp : PassesOwn (model X.prog X.w) X.A X.env X.xe) (hc : X.calm = true) (ha : QE X EE a ma) (hg : QG X tg g) (hb : ER X EE body ms) (hs : ∀ x, foldedSetIterable a X.env x = pure x := by intro _; rfl) :
  QS X EE (.For tg a body [] pos) (uV g ma ms) := PS.mono (Dv hp hc (PI.any ha) hg hb hs) fun Dd σ H h => by
 obtain ⟨τ, ρ, G, ab, ok⟩ := xD (k := fun τ d G => match d with
  | .obj n => match G[n]? with
   | some (.lst xs) => AN g ms n (xs.length + 1) 0 τ G
   | _ => .stuck
  | .tup xs => fq g ms xs τ G
  | .con xs => fq g ms xs τ G
  | .str z => fq g ms (z.cps.toList.map fun c => .str ⟨#[c]⟩) τ G
  | _ => .stuck) h
 refine ⟨τ, ρ, G, ab, ?_⟩
 cases e : ma τ G with
 | stuck => rw [e] at ok; exact ok
 | fR c G' => rw [e] at ok; exact ok
 | ok d G' =>
  rw [e] at ok
  intro v H1 ρ1 f1 uS r1
  obtain ⟨τ2, ρ2, G2, d2, gf, r2, bD⟩ := ok v H1 ρ1 f1 uS r1
  cases d2 <;> try exact bD.elim
  case obj n =>
   dsimp only at bD
   unfold Rep at r2
   obtain ⟨p, rfl, e1⟩ := r2
   cases q : G2[n]? with
   | none => rw [q] at bD; exact bD.elim
   | some o =>
    cases o with
    | dead => first | (rw [q] at ok; exact ok.elim) | (rw [q] at bD; exact bD.elim) | (rw [q] at e; cases e; done) | (rw [g] at ok; exact ok.elim) | (rw [g] at q; cases q; done) | (rw [g] at h; cases h; done) | (rw [g2] at ok; exact ok.elim) | (rw [g1, g2] at ok; exact ok.elim) | (rw [q1] at ok; exact ok.elim) | exact ok.elim
    | dct kv => first | (rw [q] at ok; exact ok.elim) | (rw [q] at bD; exact bD.elim) | (rw [q] at e; cases e; done) | (rw [g] at ok; exact ok.elim) | (rw [g] at q; cases q; done) | (rw [g] at h; cases h; done) | (rw [g2] at ok; exact ok.elim) | (rw [g1, g2] at ok; exact ok.elim) | (rw [q1] at ok; exact ok.elim) | exact ok.elim
    | lst xs =>
     rw [q] at bD
     obtain ⟨p', vs, e2, h2, rs⟩ := gf.hp.lst q
     rw [e1] at e2; cases e2
     exact .inl ⟨p, rfl, ⟨vs, .of h2⟩, KQ e1 gf bD⟩
  case tup xs =>
   unfold Rep at r2
   obtain ⟨p, vs, rfl, sq, rs⟩ := r2
   refine .inr (.inl ⟨p, rfl, ⟨vs, sq⟩, qA xs (fun i H' ρ' hi f => ?_) (fun i H' ρ' hi f => ?_) (fun i d' H' ρ' x PU hd f y => ?_) gf bD⟩)
   ·rw [rs.length] at hi
    exact ⟨vs, vs[i], f.tup _ _ sq, List.getElem?_eq_getElem hi⟩
   ·exact ⟨vs, f.tup _ _ sq, by rw [← rs.length]; exact hi⟩
   ·obtain ⟨rfl, y⟩ := y
    obtain ⟨w', ew, rw'⟩ := rs.get hd
    have := y vs (f.tup _ _ sq)
    rw [ew] at this; cases this
    exact ⟨rfl, rw'.mono f⟩
  case con xs =>
   unfold Rep at r2
   obtain ⟨p, vs, rfl, sq, rs⟩ := r2
   refine .inl ⟨p, rfl, ⟨vs, sq.seq⟩, qA xs (fun i H' ρ' hi f => ?_) (fun i H' ρ' hi f => ?_) (fun i d' H' ρ' x PU hd f y => ?_) gf bD⟩
   ·rw [rs.length] at hi
    exact ⟨vs, vs[i], (f.con _ _ sq).seq, List.getElem?_eq_getElem hi⟩
   ·exact ⟨vs, (f.con _ _ sq).seq, by rw [← rs.length]; exact hi⟩
   ·obtain ⟨rfl, y⟩ := y
    obtain ⟨w', ew, rw'⟩ := rs.get hd
    have := y vs (f.con _ _ sq).seq
    rw [ew] at this; cases this
    exact ⟨rfl, rw'.mono f⟩
  case str z =>
   unfold Rep at r2; subst r2
   refine .inr (.inr ⟨z, rfl, qA (z.cps.toList.map fun c => .str ⟨#[c]⟩) (fun i H' ρ' hi f => ?_) (fun i H' ρ' hi f => ?_) (fun i d' H' ρ' x PU hd f y => ?_) gf bD⟩)
   ·simpa [KP] using hi
   ·simpa [KP] using hi
   ·obtain ⟨rfl, c, hc, rfl⟩ := y
    rw [List.getElem?_map] at hd
    have : z.cps.toList[i]? = some c := by simpa using hc
    rw [this] at hd
    cases hd
    exact ⟨rfl, by unfold Rep; rfl⟩
noncomputable def mR : List D → Option (List D)
 | [.int j] => if -(2 ^ 62) ≤ j ∧ j < 2 ^ 62 then some ((List.range j.toNat).map fun (k : Nat) => .int (0 + (k : Int))) else none
 | _ => none
noncomputable def jN (FN : List D → Option (List D)) (g : tG) (m : DS → M (List D)) (body : MS) : MS := fun τ => fu (m τ) (fun ds G => match FN ds with
 | some xs => fq g body xs τ G
 | none => .stuck) fun c G => .xn c τ G
theorem Ib {K : PySem.W.Frag} {mg : Str → Option Value} {σ : L2.St} {H : Hp} {m : DS → M (List D)} {k : DS → List D → DH → Res} {Dd : Ends} (h : kT K mg EE (fun τ => fu (m τ) (k τ) fun c G => .xn c τ G) Dd σ H) :
  vG K mg EE m σ H fun x H1 => ∃ τ ρ G d, Ab K mg σ H1 τ ρ G ∧ aG K mg ρ H1 d x ∧ yX K mg EE H1 ρ Dd (k τ d G) := by
 obtain ⟨τ, ρ, G, ab, ok⟩ := h
 refine ⟨τ, ρ, G, ab, ?_⟩
 dsimp only [fu] at ok
 cases e : m τ G with
 | stuck => rw [e] at ok; exact ok
 | fR c G' => rw [e] at ok; exact fun H' ρ' f eu => ok σ H' ρ' f eu
 | ok d G' => rw [e] at ok; exact fun v H' ρ' f eu r => ⟨τ, ρ', G', d, eu, r, ok.fut f⟩
theorem Gh {g : tG} {body : MS} {Dd : Ends} {H0 : Hp} {σ0 : L2.St} {ρ0 : List Addr} {G0 : DH} {τ0 : DS} (lo : Int) (n : Nat) (ab : Ab X.K X.mg σ0 H0 τ0 ρ0 G0) (ok : yX X.K X.mg EE H0 ρ0 Dd (fq g body ((List.range n).map fun (k : Nat) => .int (lo + (k : Int))) τ0 G0)) :
  ∃ W : Nat → Nat → L2.St → Hp → Prop, (∃ m, W 0 m σ0 H0) ∧ ∀ i m σ H, W i m σ H →
   ((AA lo n).stop i H ∧ Dd.nx σ H) ∨ ((AA lo n).go i H ∧ ∃ N : L2.St → Hp → Prop, (∀ σ' H', N σ' H' → ∃ m', m' < m ∧ W (i + 1) m' σ' H') ∧ ∀ x H', (AA lo n).zB i H x H' → BZ X.K X.mg g x σ H' fun σ2 H2 => kT X.K X.mg EE body { Dd with nx := N, ct := N, bk := Dd.nx } σ2 H2) :=
 qA (J := AA lo n) _ (fun i H ρ hi f => by simpa [AA] using hi) (fun i H ρ hi f => by simpa [AA] using hi) (fun i d H ρ x H' hd f y => by
  obtain ⟨rfl, rfl⟩ := y
  rw [List.getElem?_map] at hd
  cases q : (List.range n)[i]? with
  | none => rw [q] at hd; cases hd
  | some k =>
   rw [q] at hd
   obtain ⟨hk, e⟩ := List.getElem?_eq_some_iff.mp q
   rw [List.getElem_range] at e
   subst e
   cases hd
   exact ⟨rfl, by unfold Rep; rfl⟩) ab ok
theorem Ic {g : tG} {m : DS → M (List D)} {body : List Stmt} {p pc : Pos} (hp : PassesOwn (model X.prog X.w) X.A X.env X.xe) (hc : X.calm = true) (hm : X.mg "range" = none) (ha : QA X EE [a] m) (hg : QG X tg g) (hb : ER X EE body ms)
  (Hq : Gl X "range" := by rfl) (hst : starEach [a] X.env = [(false, eval a X.env)] := by rfl) (hs : ∀ x, foldedSetIterable (.Call (.Name "range" p) [a] [] pc) X.env x = pure x := by intro _; rfl) :
  QS X EE (.For tg (.Call (.Name "range" p) [a] [] pc) body [] pos) (jN mR g m ms) := PS.mono (Dv hp hc (zC Hq hm ha hst) hg hb hs) fun Dd σ H h => by
 obtain ⟨τ, ρ, G, ab, ok⟩ := Ib (k := fun τ ds G => match mR ds with | some xs => fq g ms xs τ G | none => .stuck) h
 refine ⟨τ, ρ, G, ab, ?_⟩
 cases e : m τ G with
 | stuck => rw [e] at ok; exact ok
 | fR c G' => rw [e] at ok; exact ok
 | ok ds G' =>
  rw [e] at ok
  intro vs H1 ρ1 f1 uS r1
  obtain ⟨τ2, ρ2, G2, d2, gf, r2, bD⟩ := ok vs H1 ρ1 f1 uS r1
  cases q : mR d2 with
  | none => rw [q] at bD; exact bD.elim
  | some xs =>
   rw [q] at bD
   unfold mR at q
   split at q
   ·rename_i j
    split at q
    ·rename_i hj
     cases q
     unfold aG at r2
     obtain ⟨v, r, rfl, h1, h2⟩ := r2
     unfold aG at h2; subst h2
     unfold Rep at h1; subst h1
     exact ⟨j, rfl, hj.1, hj.2, Gh 0 j.toNat gf bD⟩
    ·cases q
   ·cases q
end
end L3
end
section
set_option Elab.async false
set_option linter.all false
set_option maxRecDepth 100000
namespace L3
open PySem PySem.Spec L2
noncomputable def XW (K : PySem.W.Frag) (mg : Str → Option Value) (H : Hp) (ρ : List Addr) : Out D → VK → XK → Prop
 | .stuck, _, _ => False
 | .ok d G', Q, _ => ∀ v H' ρ', fY K H H' ρ ρ' → lO K mg H' ρ' G' → Rep K mg ρ' H' d v → Q v H'
 | .fR c G', _, E => ∀ cls H' ρ', (match c with | .mk n _ => mg n = some cls) → fY K H H' ρ ρ' → lO K mg H' ρ' G' → E cls none H'
noncomputable def aQ (K : PySem.W.Frag) (mg : Str → Option Value) (n : Nat) (m : List D → M D) : Sp := fun vs H Q E => ∃ ds ρ G, ds.length = n ∧ lO K mg H ρ G ∧ aG K mg ρ H ds vs ∧ XW K mg H ρ (m ds G) Q E
theorem aQ.len {K : PySem.W.Frag} {mg : Str → Option Value} {n : Nat} {m : List D → M D} {vs : List V} {H : Hp} {Q : VK} {E : XK} (h : aQ K mg n m vs H Q E) : vs.length = n := by
 obtain ⟨ds, ρ, G, e, _, r, _⟩ := h
 rw [← r.length, e]
noncomputable def T6 (mg : Str → Option Value) (EE : gK) (σ : L2.St) : XK := fun cls _ H' => ∃ c, (match c with | .mk n _ => mg n = some cls) ∧ EE c σ H'
noncomputable def OM (CX : yR) (X : Cx) (EE : gK) : Prop := ∀ (pins : List (Addr × Obj)) (σ : L2.St) (H : Hp) (s : Shared) (e : Value) (s' : Shared), Inv X pins σ H s → CX X.stack H s (T6 X.mg EE σ) e s' → X.xe e s'
section
variable {X : Cx} {CX : yR} {EE : gK} {k n : Nat} {f : Addr} {fd : FuncData} {ps : List Str} {mf : List D → M D} {x : Str} {p pos : Pos} {e : Expr} {es : List Expr} {m : DS → M (List D)}
theorem lO.ab {K : PySem.W.Frag} {mg : Str → Option Value} {σ : L2.St} {H H' : Hp} {τ : DS} {ρ ρ' : List Addr} {G G' : DH} (ab : Ab K mg σ H τ ρ G) (f : fY K H H' ρ ρ') (h : lO K mg H' ρ' G') : Ab K mg σ H' τ ρ' G' := ⟨ab.st.mono f, h⟩
theorem AO {pins : List (Addr × Obj)} {σ : L2.St} {H : Hp} {s : Shared} {Q : VK} {us : List Value} {vs : List V} {τ : DS} {ρ : List Addr} {G : DH} {ds : List D} (F : aW X.prog X.w X.K X.mg X.base CX k f fd ps (aQ X.K X.mg n mf)) (hr : iK k X.A) (hb : Binds X.K fd ps [])
  (hx : OM CX X EE) (I : Inv X pins σ H s) (r : Vals vs us) (ab : Ab X.K X.mg σ H τ ρ G) (rs : aG X.K X.mg ρ H ds vs) (hn : ds.length = n) (ok : mO X.K X.mg EE H σ τ ρ (mf ds G) Q) : wpAny (model X.prog X.w) X.A (call (.ref f) us) (EP X pins σ Q) X.xe s := by
 have h : aQ X.K X.mg n mf vs H Q (T6 X.mg EE σ) := by
  refine ⟨ds, ρ, G, hn, ab.hp, rs, ?_⟩
  cases q : mf ds G with
  | stuck => rw [q] at ok; exact ok
  | ok d G' => rw [q] at ok; exact fun v H' ρ' f hp r => ok v H' ρ' f (lO.ab ab f hp) r
  | fR c G' => rw [q] at ok; exact fun cls H' ρ' hc f hp => ⟨c, hc, ok H' ρ' f (lO.ab ab f hp)⟩
 have hl : (us ++ []).length = ps.length := by rw [List.append_nil, ← r.length]; exact F.len _ _ _ _ h
 have So := hb s us I.Dp hl
 rw [List.append_nil] at So
 refine wpAny_call (codeAny_mono (F.run X.A X.stack s H ⟨us, []⟩ us vs Q (T6 X.mg EE σ) hr I.j7 I.os.2 So r h) fun r s' hq => ?_)
 cases r with
 | error e => exact hx pins σ H s e s' I hq
 | ok fl =>
  cases fl with
  | ret u => exact I.after hq
  | next => exact False.elim hq
  | brk => exact False.elim hq
  | cont => exact False.elim hq
noncomputable def aV (n : Nat) (mf : List D → M D) (m : DS → M (List D)) : DS → M D := aA (fun ds => if ds.length = n then mf ds else M.stop) m
theorem KR (F : aW X.prog X.w X.K X.mg X.base CX k f fd ps (aQ X.K X.mg n mf)) (hr : iK k X.A) (hm : X.mg x = some (.ref f)) (hk : PySem.W.keepIn X.K (.ref f) = true) (hb : Binds X.K fd ps []) (hx : OM CX X EE)
  (ha : QA X EE (e :: es) m) (hg : Gl X x := by rfl) (hdb : (x == ("__debug__" : Str)) = false := by decide) (he : starEach (e :: es) X.env = (false, eval e X.env) :: starEach es X.env := by rfl) (hpl : (backTo pos (starEach es X.env)).any (·.1) = false := by rfl) :
  QE X EE (.Call (.Name x p) (e :: es) [] pos) (aV n mf m) := by
 intro pins s σ H Q I h
 obtain ⟨τ, ρ, G, ab, ok⟩ := xC (k := fun _ ds => if ds.length = n then mf ds else M.stop) h
 refine wpAny_Call_Name_kw (Ay I hg hm ?_ hdb)
 refine PySem.W.callWith_K (h₀ := X.base) I.ok.mod.Mv hk (ja (ha pos pins s σ H _ I ⟨τ, ρ, G, ab, ok⟩) fun us s1 ⟨vs, H1, I1, r, q⟩ => ⟨I1.Dp, ?_⟩) he hpl
 obtain ⟨τ1, ρ1, G1, ds, uS, rs, J1⟩ := q
 by_cases hn : ds.length = n
 ·rw [if_pos hn] at J1
  exact AO F hr hb hx I1 r uS rs hn J1
 ·rw [if_neg hn] at J1
  exact J1.elim
end
noncomputable def cH (N : Nat) (ms : MS) (ds : List D) : M D := fun G => match ms (ds.map some ++ List.replicate (N - ds.length) none) G with
 | .stuck => .stuck
 | .nx _ G' => .ok .kr G'
 | .rt d G' => .ok d G'
 | .bk _ _ => .stuck
 | .ct _ _ => .stuck
 | .xn c _ G' => .fR c G'
theorem xE {K : PySem.W.Frag} {mg : Str → Option Value} {H : Hp} {ρ : List Addr} {ds : List D} {vs : List V} {N : List Str} (r : aG K mg ρ H ds vs) : yW K mg H ρ (L2.start N vs) (ds.map some ++ List.replicate (N.length - ds.length) none) := by
 have hl := r.length
 refine ⟨by unfold L2.start; simp [hl], fun i d e => ?_⟩
 have hi : i < ds.length := by
  by_cases hi : i < ds.length
  ·exact hi
  ·rw [List.getElem?_append_right (by simpa using hi), List.getElem?_replicate] at e
   split at e <;> cases e
 rw [List.getElem?_append_left (by simpa using hi), List.getElem?_map] at e
 cases q : ds[i]? with
 | none => rw [q] at e; cases e
 | some d' =>
  rw [q] at e; cases e
  obtain ⟨v, e1, r1⟩ := r.get q
  refine ⟨v, ?_, r1⟩
  unfold L2.start
  rw [List.getElem?_append_left (by simp; omega), List.getElem?_map, e1]
  rfl
section
variable {P : Program} {w : World} {K : PySem.W.Frag} {mg : Str → Option Value} {base : Heap} {f : Addr} {fd : FuncData}
end
end L3
end
section
set_option Elab.async false
set_option linter.all false
set_option maxRecDepth 100000
namespace L3
open PySem PySem.Spec L2
section
variable {X : Cx} {EE : gK} {a b c : Expr} {ma mb mc : DS → M D} {pos : Pos}
noncomputable def KS (X : Cx) (EE : gK) (f : List D → M D) : List V → Hp → VK → Prop := fun xs H Q => ∃ σ τ ρ G ds, Ab X.K X.mg σ H τ ρ G ∧ aG X.K X.mg ρ H ds xs ∧ mO X.K X.mg EE H σ τ ρ (f ds G) Q
theorem xF {f : List D → M D} : CallD X EE (KS X EE f) f := fun σ H τ ρ G xs ds Q ab r ok => ⟨σ, τ, ρ, G, ds, ab, r, ok⟩
theorem kU {K : PySem.W.Frag} {mg : Str → Option Value} {ρ : List Addr} {H : Hp} {d : D} {xs : List V} (r : aG K mg ρ H [d] xs) : ∃ x, xs = [x] ∧ Rep K mg ρ H d x := by
 unfold aG at r
 obtain ⟨v, r', rfl, h1, h2⟩ := r
 unfold aG at h2; subst h2
 exact ⟨v, rfl, h1⟩
theorem LV {K : PySem.W.Frag} {mg : Str → Option Value} {ρ : List Addr} {H : Hp} {d e : D} {xs : List V} (r : aG K mg ρ H [d, e] xs) : ∃ x y, xs = [x, y] ∧ Rep K mg ρ H d x ∧ Rep K mg ρ H e y := by
 unfold aG at r
 obtain ⟨v, r', rfl, h1, h2⟩ := r
 obtain ⟨y, rfl, h3⟩ := kU h2
 exact ⟨v, y, rfl, h1, h3⟩
noncomputable def g8 : List D → M D
 | [d] => fun G => match bE G d with
  | some (.lst xs) => .ok (.int xs.length) G
  | some (.tup xs) => .ok (.int xs.length) G
  | some (.str z) => if z.length ≤ sizeLine then .ok (.int z.length) G else .stuck
  | none => .stuck
 | _ => M.stop
theorem Gi : iB X (.builtin "len") (KS X EE g8) := by
 intro pins s σ0 H xs us Q I r ⟨σ, τ, ρ, G, ds, ab, rs, ok⟩
 match ds, ok with
 | [], ok => exact ok.elim
 | _ :: _ :: _, ok => exact ok.elim
 | [d], ok =>
  obtain ⟨x, rfl, rx⟩ := kU rs
  dsimp only [g8] at ok
  cases q : bE G d with
  | none => rw [q] at ok; exact ok.elim
  | some sk =>
   rw [q] at ok
   cases sk with
   | lst zs =>
    obtain ⟨p, vs, rfl, sq, rv⟩ := dX (pins := pins) (σ0 := σ0) (s := s) ab.hp rx q
    exact tB pins s σ0 H _ us Q I r ⟨p, vs, rfl, .inl sq, ok _ H ρ .refl ab (by unfold Rep; rw [rv.length])⟩
   | tup zs =>
    obtain ⟨p, vs, rfl, sq, rv⟩ := iV rx q
    exact tB pins s σ0 H _ us Q I r ⟨p, vs, rfl, .inr sq, ok _ H ρ .refl ab (by unfold Rep; rw [rv.length])⟩
   | str z =>
    obtain ⟨rfl, rfl⟩ := qv rx q
    dsimp only at ok
    by_cases hz : z.length ≤ sizeLine
    ·rw [if_pos hz] at ok
     exact AG pins s σ0 H _ us Q I r ⟨z, rfl, hz, ok _ H ρ .refl ab (by unfold Rep; rfl)⟩
    ·rw [if_neg hz] at ok; exact ok.elim
inductive Ty where
 | kr | bl | int | str | tup | lst | dct
 deriving DecidableEq
noncomputable def Ty.nm : Ty → String
 | .kr => "NoneType" | .bl => "bool" | .int => "int" | .str => "str" | .tup => "tuple" | .lst => "list" | .dct => "dict"
noncomputable def Ss (G : DH) : D → Option Ty
 | .kr => some .kr
 | .bl _ => some .bl
 | .int _ => some .int
 | .str _ => some .str
 | .tup _ => some .tup
 | .con _ => some .lst
 | .obj n => match G[n]? with
  | some (.lst _) => some .lst
  | _ => none
 | .fn _ => none
 | .zM _ _ => none
noncomputable def Ty.is (t c : Ty) : Bool := decide (t = c) || (decide (t = .bl) && decide (c = .int))
theorem rS (K : PySem.W.Frag) : ∀ (t c : Ty), c ≠ .kr → PySem.W.kitOne K (.type t.nm) (.type c.nm) = some (t.is c) := by
 intro t c h
 cases t <;> cases c <;> first | exact absurd rfl h | rfl | (with_unfolding_all rfl) | decide +kernel
noncomputable def B0 (c : Ty) (d : D) : M D := fun G => match Ss G d with
 | some t => .ok (.bl (t.is c)) G
 | none => .stuck
noncomputable def DL (c : Ty) (m : DS → M D) : DS → M D := fun τ => (m τ).bind (B0 c)
theorem KU {c : Ty} (hc : c ≠ .kr) {pins : List (Addr × Obj)} {s : Shared} {σ0 σ : L2.St} {H : Hp} {τ : DS} {ρ : List Addr} {G : DH} {d : D} {x : V} {u : Value} {Q : VK} (I : Inv X pins σ0 H s) (ab : Ab X.K X.mg σ H τ ρ G) (rx : Rep X.K X.mg ρ H d x) (ru : RelV x u)
  (ok : mO X.K X.mg EE H σ τ ρ (B0 c d G) Q) : wpAny (model X.prog X.w) X.A (call (.builtin "isinstance") [u, .type c.nm]) (EP X pins σ0 Q) X.xe s := by
 dsimp only [B0] at ok
 refine oF I.os.2 ?_
 have fin : ∀ {b : Bool}, Q (.bl b) H → ∀ tk, 0 < tk → EP X pins σ0 Q (.bool b) { s with toks := tk } := fun q tk ht => ⟨.bl _, H, I.tok tk, rfl, q⟩
 cases d with
 | kr =>
  have q := ok (.bl _) H ρ .refl ab (by unfold Rep; rfl)
  unfold Rep at rx; subst rx; cases ru
  exact PySem.W.kia_one PySem.W.kitx_none I.Dp True.intro (rS X.K .kr c hc) (fun z => nomatch z) (fin q)
 | bl y =>
  have q := ok (.bl _) H ρ .refl ab (by unfold Rep; rfl)
  unfold Rep at rx; subst rx; cases ru
  exact PySem.W.kia_one PySem.W.kitx_bool I.Dp True.intro (rS X.K .bl c hc) (fun z => nomatch z) (fin q)
 | int y =>
  have q := ok (.bl _) H ρ .refl ab (by unfold Rep; rfl)
  unfold Rep at rx; subst rx; obtain ⟨t, rfl⟩ := ru
  exact PySem.W.kia_one PySem.W.kitx_int I.Dp True.intro (rS X.K .int c hc) (fun z => nomatch z) (fin q)
 | str y =>
  have q := ok (.bl _) H ρ .refl ab (by unfold Rep; rfl)
  unfold Rep at rx; subst rx; obtain ⟨t, rfl⟩ := ru
  exact PySem.W.kia_one PySem.W.kitx_str I.Dp True.intro (rS X.K .str c hc) (fun z => nomatch z) (fin q)
 | tup ys =>
  have q := ok (.bl _) H ρ .refl ab (by unfold Rep; rfl)
  unfold Rep at rx
  obtain ⟨p, vs, rfl, sq, _⟩ := rx
  cases ru
  obtain ⟨its, _, ⟨o, h1, h2, _⟩, _⟩ := I.tuple sq
  exact PySem.W.kia_one PySem.W.kitx_tuple I.Dp ⟨o, h1, h2⟩ (rS X.K .tup c hc) (fun z => nomatch z) (fin q)
 | con ys =>
  have q := ok (.bl _) H ρ .refl ab (by unfold Rep; rfl)
  unfold Rep at rx
  obtain ⟨p, vs, rfl, sq, _⟩ := rx
  cases ru
  obtain ⟨its, _, ⟨o, k, h1, h2, _⟩, _⟩ := I.list sq.seq
  exact PySem.W.kia_one PySem.W.kitx_list I.Dp ⟨o, h1, h2⟩ (rS X.K .lst c hc) (fun z => nomatch z) (fin q)
 | obj n =>
  unfold Rep at rx
  obtain ⟨p, rfl, e1⟩ := rx
  cases ru
  dsimp only [Ss] at ok
  cases g : G[n]? with
  | none => rw [g] at ok; exact ok.elim
  | some o =>
   cases o with
   | dead => first | (rw [q] at ok; exact ok.elim) | (rw [q] at bD; exact bD.elim) | (rw [q] at e; cases e; done) | (rw [g] at ok; exact ok.elim) | (rw [g] at q; cases q; done) | (rw [g] at h; cases h; done) | (rw [g2] at ok; exact ok.elim) | (rw [g1, g2] at ok; exact ok.elim) | (rw [q1] at ok; exact ok.elim) | exact ok.elim
   | dct kv => first | (rw [q] at ok; exact ok.elim) | (rw [q] at bD; exact bD.elim) | (rw [q] at e; cases e; done) | (rw [g] at ok; exact ok.elim) | (rw [g] at q; cases q; done) | (rw [g] at h; cases h; done) | (rw [g2] at ok; exact ok.elim) | (rw [g1, g2] at ok; exact ok.elim) | (rw [q1] at ok; exact ok.elim) | exact ok.elim
   | lst ys =>
    rw [g] at ok
    have q := ok (.bl _) H ρ .refl ab (by unfold Rep; rfl)
    obtain ⟨p', vs, e2, hp, _⟩ := ab.hp.lst g
    rw [e1] at e2; cases e2
    obtain ⟨its, _, ⟨o, k, h1, h2, _⟩, _⟩ := I.list (.of hp)
    exact PySem.W.kia_one PySem.W.kitx_list I.Dp ⟨o, h1, h2⟩ (rS X.K .lst c hc) (fun z => nomatch z) (fin q)
 | zM _ _ => exact ok.elim
 | fn x => exact ok.elim
theorem Nr (c : Ty) {p pt : Pos} {x : Str} (hc : c ≠ .kr) (hm : X.mg "isinstance" = none) (hmt : X.mg x = none) (ha : QE X EE a ma) (hb : bootBuiltins x = some (.type c.nm))
  (hg : Gl X "isinstance" := by rfl) (hgt : Gl X x := by rfl) (hnt : x ≠ "__name__" := by decide) (hdt : (x == ("__debug__" : Str)) = false := by decide)
  (he : starEach [a, .Name x pt] X.env = (false, eval a X.env) :: starEach [.Name x pt] X.env := by rfl) (XX : starEach [.Name x pt] X.env = (false, eval (.Name x pt) X.env) :: starEach [] X.env := by rfl) (hpl : (backTo pos (starEach [.Name x pt] X.env)).any (·.1) = false := by rfl)
  (hbi : bootBuiltins "isinstance" = some (.builtin "isinstance") := by first | exact PyProof.Rows.boot_isinstance | decide +kernel) :
  QE X EE (.Call (.Name "isinstance" p) [a, .Name x pt] [] pos) (DL c ma) := by
 have hT : PE X (.Name x pt) (tC (.ty c.nm)) := J6 hgt hmt hb rfl hnt hdt
 have hA : PA X [a, .Name x pt] (HC (eV X.K X.mg EE ma) (HC (tC (.ty c.nm)) Po)) := AB ha (AB hT HE XX) he
 intro pins s σ H Q I h
 obtain ⟨τ, ρ, G, ab, ok⟩ := mw (k := fun _ d => B0 c d) h
 refine wpAny_Call_Name_kw (nv I hg hm hbi ?_ (by decide) (by decide))
 refine PyProof.Rows.callWith_builtin1 (ja (hA pos pins s σ H (fun vs H1 => ∃ x, vs = [x, .ty c.nm] ∧ ∃ τ ρ G d, Ab X.K X.mg σ H1 τ ρ G ∧ Rep X.K X.mg ρ H1 d x ∧ mO X.K X.mg EE H1 σ τ ρ (B0 c d G) Q) I ⟨τ, ρ, G, ab, ?_⟩) fun us s1 ⟨vs, H1, I1, r1, q1⟩ => ?_) he hpl
 ·cases e : ma τ G with
  | stuck => rw [e] at ok; exact ok
  | fR c G' => rw [e] at ok; exact ok
  | ok d G' => rw [e] at ok; exact fun v H' ρ' f' eu r' => ⟨v, rfl, ok v H' ρ' f' eu r'⟩
 ·obtain ⟨y, rfl, τ2, ρ2, G2, d, gf, rd, bD⟩ := q1
  cases r1 with
  | cons ry rr =>
   cases rr with
   | cons rt rr =>
    cases rr
    cases rt
    exact KU hc I1 gf rd ry bD
end
end L3
end
section
set_option Elab.async false
set_option linter.all false
set_option maxRecDepth 100000
namespace L3
open PySem PySem.Spec L2
section
variable {X : Cx} {EE : gK} {a b c : Expr} {ma mb mc : DS → M D} {pos : Pos}
noncomputable def tH : List D → Option (List Bool)
 | [] => some []
 | .bl b :: r => (tH r).map (b :: ·)
 | _ :: _ => none
noncomputable def Ie (any : Bool) : List D → M D
 | [d] => fun G => match bE G d with
  | some (.lst xs) => match tH xs with
   | some bs => .ok (.bl (if any then bs.any id else bs.all id)) G
   | none => .stuck
  | _ => .stuck
 | _ => M.stop
theorem zQ {K : PySem.W.Frag} {mg : Str → Option Value} {ρ : List Addr} {H : Hp} : ∀ {ds : List D} {vs : List V} {us : List Value} {bs : List Bool}, aG K mg ρ H ds vs → Vals vs us → tH ds = some bs → us = bs.map Value.bool
 | [], vs, us, bs, r, v, e => by unfold aG at r; subst r; cases v; cases e; rfl
 | d :: ds, vs, us, bs, r, v, e => by
  unfold aG at r
  obtain ⟨x, r', rfl, h1, h2⟩ := r
  cases v with
  | cons v1 v2 =>
   cases d <;> try (cases e; done)
   rename_i b
   dsimp only [tH] at e
   cases q : tH ds with
   | none => rw [q] at e; cases e
   | some bs' =>
    rw [q] at e; cases e
    unfold Rep at h1; subst h1; cases v1
    rw [zQ h2 v2 q]; rfl
theorem DM {s : Shared} {h' : Heap} {o : Obj} (hk : ∀ b x, b ∉ [s.heap.objs.size] → (s.heap.push o).get? b = some x → h'.get? b = some x) : ∀ b x, s.heap.get? b = some x → h'.get? b = some x :=
 fun b x e => hk b x (fun hm => by rw [List.mem_singleton.mp hm] at e; exact Nat.lt_irrefl _ (Heap.lt_size e)) (Heap.get?_push_of_some _ e)
theorem DP (bs : List Bool) : ((List.range bs.length).all fun i => (bs[i]?).getD true) = bs.all id := by
 rw [Bool.eq_iff_iff, List.all_eq_true, List.all_eq_true]
 constructor
 ·intro h b hb
  obtain ⟨i, hi, rfl⟩ := List.getElem_of_mem hb
  have := h i (List.mem_range.mpr hi)
  simpa [List.getElem?_eq_getElem hi] using this
 ·intro h i hi
  have hi' := List.mem_range.mp hi
  simp only [List.getElem?_eq_getElem hi', Option.getD_some]
  exact h _ (List.getElem_mem hi')
theorem Gj (hc : X.calm = true) : iB X (.builtin "all") (KS X EE (Ie false)) := by
 intro pins s σ0 H xs us Q I r ⟨σ, τ, ρ, G, ds, ab, rs, ok⟩
 match ds, ok with
 | [], ok => exact ok.elim
 | _ :: _ :: _, ok => exact ok.elim
 | [d], ok =>
  obtain ⟨x, rfl, rx⟩ := kU rs
  obtain ⟨u, rfl, ru⟩ := vals1 r
  dsimp only [Ie] at ok
  cases q : bE G d with
  | none => rw [q] at ok; exact ok.elim
  | some sk =>
   rw [q] at ok
   cases sk with
   | tup zs => exact ok.elim
   | str z => exact ok.elim
   | lst zs =>
    dsimp only at ok
    cases qb : tH zs with
    | none => rw [qb] at ok; exact ok.elim
    | some bs =>
     rw [qb] at ok
     obtain ⟨p, vs, rfl, sq, rv⟩ := dX (pins := pins) (σ0 := σ0) (s := s) ab.hp rx q
     cases ru
     obtain ⟨its, vv, pl, hz⟩ := I.list sq
     have e := zQ rv vv qb
     subst e
     have hl := pl.isList
     have hlt : p < s.heap.objs.size := by obtain ⟨_, e, _⟩ := hl; exact Heap.lt_size e
     refine oF I.os.2 (call_all_walk (wpAny_pyIter_list hl ?_))
     refine ⟨s.heap.objs.size, [s.heap.objs.size, p], [s.heap.objs.size], (bs.map Value.bool).toArray.size, _, _, fun i => (bs[i]?).getD true, rfl, Walks.list (A := X.A.in1) (I.ok.hd hc) _ p (Nat.ne_of_lt hlt) _,
      ⟨⟨_, Heap.get?_push_size _ rfl, rfl, rfl⟩, hl.push _⟩, fun i v s' Q' E' hP hQ => ?_, fun h' tk hk ht => ?_⟩
     ·have PV : (bs.map Value.bool)[i]? = some v := by simpa using hP
      rw [List.getElem?_map] at PV
      cases qi : bs[i]? with
      | none => rw [qi] at PV; cases PV
      | some k =>
       rw [qi] at PV; cases PV
       simp only [qi, Option.getD_some] at hQ
       exact wpAny_truthy_bool hQ
     ·rw [show (bs.map Value.bool).toArray.size = bs.length by simp, DP]
      exact ⟨.bl _, H, I.kept (t' := tk) (DM hk), rfl, ok _ H ρ .refl ab (by unfold Rep; rfl)⟩
noncomputable def rT (g : Int → Int → Int) : List D → M D
 | [.int i, .int j] => M.ret (.int (g i j))
 | _ => M.stop
theorem Ig {g : Int → Int → Int} {ds : List D} {G : DH} {σ : L2.St} {H : Hp} {τ : DS} {ρ : List Addr} {Q : VK} (ok : mO X.K X.mg EE H σ τ ρ (rT g ds G) Q) : ∃ i j, ds = [.int i, .int j] ∧ mO X.K X.mg EE H σ τ ρ (.ok (.int (g i j)) G) Q := by
 unfold rT at ok
 split at ok
 ·exact ⟨_, _, rfl, ok⟩
 ·exact ok.elim
theorem Gk (hc : X.calm = true) : iB X (.builtin "max") (KS X EE (rT fun i j => if j > i then j else i)) := by
 intro pins s σ0 H xs us Q I r ⟨σ, τ, ρ, G, ds, ab, rs, ok⟩
 obtain ⟨i, j, rfl, ok⟩ := Ig ok
 obtain ⟨x, y, rfl, r1, r2⟩ := LV rs
 unfold Rep at r1 r2; subst r1 r2
 exact FW hc pins s σ0 H _ us Q I r ⟨i, j, rfl, ok _ H ρ .refl ab (by unfold Rep; rfl)⟩
noncomputable def LW (X : Cx) (EE : gK) (f : D → List D → M D) : V → List V → Hp → VK → Prop := fun x xs H Q => ∃ σ τ ρ G d ds, Ab X.K X.mg σ H τ ρ G ∧ Rep X.K X.mg ρ H d x ∧ aG X.K X.mg ρ H ds xs ∧ mO X.K X.mg EE H σ τ ρ (f d ds G) Q
noncomputable def iE (T : String) (G : DH) : D → Bool
 | .str _ => T == "str"
 | .int _ => T == "int"
 | .con _ => T == "list"
 | .obj n => match G[n]? with
  | some (.lst _) => T == "list"
  | _ => false
 | _ => false
theorem zR {T : String} {σ : L2.St} {H : Hp} {τ : DS} {ρ : List Addr} {G : DH} {d : D} {x : V} (ab : Ab X.K X.mg σ H τ ρ G) (r : Rep X.K X.mg ρ H d x) (h : iE T G d = true) : Sn X.K T x H := by
 cases d with
 | str z => unfold Rep at r; subst r; exact eq_of_beq h
 | int z => unfold Rep at r; subst r; exact eq_of_beq h
 | con zs =>
  unfold Rep at r
  obtain ⟨p, vs, rfl, sq, _⟩ := r
  exact .inl ⟨eq_of_beq h, vs, sq.seq⟩
 | obj n =>
  unfold Rep at r
  obtain ⟨p, rfl, e1⟩ := r
  dsimp only [iE] at h
  cases g : G[n]? with
  | none => rw [g] at h; cases h
  | some o =>
   cases o with
   | dead => first | (rw [q] at ok; exact ok.elim) | (rw [q] at bD; exact bD.elim) | (rw [q] at e; cases e; done) | (rw [g] at ok; exact ok.elim) | (rw [g] at q; cases q; done) | (rw [g] at h; cases h; done) | (rw [g2] at ok; exact ok.elim) | (rw [g1, g2] at ok; exact ok.elim) | (rw [q1] at ok; exact ok.elim) | exact ok.elim
   | dct kv => first | (rw [q] at ok; exact ok.elim) | (rw [q] at bD; exact bD.elim) | (rw [q] at e; cases e; done) | (rw [g] at ok; exact ok.elim) | (rw [g] at q; cases q; done) | (rw [g] at h; cases h; done) | (rw [g2] at ok; exact ok.elim) | (rw [g1, g2] at ok; exact ok.elim) | (rw [q1] at ok; exact ok.elim) | exact ok.elim
   | lst ys =>
    rw [g] at h
    obtain ⟨p', vs, e2, hp, _⟩ := ab.hp.lst g
    rw [e1] at e2; cases e2
    exact .inl ⟨eq_of_beq h, vs, .of hp⟩
 | _ => cases h
noncomputable def ck (T : String) (f : D → List D → M D) (mo : DS → M D) (m : DS → M (List D)) : DS → M D := fun τ => (mo τ).bind fun d G => if iE T G d then (m τ).bind (fun ds => f d ds) G else .stuck
theorem B3 {o e : Expr} {es : List Expr} {name : Str} {apos cpos : Pos} {T id : String} {f : D → List D → M D} {mo : DS → M D} {m : DS → M (List D)} (pa : PlainAttrs T) (slot : Slot T name id) (hty : typeOf (.builtin id) = pure (.type "method_descriptor")) (hm : DE X id (LW X EE f)) (ho : QE X EE o mo) (ha : QA X EE (e :: es) m)
  (hbase : attributeBase o name X.env (eval o X.env) = eval o X.env := by rfl)
  (hfew : ((backTo cpos (starEach (e :: es) X.env)).all (fun x => !x.1) && (backToKw cpos (keywordEach [] X.env)).all (fun x => x.1.isSome)
   && decide ((e :: es).length + ([] : List Keyword).length + (if ([] : List Keyword).isEmpty then 0 else 1) < 30)) = true := by rfl)
  (hline : (apos.endLine == cpos.line) = true := by rfl) (hs : starEach (e :: es) X.env = (false, eval e X.env) :: starEach es X.env := by rfl) (hplain : (backTo cpos (starEach es X.env)).any (·.1) = false := by rfl) :
  QE X EE (.Call (.Attribute o name apos) (e :: es) [] cpos) (ck T f mo m) := PE.mono (Pz pa slot hty hm ho ha hbase hfew hline hs hplain) fun σ H Q h => by
 obtain ⟨τ, ρ, G, ab, ok⟩ := mw (k := fun τ d G => if iE T G d then (m τ).bind (fun ds => f d ds) G else .stuck) h
 refine ⟨τ, ρ, G, ab, ?_⟩
 cases e : mo τ G with
 | stuck => rw [e] at ok; exact ok
 | fR c G' => rw [e] at ok; exact ok
 | ok d G' =>
  rw [e] at ok
  intro v H' ρ' f' eu r'
  obtain ⟨τ2, ρ2, G2, d2, gf, r2, bD⟩ := ok v H' ρ' f' eu r'
  by_cases hk : iE T G2 d2 = true
  ·rw [if_pos hk] at bD
   refine ⟨zR gf r2 hk, τ2, ρ2, G2, gf, ?_⟩
   dsimp only [M.bind] at bD
   cases e2 : m τ2 G2 with
   | stuck => rw [e2] at bD; exact bD
   | fR c G' => rw [e2] at bD; exact bD
   | ok ds G3 =>
    rw [e2] at bD
    exact fun vs H3 ρ3 f3 Ge r3 => ⟨σ, τ2, ρ3, G3, d2, ds, Ge, r2.mono f3, r3, bD.fut f3⟩
  ·rw [if_neg hk] at bD; exact bD.elim
theorem Nt {o : Expr} {name : Str} {apos cpos : Pos} {T id : String} {f : D → List D → M D} {mo : DS → M D} (pa : PlainAttrs T) (slot : Slot T name id) (hty : typeOf (.builtin id) = pure (.type "method_descriptor")) (hm : DE X id (LW X EE f)) (ho : QE X EE o mo)
  (hbase : attributeBase o name X.env (eval o X.env) = eval o X.env := by rfl) (hline : (apos.endLine == cpos.line) = true := by rfl) :
  QE X EE (.Call (.Attribute o name apos) [] [] cpos) (ck T f mo aq) := PE.mono (Nb pa slot hty hm ho hbase hline) fun σ H Q h => by
 obtain ⟨τ, ρ, G, ab, ok⟩ := mw (k := fun τ d G => if iE T G d then (aq τ).bind (fun ds => f d ds) G else .stuck) h
 refine ⟨τ, ρ, G, ab, ?_⟩
 cases e : mo τ G with
 | stuck => rw [e] at ok; exact ok
 | fR c G' => rw [e] at ok; exact ok
 | ok d G' =>
  rw [e] at ok
  intro v H' ρ' f' eu r'
  obtain ⟨τ2, ρ2, G2, d2, gf, r2, bD⟩ := ok v H' ρ' f' eu r'
  by_cases hk : iE T G2 d2 = true
  ·rw [if_pos hk] at bD
   exact ⟨zR gf r2 hk, σ, τ2, ρ2, G2, d2, [], gf, r2, .nil, bD⟩
  ·rw [if_neg hk] at bD; exact bD.elim
noncomputable def fZ : D → List D → M D
 | .obj n, [v] => fun G => match G[n]? with
  | some (.lst xs) => if xs.length < sizeLine then .ok .kr (G.set n (.lst (xs ++ [v]))) else .stuck
  | _ => .stuck
 | _, _ => M.stop
theorem AQ {σ : L2.St} {H : Hp} {τ : DS} {ρ : List Addr} {G : DH} {n : Nat} {xs ys : List D} {d : D} {w : V} {p : Addr} {vs ws : List V} {Q : VK} (ab : Ab X.K X.mg σ H τ ρ G) (hn : ρ[n]? = some p) (hp : H p = some (.lst vs)) (r : aG X.K X.mg ρ H ys ws)
  (rd : ∀ H', fY X.K H H' ρ ρ → Rep X.K X.mg ρ H' d w) (ok : mO X.K X.mg EE H σ τ ρ (.ok d (G.set n (.lst ys))) Q) : Q w (upd H p (.lst ws)) := by
 have f : fY X.K H (upd H p (.lst ws)) ρ ρ := AI hp ρ
 exact ok w _ ρ f (ab.fut f (ab.hp.put (ds := ys) hn hp r)) (rd _ f)
theorem DQ : DE X "list.append" (LW X EE fZ) := by
 intro pins s σ0 H x xs v us Q I rx Ih ⟨σ, τ, ρ, G, d, ds, ab, rd, BJ, ok⟩
 cases d <;> try exact ok.elim
 rename_i n
 match ds, ok with
 | [], ok => exact ok.elim
 | _ :: _ :: _, ok => exact ok.elim
 | [y], ok =>
  obtain ⟨yv, rfl, ry⟩ := kU BJ
  unfold Rep at rd
  obtain ⟨p, rfl, e1⟩ := rd
  dsimp only [fZ] at ok
  cases g : G[n]? with
  | none => rw [g] at ok; exact ok.elim
  | some o =>
   cases o with
   | dead => first | (rw [q] at ok; exact ok.elim) | (rw [q] at bD; exact bD.elim) | (rw [q] at e; cases e; done) | (rw [g] at ok; exact ok.elim) | (rw [g] at q; cases q; done) | (rw [g] at h; cases h; done) | (rw [g2] at ok; exact ok.elim) | (rw [g1, g2] at ok; exact ok.elim) | (rw [q1] at ok; exact ok.elim) | exact ok.elim
   | dct kv => first | (rw [q] at ok; exact ok.elim) | (rw [q] at bD; exact bD.elim) | (rw [q] at e; cases e; done) | (rw [g] at ok; exact ok.elim) | (rw [g] at q; cases q; done) | (rw [g] at h; cases h; done) | (rw [g2] at ok; exact ok.elim) | (rw [g1, g2] at ok; exact ok.elim) | (rw [q1] at ok; exact ok.elim) | exact ok.elim
   | lst zs =>
    rw [g] at ok
    dsimp only at ok
    obtain ⟨p', vs, e2, hp, rs⟩ := ab.hp.lst g
    rw [e1] at e2; cases e2
    by_cases hz : zs.length < sizeLine
    ·rw [if_pos hz] at ok
     exact zK pins s σ0 H _ _ v us Q I rx Ih ⟨p, vs, yv, rfl, rfl, hp, by rw [← rs.length]; exact hz, AQ (xs := zs) ab e1 hp (rs.append (.cons ry .nil)) (fun _ _ => by unfold Rep; rfl) ok⟩
    ·rw [if_neg hz] at ok; exact ok.elim
theorem Gm {o e : Expr} {apos cpos : Pos} {mo : DS → M D} {m : DS → M (List D)} (ho : QE X EE o mo) (ha : QA X EE [e] m)
  (hbase : attributeBase o "append" X.env (eval o X.env) = eval o X.env := by rfl)
  (hfew : ((backTo cpos (starEach [e] X.env)).all (fun x => !x.1) && (backToKw cpos (keywordEach [] X.env)).all (fun x => x.1.isSome)
   && decide ([e].length + ([] : List Keyword).length + (if ([] : List Keyword).isEmpty then 0 else 1) < 30)) = true := by rfl)
  (hline : (apos.endLine == cpos.line) = true := by rfl) (hs : starEach [e] X.env = (false, eval e X.env) :: starEach [] X.env := by rfl) (hplain : (backTo cpos (starEach [] X.env)).any (·.1) = false := by rfl) :
  QE X EE (.Call (.Attribute o "append" apos) [e] [] cpos) (ck "list" fZ mo m) := B3 PySem.F.plainAttrs_list PySem.F.slot_list_append PySem.F.type_list_append DQ ho ha hbase hfew hline hs hplain
noncomputable def rV : D → List D → M D
 | .obj n, [] => fun G => match G[n]? with
  | some (.lst xs) => match xs[xs.length - 1]? with
   | some y => .ok y (G.set n (.lst xs.dropLast))
   | none => .stuck
  | _ => .stuck
 | _, _ => M.stop
theorem aG.dropLast {K : PySem.W.Frag} {mg : Str → Option Value} {ρ : List Addr} {H : Hp} {ds : List D} {vs : List V} (r : aG K mg ρ H ds vs) : aG K mg ρ H ds.dropLast vs.dropLast := by
 rw [List.dropLast_eq_take, List.dropLast_eq_take, ← r.length]
 exact r.take _
theorem KW : DE X "list.pop" (LW X EE rV) := by
 intro pins s σ0 H x xs v us Q I rx Ih ⟨σ, τ, ρ, G, d, ds, ab, rd, BJ, ok⟩
 cases d <;> try exact ok.elim
 rename_i n
 match ds, ok with
 | _ :: _, ok => exact ok.elim
 | [], ok =>
  unfold aG at BJ; subst BJ
  unfold Rep at rd
  obtain ⟨p, rfl, e1⟩ := rd
  dsimp only [rV] at ok
  cases g : G[n]? with
  | none => rw [g] at ok; exact ok.elim
  | some o =>
   cases o with
   | dead => first | (rw [q] at ok; exact ok.elim) | (rw [q] at bD; exact bD.elim) | (rw [q] at e; cases e; done) | (rw [g] at ok; exact ok.elim) | (rw [g] at q; cases q; done) | (rw [g] at h; cases h; done) | (rw [g2] at ok; exact ok.elim) | (rw [g1, g2] at ok; exact ok.elim) | (rw [q1] at ok; exact ok.elim) | exact ok.elim
   | dct kv => first | (rw [q] at ok; exact ok.elim) | (rw [q] at bD; exact bD.elim) | (rw [q] at e; cases e; done) | (rw [g] at ok; exact ok.elim) | (rw [g] at q; cases q; done) | (rw [g] at h; cases h; done) | (rw [g2] at ok; exact ok.elim) | (rw [g1, g2] at ok; exact ok.elim) | (rw [q1] at ok; exact ok.elim) | exact ok.elim
   | lst zs =>
    rw [g] at ok
    dsimp only at ok
    obtain ⟨p', vs, e2, hp, rs⟩ := ab.hp.lst g
    rw [e1] at e2; cases e2
    cases qz : zs[zs.length - 1]? with
    | none => rw [qz] at ok; exact ok.elim
    | some y =>
     rw [qz] at ok
     obtain ⟨yv, ey, ry⟩ := rs.get qz
     exact Nc pins s σ0 H _ _ v us Q I rx Ih ⟨p, vs, yv, rfl, rfl, hp, by rw [← rs.length]; exact ey, AQ (xs := zs) ab e1 hp rs.dropLast (fun _ f => ry.mono f) ok⟩
theorem Nu {o : Expr} {apos cpos : Pos} {mo : DS → M D} (ho : QE X EE o mo) (hbase : attributeBase o "pop" X.env (eval o X.env) = eval o X.env := by rfl) (hline : (apos.endLine == cpos.line) = true := by rfl) :
  QE X EE (.Call (.Attribute o "pop" apos) [] [] cpos) (ck "list" rV mo aq) := Nt PySem.F.plainAttrs_list PySem.F.slot_list_pop PySem.F.type_list_pop KW ho hbase hline
end
end L3
end
section
set_option Elab.async false
set_option linter.all false
set_option maxRecDepth 100000
namespace L3
open PySem PySem.Spec L2
structure Gn (B : Heap) (l : List Env) (e : Addr) (cls : Value) (h : Heap) : Prop where
 stay : B.StaysIn h
 new : B.get? e = none
 frm : h.FunFrames B l
 tr : (∃ oe vs a0, h.get? e = some oe ∧ oe.cls = cls ∧ oe.data = .fields vs ∧ vs[0]? = some a0 ∧ vs[1]? = some .none) ∨ ∃ a0 fl, h.TracedAtW B e cls a0 fl
section
variable {M : Model} {A : Around} {E : Value → Shared → Prop} {s : Shared} {B : Heap} {env : Env} {outer l : List Env} {L e : Addr} {cls : Value} {Q : Unit → Shared → Prop}
theorem DR {env' : Env} (h : env'.frame = env.frame) (v : Value) : noteFrame v env' = noteFrame v env := by
 unfold noteFrame frameOf
 rw [h]
theorem EV (hfr : A.frames = some (env :: outer)) (hf : env.frame = some L) (f : Gn B (env :: outer) e cls s.heap)
  (hQ : ∀ h' a0, Heap.HeldW B (env :: outer) e cls a0 L h' → s.heap.UpToSlots h' → Q () { s with heap := h' }) : wpAny M A (noteFrame (.ref e) env) Q E s := by
 obtain ⟨st, nw, fr, tr⟩ := f
 rcases tr with ⟨oe, vs, a0, he, hc, hd, h0, h1⟩ | ⟨a0, fl, oe, vs, T, oT, ts, he, hcls, hd, h1, PX, PY, hT, Hr, h3⟩
 ·subst hc
  unfold noteFrame
  simp only [hf]
  refine wpAny_bind (wpAny_field he hd h1 ?_)
  rw [if_neg (by decide)]
  refine wpAny_entryW hfr fr hf he st nw hd (Array.getElem?_eq_some_iff.mp h1).1 h0 fun h' hN => ?_
  exact hQ h' a0 ⟨hN.1, nw, hN.2.1, hN.2.2.1⟩ hN.2.2.2
 ·by_cases hq : (fl == rawInt L) = true
  ·unfold noteFrame
   simp only [hf]
   refine wpAny_bind (wpAny_field he hd h1 ?_)
   rw [if_pos (show (Value.ref T != Value.none) = true by simp)]
   refine wpAny_bind (wpAny_field hT Hr h3 ?_)
   rw [if_pos hq]
   refine wpAny_pure ?_
   have := hQ s.heap a0 ⟨st, nw, fr, oe, vs, T, oT, ts, he, hcls, hd, h1, PX, PY, hT, Hr, by rw [h3, beq_iff_eq.mp hq]⟩ (.refl _)
   exact this
  ·obtain ⟨rfl, h0⟩ := hcls
   unfold noteFrame
   simp only [hf]
   refine wpAny_bind (wpAny_field he hd h1 ?_)
   rw [if_pos (show (Value.ref T != Value.none) = true by simp)]
   refine wpAny_bind (wpAny_field hT Hr h3 ?_)
   rw [if_neg hq]
   refine wpAny_bind (wpAny_setField hT Hr (Array.getElem?_eq_some_iff.mp h3).1 ?_)
   have Hs : ∀ b, b ≠ T → (s.heap.update T (Obj.mapFields (·.setIfInBounds 3 Value.none))).get? b = s.heap.get? b := fun b hb => Heap.get?_update_other _ _ (Ne.symm hb)
   have PZ : ∀ b o, s.heap.get? b = some o → (∀ vs, o.data ≠ .fields vs) → b ≠ T := fun b o hb hnf z => by
    rw [z, hT] at hb; cases hb; exact hnf ts Hr
   refine wpAny_entryW hfr (fr.of_keeps fun b o hb hnf => ⟨o, (Hs b (PZ b o hb hnf)).trans hb, rfl⟩) hf ((Hs e (Ne.symm PY)).trans he)
    (fun b o T7 => (Hs b fun z => by rw [z, PX] at T7; cases T7).trans (st b o T7)) nw hd (Array.getElem?_eq_some_iff.mp h1).1 h0 fun h' hN => ?_
   exact hQ h' a0 ⟨hN.1, nw, hN.2.1, hN.2.2.1⟩ fun b o hb hnf => hN.2.2.2 b o ((Hs b (PZ b o hb hnf)).trans hb) hnf
theorem B4 (hfr : A.frames = some (env :: outer)) (hf : env.frame = some L) (f : Gn B (env :: outer) e cls s.heap)
  (hQ : ∀ h' a0, Heap.FlyingW B outer e cls a0 h' → s.heap.UpToSlots h' → Q () { s with heap := h' }) : wpAny M A (leaving env (.ref e)) Q E s := by
 unfold leaving
 refine wpAny_bind (EV hfr hf f fun h1 a0 hH u1 => ?_)
 refine wpAny_landsW hH fun h2 hF u2 => ?_
 obtain ⟨k1, k2, ⟨_, _, k3⟩, k4⟩ := hF
 exact hQ h2 a0 ⟨k1, k2, k3, k4⟩ (u1.trans u2)
theorem Gn.Gp {a0 : Value} {h : Heap} (f : Heap.FlyingW B l e cls a0 h) : Gn B l e cls h := ⟨f.1, f.2.1, f.2.2.1, .inr ⟨a0, .none, f.2.2.2⟩⟩
end
structure V8 (X : Cx) (B : Heap) : Prop where
 keep : ∀ b o, X.s₀.heap.get? b = some o → X.H₀ b = none → b ∉ frs X.stack → b ∉ X.ex → B.get? b = some o
 there : ∀ b o, X.s₀.heap.get? b = some o → b ∉ frs X.stack → b ∉ X.ex → ∃ o', B.get? b = some o'
 pins : ∀ p ∈ X.pn, B.get? p.1 = some p.2
noncomputable def Nv (X : Cx) (H : Hp) (e : Addr) (cls : Value) (s : Shared) : Prop := ∃ B, Gn B X.stack e cls s.heap ∧ sW X.prog X.w H B ∧ V8 X B
noncomputable def EW (mg : Str → Option Value) (c : XD) (cls : Value) : Prop := match c with | .mk n _ => mg n = some cls
noncomputable def mS (X : Cx) (EE : gK) : Prop := ∀ (pins : List (Addr × Obj)) (σ : L2.St) (H : Hp) (s : Shared) (e : Addr) (cls : Value) (c : XD), Inv X pins σ H s → Nv X H e cls s → EW X.mg c cls → EE c σ H → X.xe (.ref e) s
section
variable {X : Cx} {pins : List (Addr × Obj)} {σ : L2.St} {H : Hp} {s : Shared} {h' : Heap}
theorem IsCell.slots {h h' : Heap} {c : Addr} {v : Option Value} (u : h.UpToSlots h') (hc : h.IsCell c v) : h'.IsCell c v := by
 obtain ⟨o, e, d⟩ := hc
 obtain ⟨sl, e'⟩ := u c o e fun vs q => by rw [d] at q; cases q
 exact ⟨_, e', d⟩
theorem Inv.LX {B : Heap} {t : Nat} (I : Inv X pins σ H s) (C : V8 X B) (hok : sW X.prog X.w H B) (st : B.StaysIn h') (u : s.heap.UpToSlots h') (ht : 0 < t := by first | exact Nat.succ_pos _ | exact (Inv.os (by assumption)).2 | assumption | omega) : Inv X [] σ H { s with heap := h', toks := t } := by
 have EL : ∀ b o, X.s₀.heap.get? b = some o → b ≠ X.env.locals := fun b o e => Nat.ne_of_lt (Nat.lt_of_lt_of_le (Heap.lt_size e) I.ok.above)
 have P0 : ∀ b o, X.s₀.heap.get? b = some o → b ∉ X.fs → b ∉ frs X.stack := fun b o e hb z => by
  rcases List.mem_cons.mp (I.nt b z) with z | z
  ·exact EL b o e z
  ·exact hb z
 have slots : ∀ b o, X.s₀.heap.get? b = some o → X.H₀ b = none → b ∈ X.fs → b ∉ X.ex → ∃ sl, h'.get? b = some { o with slots := sl } := fun b o e n hb hx => by
  obtain ⟨sl, e1⟩ := I.base.slot b o e n hb hx
  obtain ⟨_, o', eo, hd⟩ := I.ok.wC.mem hb
  rw [e] at eo; cases eo
  obtain ⟨O3, e2⟩ := u b _ e1 hd
  exact ⟨O3, e2⟩
 refine ⟨I.ok, ⟨I.os.1, ht⟩, I.bare, ⟨fun b o e n hb hx => st _ _ (C.keep b o e n (P0 b o e hb) hx), slots, I.base.free, fun b o e hx => ?_, I.base.tups, I.base.qR, I.base.rO⟩, ?_, fun x c e => ?_, I.free, I.rj, fun p hp => ?_, hok.kept st, I.len⟩
 ·by_cases hb : b ∈ X.fs
  ·obtain ⟨sl, e1⟩ := slots b o e (I.ok.Mz b hb) hb hx
   exact ⟨_, e1⟩
  ·obtain ⟨o', e1⟩ := C.there b o e (P0 b o e hb) hx
   exact ⟨o', st _ _ e1⟩
 ·obtain ⟨m, hn, hl⟩ := I.loc
  refine ⟨m, u.ns hn, fun i x v e1 e2 e3 => ?_⟩
  obtain ⟨w, r, l⟩ := hl i x v e1 e2 e3
  refine ⟨w, r, ?_⟩
  rcases l with l | ⟨k, c, e, z⟩
  ·exact .inl l
  ·exact .inr ⟨k, c, e, IsCell.slots u z⟩
 ·obtain ⟨v, z⟩ := I.cell x c e
  exact ⟨v, IsCell.slots u z⟩
 ·have Ht : p ∈ X.pn := by simpa using hp
  obtain ⟨e, n, ne, nf, d⟩ := I.pin p (List.mem_append_left _ Ht)
  exact ⟨st _ _ (C.pins p Ht), n, ne, nf, d⟩
end
structure P1 (P : Program) (w : World) (outer : List Env) (H : Hp) (s : Shared) (H' : Hp) (B : Heap) (s' : Shared) : Prop where
 os : s'.os = s.os ∧ 0 < s'.toks
 bare : PyProof.Rows.AllBare s'.gens
 keep : ∀ b o, s.heap.get? b = some o → H b = none → b ∉ frs outer → B.get? b = some o
 there : ∀ b o, s.heap.get? b = some o → b ∉ frs outer → ∃ o', B.get? b = some o'
 slot : ∀ b o, s.heap.get? b = some o → H b = none → b ∈ frs outer → ∃ sl, s'.heap.get? b = some { o with slots := sl }
 free : ∀ b o, s.heap.get? b = some o → H b = none → H' b = none
 tups : ∀ b xs, H b = some (.tup xs) → H' b = some (.tup xs)
 qR : ∀ b o u, H b = some (.oE o u) → H' b = some (.oE o u)
 rO : ∀ b ps, H b = some (.BI ps) → ∃ more, H' b = some (.BI (ps ++ more))
 hok : sW P w H' B
noncomputable def cu (P : Program) (w : World) : yR := fun outer H s E ev s' => ∃ e cls a0 B H', ev = .ref e ∧ Heap.FlyingW B outer e cls a0 s'.heap ∧ P1 P w outer H s H' B s' ∧ E cls none H'
theorem fU {X : Cx} {EE : gK} (h : mS X EE) : OM (cu X.prog X.w) X EE := by
 intro pins σ H s ev s' I hq
 obtain ⟨e, cls, a0, B, H', rfl, fl, F, c, hc, ee⟩ := hq
 have un : Un (frs X.stack) [] H H' s.heap s'.heap := ⟨fun b o e n hb _ => fl.1 _ _ (F.keep b o e n hb), fun b o e n hb _ => F.slot b o e n hb, fun b o e n _ => F.free b o e n, fun b o e _ => by
  by_cases hb : b ∈ frs X.stack
  ·obtain ⟨sl, q⟩ := F.slot b o e (I.sY b hb) hb
   exact ⟨_, q⟩
  ·obtain ⟨o', q⟩ := F.there b o e hb
   exact ⟨o', fl.1 _ _ q⟩, F.tups, F.qR, F.rO⟩
 have I' : Inv X pins σ H' s' := I.Hv F.os un (F.hok.kept fl.1) F.bare fun b z => absurd z (by simp)
 refine h pins σ H' s' e cls c I' ⟨B, .Gp fl, F.hok, fun b o eb n hb hx => ?_, fun b o eb hb hx => ?_, fun p hp => ?_⟩ hc ee
 ·have P4 : b ∉ X.fs := fun z => hb (by
   rcases I.ok.stk with q | ⟨q, _⟩
   ·rw [q]; exact z
   ·rw [q]; unfold frs; rw [List.filterMap_cons]; split
    ·exact z
    ·exact List.mem_cons_of_mem _ z)
  exact F.keep b o (I.base.keep b o eb n P4 hx) (I.base.free b o eb n hx) hb
 ·obtain ⟨o', q⟩ := I.base.there b o eb hx
  exact F.there b o' q hb
 ·obtain ⟨q, n, ne, nf, d⟩ := I.pin p (List.mem_append_left _ hp)
  exact F.keep p.1 p.2 q n fun z => by
   rcases List.mem_cons.mp (I.nt _ z) with z | z
   ·exact ne z
   ·exact nf z
end L3
end
section
set_option Elab.async false
set_option linter.all false
set_option maxRecDepth 100000
namespace L3
open PySem PySem.Spec L2
section
variable {P : Program} {w : World} {K : PySem.W.Frag} {mg : Str → Option Value} {base : Heap} {f : Addr} {fd : FuncData}
theorem wY {x qual : Str} {st : Stmt} {N ps : List Str} {k n nn : Nat} {ms : MS} {m : List D → M D} (F : sX K x qual st f fd) (S : bW N ps (aa st)) (hps : ps.length = n) (hN : N.length = nn) (hm : ∀ ds, m ds = cH nn ms ds)
  (hbody : ∀ (X : Cx) (EE : gK) (cdv : Value) (A : Around) (outer : List Env) (s : Shared) (H : Hp) (E : XK), X = gR (cu P w) P w K mg base N qual (aa st) f cdv A outer s H E → iK k (A.deeper (PyProof.Rows.envOfC qual (aa st) s.heap.objs.size f cdv)) →
   mS X EE → PassesOwn (model P w) X.A X.env X.xe → ER X EE (aD st) ms) :
  aW P w K mg base (cu P w) (k + 1) f fd ps (aQ K mg n m) := by
 subst hps hN
 have e : m = fun ds => cH N.length ms ds := funext hm
 subst e
 obtain ⟨oc, od, kV, doc, pm, an, cdv, ct, osl, rfl, lk, hcd⟩ := F.ex
 refine Pr lk hcd S (fun vs H Q E h => h.len) fun A outer s H vs Q E hr h => ?_
 obtain ⟨ds, ρ, G, hn, hp, rs, ok⟩ := h
 refine ⟨_, hbody _ (fun c σ H' => ∀ cls, EW mg c cls → E cls none H') cdv A outer s H E rfl hr ?_ PassesOwn.leaving, ds.map some ++ List.replicate (N.length - ds.length) none, ρ, G, ⟨xE rs, hp⟩, ?_⟩
 ·intro pins σ H' s' e cls c I fx hc ee
  obtain ⟨B, fb, hok, Gq⟩ := fx
  refine B4 (L := s.heap.objs.size) I.ok.frames rfl fb fun h' a0 fl u => ?_
  have I' : Inv _ [] σ H' { s' with heap := h' } := Inv.LX (t := s'.toks) I Gq hok fl.1 u
  have EL : ∀ b o, s.heap.get? b = some o → b ∉ frs outer → b ∉ frs (PyProof.Rows.envOfC qual (aa st) s.heap.objs.size f cdv :: outer) := fun b o e hb z => by
   rcases List.mem_cons.mp (I.nt b z) with z | z
   ·exact absurd (Heap.lt_size e) (by rw [show b = s.heap.objs.size from z]; exact Nat.lt_irrefl _)
   ·exact hb z
  refine ⟨e, cls, a0, B, H', rfl, fl, ⟨I'.os, I'.bare, fun b o eb nb hb => Gq.keep b o eb nb (EL b o eb hb) (by intro z; exact absurd (show b ∈ ([] : List Addr) from z) (by simp)), fun b o eb hb => Gq.there b o eb (EL b o eb hb) (by intro z; exact absurd (show b ∈ ([] : List Addr) from z) (by simp)),
   fun b o eb nb hb => I'.base.slot b o eb nb hb (by intro z; exact absurd (show b ∈ ([] : List Addr) from z) (by simp)), fun b o eb nb => I'.base.free b o eb nb (by intro z; exact absurd (show b ∈ ([] : List Addr) from z) (by simp)), I'.base.tups, I'.base.qR, I'.base.rO, hok⟩, ee cls hc⟩
 ·dsimp only [cH] at ok
  cases q : ms (ds.map some ++ List.replicate (N.length - ds.length) none) G with
  | stuck => rw [q] at ok; exact ok
  | nx τ G' => rw [q] at ok; exact fun σ' H' ρ' f ab => ok .kr H' ρ' f ab.hp (by unfold Rep; rfl)
  | rt d G' => rw [q] at ok; exact fun v H' ρ' f hp r => ok v H' ρ' f hp r
  | bk τ G' => rw [q] at ok; exact ok.elim
  | ct τ G' => rw [q] at ok; exact ok.elim
  | xn c τ G' => rw [q] at ok; exact fun σ' H' ρ' f ab cls hc => ok cls H' ρ' hc f ab.hp
end
abbrev DT : List Value := [.type "ValueError", .type "Exception", .type "BaseException", .type "object"]
theorem KY {K : PySem.W.Frag} {h : Heap} {C : Addr} (X : K.In h) (e : PySem.W.excIn K C DT "ValueError.__new__" = true) :
  ∃ bm N nm q bs hdct sn sub ab col dd k0 k1 k2 k3 k5 mN, h.get? C = some (excClassObj nm q C N bs bm hdct sn sub ab col dd k0 k1 k2 k3 k5 "ValueError.__new__") ∧ h.Ns N mN ∧ mN "__init__" = none ∧ OwnTail h DT bm := by
 unfold PySem.W.excIn at e
 split at e
 ·rename_i dd cd sl ho
  split at e
  ·rename_i C' bm k0 k1 k2 k3 n k5 hm hs
   simp only [Bool.and_eq_true, beq_iff_eq, Bool.not_eq_true'] at e
   obtain ⟨⟨⟨⟨⟨rfl, rfl⟩, P5⟩, ht⟩, hok⟩, hni⟩ := e
   obtain ⟨nm, bs, mro, ns, qn, hd, sn, sub, ab, col, del⟩ := cd
   dsimp only at hm P5 hok hni
   subst hm P5
   have hl : sl = #[k0, k1, k2, k3, some (.builtin "ValueError.__new__"), k5] := by
    cases sl with
    | mk l => exact congrArg Array.mk hs
   subst hl
   exact ⟨bm, ns, nm, qn, bs, hd, sn, sub, ab, col, dd, k0, k1, k2, k3, k5, _, X _ _ ho, .of_isNs (PySem.W.isNs_of_in X hok), PySem.W.nsMap_none_of_in X hok hni, PySem.W.tail_of_in X ht⟩
  ·cases e
 ·cases e
theorem zS {h B base : Heap} : ∀ {l : List Env}, h.FunFrames base l → (∀ b ∈ frs l, B.get? b = none) → h.FunFrames B l
 | [], _, _ => trivial
 | env :: r, ⟨hk, ⟨L, o, hf, _, ho, hd⟩, hr⟩, hB => by
  have hm : ∀ b, b = L ∨ b ∈ frs r → b ∈ frs (env :: r) := fun b hb => by
   unfold frs; rw [List.filterMap_cons, hf]
   rcases hb with z | z
   ·rw [z]; exact List.mem_cons_self
   ·exact List.mem_cons_of_mem _ z
  exact ⟨hk, ⟨L, o, hf, hB L (hm L (.inl rfl)), ho, hd⟩, zS hr fun b hb => hB b (hm b (.inr hb))⟩
theorem B5 {P : Program} {w : World} {H : Hp} {h B : Heap} (x : sW P w H h) (k : ∀ b o, H b ≠ none → h.get? b = some o → B.get? b = some o) : sW P w H B := fun a o e =>
 (x a o e).stay (fun b u hb q => k b u (by
  rcases hb with z | z
  ·rw [z, e]; simp
  ·rw [z]; simp) q) (fun _ q => q) fun _ _ q => q
section
variable {X : Cx} {EE : gK} {pins : List (Addr × Obj)} {σ : L2.St} {H : Hp} {s : Shared}
theorem Gr {h' : Heap} {e : Addr} {C : Addr} {args : List Value} (I : Inv X pins σ H s) (hm : Heap.MadeExcOf s.heap h' e (.ref C) args) : Nv X H e (.ref C) { s with heap := h' } := by
 have hg : ∀ b o, s.heap.get? b = some o → b ∉ frs X.stack → (PySem.W.hideAll s.heap (frs X.stack)).get? b = some o := fun b o e hb => PySem.W.hideAll_get _ e hb
 have P4 : ∀ b, b ∉ frs X.stack → b ∉ X.fs := fun b hb z => hb (by
  rcases I.ok.stk with q | ⟨q, _⟩
  ·rw [q]; exact z
  ·rw [q]; unfold frs; rw [List.filterMap_cons]; split
   ·exact z
   ·exact List.mem_cons_of_mem _ z)
 obtain ⟨t, he, _, _⟩ := hm.there
 refine ⟨PySem.W.hideAll s.heap (frs X.stack), ⟨fun b o q => hm.keeps b o (PySem.W.of_hideAll _ q), ?_, ?_, .inl ⟨_, _, _, he, rfl, rfl, rfl, rfl⟩⟩, ?_, ⟨fun b o q n hb hx => ?_, fun b o q hb hx => ?_, fun p hp => ?_⟩⟩
 ·cases q : (PySem.W.hideAll s.heap (frs X.stack)).get? e with
  | none => rfl
  | some o => have := PySem.W.of_hideAll _ q; rw [hm.new] at this; cases this
 ·exact (zS I.stack fun b hb => PySem.W.hideAll_none _ hb).of_keeps fun b o q _ => ⟨o, hm.keeps b o q, rfl⟩
 ·exact B5 I.hok fun b o n q => hg b o q fun z => n (I.sY b z)
 ·exact hg b o (I.base.keep b o q n (P4 b hb) hx) hb
 ·obtain ⟨o', q'⟩ := I.base.there b o q hx
  exact ⟨o', hg b o' q' hb⟩
 ·obtain ⟨q, n, ne, nf, d⟩ := I.pin p (List.mem_append_left _ hp)
  exact hg _ _ q fun z => (List.mem_cons.mp (I.nt _ z)).elim ne nf
noncomputable def kW (x : Str) (m : DS → M (List D)) : MS := fun τ => fu (m τ) (fun ds G => if ds.length ≤ sizeLine then .xn (.mk x ds) τ G else .stuck) fun c G => .xn c τ G
theorem Ii {x : Str} {C : Addr} {np cpos pos : Pos} {e : Expr} {es : List Expr} {m : DS → M (List D)} (hc : X.calm = true) (hx : mS X EE) (hm : X.mg x = some (.ref C)) (hq : PySem.W.excIn X.K C DT "ValueError.__new__" = true) (hg : Gl X x) (hd : (x == ("__debug__" : Str)) = false)
  (ha : QA X EE (e :: es) m) (he : starEach (e :: es) X.env = (false, eval e X.env) :: starEach es X.env) (hpl : (backTo cpos (starEach es X.env)).any (·.1) = false) :
  QS X EE (.Raise (some (.Call (.Name x np) (e :: es) [] cpos)) none pos) (kW x m) := by
 intro pins s σ H Dd I h
 obtain ⟨τ, ρ, G, ab, ok⟩ := Ib (k := fun τ ds G => if ds.length ≤ sizeLine then .xn (.mk x ds) τ G else .stuck) h
 obtain ⟨bm, N, nm, q, bs, hdct, sn, sub, eu, col, dd, k0, k1, k2, k3, k5, mN, hC, hN, hni, T⟩ := KY I.ok.mod.Mv hq
 refine wpAny_Raise_call_subU (C := C) (nm := nm) (q := q) (N := N) (bs := bs) (bm := bm) (hdct := hdct) (sn := sn) (sub := sub) (ab := eu) (col := col) (dd := dd) (k0 := k0) (k1 := k1) (k2 := k2) (k3 := k3) (k5 := k5) PySem.F.excBase_ValueError (bmB := DT) (by decide +kernel) PySem.F.excBase_ValueError (mN := mN) (T.hasType PySem.F.excBase_ValueError.hasBase) (I.ok.hd hc)
  (by rw [he]; show (false || (backTo cpos (starEach es X.env)).any (·.1)) = false; rw [hpl]; rfl) hni (Ay I hg hm ⟨rfl, ?_⟩ hd)
 have h1 := ha cpos pins s σ H _ I ⟨τ, ρ, G, ab, ok⟩
 rw [he] at h1 ⊢
 refine Calls.evalArgs_plain (wpAny_mono h1 (fun us s2 h2 => ?_) fun _ _ z => z)
 obtain ⟨vs, H2, I2, r2, τ2, ρ2, G2, ds, gf, rs, bD⟩ := h2
 by_cases hl : ds.length ≤ sizeLine
 ·rw [if_pos hl] at bD
  refine ⟨rfl, by show us.length ≤ _; rw [← r2.length, ← rs.length]; exact hl, I2.bk _ _ hC, hN.keeps I2.bk, T.keeps I2.bk, fun h' e hmade => ?_⟩
  exact hx pins σ H2 _ e (.ref C) (.mk x ds) (I2.kept (t' := s2.toks) hmade.keeps) (Gr I2 hmade) hm (bD σ H2 ρ2 .refl gf)
 ·rw [if_neg hl] at bD; exact bD.elim
end
end L3
end
section
set_option Elab.async false
set_option linter.all false
set_option maxRecDepth 100000
namespace L3
open PySem PySem.Spec L2
noncomputable abbrev Cx.to (X : Cx) (E : Value → Shared → Prop) (pn : List (Addr × Obj)) : Cx := { X with xe := E, pn := pn }
section
variable {X : Cx} {EE : gK} {pins : List (Addr × Obj)} {σ : L2.St} {H : Hp} {s : Shared} {E : Value → Shared → Prop}
end
end L3
end
section
set_option Elab.async false
set_option linter.all false
set_option maxRecDepth 100000
namespace L3
open PySem PySem.Spec L2
noncomputable def jC (env : Env) : List (Str × NameKind) → List (Str × Addr) → List (Str × Addr)
 | [], acc => acc
 | (n, k) :: r, acc => jC env r (if k == .free then (match env.cells.lookup n with | some c => (n, c) :: acc | none => acc) else acc)
theorem rA {scope : Scope} {env : Env} (h : ∀ x ∈ scope.names, x.2 = .free → ∃ c, env.cells.lookup x.1 = some c) : closureFor scope env = pure (jC env scope.names []) := by
 unfold closureFor
 have key : ∀ (names : List (Str × NameKind)) (acc : List (Str × Addr)), (∀ x ∈ names, x.2 = .free → ∃ c, env.cells.lookup x.1 = some c) →
   (forIn names acc fun x r => match x with | (name, kind) => if (kind == NameKind.free) = true then do let y ← cellOf env name; pure (ForInStep.yield ((name, y) :: r)) else pure (ForInStep.yield r)) = (pure (jC env names acc) : Sem (List (Str × Addr))) := by
  intro names
  induction names with
  | nil => intro acc _; rfl
  | cons x r ih =>
   intro acc hx
   obtain ⟨n, k⟩ := x
   rw [List.forIn_cons]
   by_cases hk : (k == NameKind.free) = true
   ·obtain ⟨c, hc⟩ := hx (n, k) List.mem_cons_self (eq_of_beq hk)
    have e : cellOf env n = pure c := by unfold cellOf; rw [hc]
    simp only [if_pos hk, e, pure_bind]
    rw [ih _ fun y hy => hx y (List.mem_cons_of_mem _ hy)]
    show _ = pure (jC env r (if (k == NameKind.free) = true then (match env.cells.lookup n with | some c => (n, c) :: acc | none => acc) else acc))
    rw [if_pos hk, hc]
   ·simp only [if_neg hk, pure_bind]
    rw [ih _ fun y hy => hx y (List.mem_cons_of_mem _ hy)]
    show _ = pure (jC env r (if (k == NameKind.free) = true then (match env.cells.lookup n with | some c => (n, c) :: acc | none => acc) else acc))
    rw [if_neg hk]
 have k2 := key scope.names [] h
 first
  | (rw [k2]; rfl)
  | (simp only [k2, pure_bind])
  | exact k2
theorem xG {env : Env} : ∀ (names : List (Str × NameKind)) (acc : List (Str × Addr)), (∀ y c, acc.lookup y = some c → env.cells.lookup y = some c) → ∀ y c, (jC env names acc).lookup y = some c → env.cells.lookup y = some c
 | [], acc, h, y, c, e => h y c e
 | (n, k) :: r, acc, h, y, c, e => by
  refine xG r _ (fun z d ez => ?_) y c e
  by_cases hk : (k == NameKind.free) = true
  ·rw [if_pos hk] at ez
   cases q : env.cells.lookup n with
   | none => rw [q] at ez; exact h z d ez
   | some c' =>
    rw [q] at ez
    dsimp only at ez
    rw [List.lookup_cons] at ez
    cases hz : z == n with
    | true => rw [hz] at ez; cases ez; rw [eq_of_beq hz]; exact q
    | false => rw [hz] at ez; exact h z d ez
  ·rw [if_neg hk] at ez
   exact h z d ez
theorem xH {env : Env} : ∀ (names : List (Str × NameKind)) (acc : List (Str × Addr)) (y : Str), ((∃ c, acc.lookup y = some c) ∨ ((y, NameKind.free) ∈ names ∧ ∃ c, env.cells.lookup y = some c)) → ∃ c, (jC env names acc).lookup y = some c
 | [], acc, y, h => by
  rcases h with h | ⟨h, _⟩
  ·exact h
  ·cases h
 | (n, k) :: r, acc, y, h => by
  refine xH r _ y ?_
  rcases h with ⟨c, h⟩ | ⟨h, c, hc⟩
  ·left
   by_cases hk : (k == NameKind.free) = true
   ·rw [if_pos hk]
    cases q : env.cells.lookup n with
    | none => exact ⟨c, h⟩
    | some c' =>
     dsimp only
     rw [List.lookup_cons]
     cases hz : y == n with
     | true => exact ⟨c', rfl⟩
     | false => exact ⟨c, h⟩
   ·rw [if_neg hk]; exact ⟨c, h⟩
  ·rcases List.mem_cons.mp h with e | h
   ·cases e
    left
    rw [if_pos (by rfl), hc]
    dsimp only
    exact ⟨c, by rw [List.lookup_cons, beq_self_eq_true]⟩
   ·exact .inr ⟨h, c, hc⟩
end L3
end
section
set_option Elab.async false
set_option linter.all false
set_option maxRecDepth 100000
namespace L3
open PySem PySem.Spec L2 PyProof.Rows
noncomputable def mask {α : Type} : List Bool → List (Option α) → List (Option α)
 | _, [] => []
 | [], _ :: r => none :: mask [] r
 | k :: ks, o :: r => (if k then o else none) :: mask ks r
theorem lU {α : Type} : ∀ (ks : List Bool) (l : List (Option α)), (mask ks l).length = l.length
 | _, [] => by unfold mask; rfl
 | [], _ :: r => by unfold mask; simp [lU [] r]
 | k :: ks, o :: r => by unfold mask; simp [lU ks r]
theorem pI {α : Type} {v : α} : ∀ {ks : List Bool} {l : List (Option α)} {i : Nat}, (mask ks l)[i]? = some (some v) → ks[i]? = some true ∧ l[i]? = some (some v)
 | ks, [], i, h => by unfold mask at h; simp at h
 | [], o :: r, 0, h => by unfold mask at h; simp at h
 | [], o :: r, i + 1, h => by
  unfold mask at h
  have := (pI (ks := []) (l := r) (i := i) (by simpa using h)).1
  simp at this
 | k :: ks, o :: r, 0, h => by
  unfold mask at h
  cases k with
  | true => simpa using h
  | false => simp at h
 | k :: ks, o :: r, i + 1, h => by
  unfold mask at h
  have := pI (ks := ks) (l := r) (i := i) (by simpa using h)
  simpa using this
theorem EX {α : Type} {v : α} : ∀ {ks : List Bool} {l : List (Option α)} {i : Nat}, ks[i]? = some true → l[i]? = some (some v) → (mask ks l)[i]? = some (some v)
 | ks, [], i, _, h => by simp at h
 | [], o :: r, i, h, _ => by simp at h
 | k :: ks, o :: r, 0, h, e => by unfold mask; simp at h e; simp [h, e]
 | k :: ks, o :: r, i + 1, h, e => by
  unfold mask
  have := EX (ks := ks) (l := r) (i := i) (by simpa using h) (by simpa using e)
  simpa using this
noncomputable def yZ (env : Env) (n : Str) (k : NameKind) : NameKind := if (k == .free && env.scope.kind == .function && env.kindOf n == some .cell) then .cell else k
theorem gT {env : Env} {y : Str} : ∀ (names : List (Str × NameKind)), (names.map fun (n, k) => if (k == NameKind.free && env.scope.kind == .function && env.kindOf n == some .cell) then (n, NameKind.cell) else (n, k)).lookup y = (names.lookup y).map (yZ env y)
 | [] => rfl
 | (n, k) :: r => by
  have ih := gT (env := env) (y := y) r
  rw [List.map_cons, List.lookup_cons]
  by_cases hc : (k == NameKind.free && env.scope.kind == .function && env.kindOf n == some .cell) = true
  ·rw [if_pos hc, List.lookup_cons]
   cases hy : y == n with
   | true =>
    have e : y = n := eq_of_beq hy
    subst e
    simp [yZ, hc]
   | false => exact ih
  ·rw [if_neg hc, List.lookup_cons]
   cases hy : y == n with
   | true =>
    have e : y = n := eq_of_beq hy
    subst e
    simp [yZ, hc]
   | false => exact ih
structure dP (Su : Scope) (N : List Str) (scope : Scope) (xs : List Str) (ks : List Bool) : Prop where
 nd : xs.Nodup
 kind : scope.kind = .function
 Ij : ∀ y ∈ scope.names, y.2 ≠ .cell
 names : ∀ y ∈ scope.names, y.2 = .local → scope.names.lookup y.1 = some .local
 loc : ∀ x ∈ xs, scope.names.lookup x = some .local
 free : ∀ y ∈ scope.names, y.2 = .free → Su.names.lookup y.1 = some .cell ∨ Su.names.lookup y.1 = some .free
 T8 : ((ks.zip N).all fun p => !p.1 || decide (scope.names.lookup p.2 = some .free)) = true
theorem dP.cap {Su : Scope} {N : List Str} {scope : Scope} {xs : List Str} {ks : List Bool} (S : dP Su N scope xs ks) : ∀ i < ks.length, ks[i]? = some true → ∀ y ∈ N[i]?, scope.names.lookup y = some .free := fun i _ hk y hy => by
 have h := List.all_eq_true.mp S.T8 (true, y) (List.mem_of_getElem? (i := i) (by rw [List.getElem?_zip_eq_some]; exact ⟨hk, hy⟩))
 simpa using h
noncomputable def uW (X : Cx) (scope : Scope) (cl : List (Str × Addr)) (xs : List Str) (C : Addr) (pins : List (Addr × Obj)) (s : Shared) (H : Hp) (fp : List Addr) (E : Value → Shared → Prop) : Cx where
 prog := X.prog
 w := X.w
 K := X.K
 mg := X.mg
 base := X.base
 A := X.A
 N := xs ++ X.N
 s₀ := s
 H₀ := H
 env := compEnvC scope cl C X.env
 outer := X.stack
 stack := X.stack
 ex := fp
 fn := fun _ => false
 calm := X.calm
 pn := X.pn ++ pins
 xe := E
section
variable {X : Cx} {scope : Scope} {xs : List Str} {x : Str} {ks : List Bool} {pins : List (Addr × Obj)} {σ : L2.St} {H : Hp} {s s4 : Shared} {fp : List Addr} {E : Value → Shared → Prop} {h1 : Heap}
theorem mem_lookup {α β : Type} [BEq α] [LawfulBEq α] : ∀ {l : List (α × β)} {a : α} {b : β}, l.lookup a = some b → (a, b) ∈ l
 | [], _, _, h => by simp at h
 | (a', b') :: r, a, b, h => by
  rw [List.lookup_cons] at h
  cases hz : a == a' with
  | true => rw [hz] at h; cases h; rw [eq_of_beq hz]; exact List.mem_cons_self
  | false => rw [hz] at h; exact List.mem_cons_of_mem _ (mem_lookup h)
theorem Ik (S : dP X.env.scope X.N scope xs ks) {cl : List (Str × Addr)} {C : Addr} {y : Str} (h : (compEnvC scope cl C X.env).kindOf y = some .cell ∨ (compEnvC scope cl C X.env).kindOf y = some .free) : scope.names.lookup y = some .free := by
 have h' : (scope.names.lookup y).map (yZ X.env y) = some .cell ∨ (scope.names.lookup y).map (yZ X.env y) = some .free := by
  rw [← gT]; exact h
 cases q : scope.names.lookup y with
 | none => rw [q] at h'; rcases h' with h' | h' <;> cases h'
 | some k =>
  rw [q] at h'
  cases k with
  | free => rfl
  | cell => exact absurd rfl (S.Ij _ (mem_lookup q))
  | _ => rcases h' with h' | h' <;> simp [yZ] at h'
theorem uX (S : dP X.env.scope X.N scope xs ks) {cl : List (Str × Addr)} {C : Addr} {y : Str} (h : scope.names.lookup y = some .free) : (compEnvC scope cl C X.env).kindOf y = some .cell ∨ (compEnvC scope cl C X.env).kindOf y = some .free := by
 have e : (compEnvC scope cl C X.env).kindOf y = (scope.names.lookup y).map (yZ X.env y) := gT scope.names
 rw [e, h]
 unfold yZ
 dsimp only [Option.map]
 split
 ·exact .inl rfl
 ·exact .inr rfl
theorem xJ (S : dP X.env.scope X.N scope xs ks) (hx : x ∈ xs) {cl : List (Str × Addr)} {C : Addr} : (compEnvC scope cl C X.env).kindOf x = some .local := by
 have e : (compEnvC scope cl C X.env).kindOf x = (scope.names.lookup x).map (yZ X.env x) := gT scope.names
 rw [e, S.loc x hx]
 rfl
theorem DU (S : dP X.env.scope X.N scope xs ks) (I : Inv X pins σ H s) (hf : ∀ b ∈ fp, uL X pins H b ∧ b < s.heap.objs.size) (hn : h1.Ns s.heap.objs.size fun _ => none) (hk : ∀ b o, s.heap.get? b = some o → h1.get? b = some o) (t : Nat) (ht : 0 < t := by first | exact Nat.succ_pos _ | exact (Inv.os (by assumption)).2 | assumption | omega) :
  Inv (uW X scope (jC X.env scope.names []) xs s.heap.objs.size pins s H fp E) [] (List.replicate xs.length none ++ mask ks σ) H { s with heap := h1, toks := t } := by
 have cs : ∀ y c, (jC X.env scope.names []).lookup y = some c → X.env.cells.lookup y = some c := xG scope.names [] fun y c e => by simp at e
 have lt : ∀ b o, s.heap.get? b = some o → b ≠ s.heap.objs.size := fun b o e => Nat.ne_of_lt (Heap.lt_size e)
 have Nx : ∀ y c, X.env.cells.lookup y = some c → ∃ v, s.heap.IsCell c v := fun y c e => I.cell y c e
 have LY : ∀ b, b ≠ X.env.locals → b ∉ X.fs → b ∉ frs X.stack := fun b h1 h2 h3 => (List.mem_cons.mp (I.nt b h3)).elim h1 h2
 refine ⟨⟨I.ok.mod, ?_, I.ok.glob, I.ok.blt, Nat.le_refl _, fun y z c e1 e2 => I.ok.inj y z c (cs y c e1) (cs z c e2), fun y hy => ?_, fun y c h _ => absurd (show false = true from h) Bool.false_ne_true, I.ok.hd, I.ok.frames, .inl rfl, fun b hb => ⟨Nat.ne_of_lt (hf b hb).2, fun y c e => (hf b hb).1.2.2.2.2.1 y c (cs y c e)⟩, I.bs,
   Nat.le_trans I.ok.LM I.sz, fun b o e hb => ?_, fun b hb => LY b (hf b hb).1.2.1 (hf b hb).1.2.2.1, I.stack, I.sY⟩, ⟨rfl, ht⟩, I.bare, Un.kept hk, ⟨_, hn, fun i y v e1 e2 e3 => ?_⟩, fun y c e => ?_, I.hok.fresh (Nat.le_refl _), fun y c e => I.rj y c (cs y c e), fun p hp => ?_, I.hok.kept hk, ?_⟩
 ·show (relabel scope X.env).kind = .function
  exact S.kind
 ·have hfree := Ik S hy
  have hm := mem_lookup hfree
  refine xH scope.names [] y (.inr ⟨hm, ?_⟩)
  exact I.ok.has y (S.free _ hm rfl)
 ·rcases (hf b hb).1.2.2.2.1 with z | z
  ·exact I.ok.Mx b o e z
  ·exact absurd (Nat.lt_of_lt_of_le (Heap.lt_size (I.ok.bs b o e).1) z) (Nat.lt_irrefl _)
 ·by_cases hlt : i < xs.length
  ·rw [List.getElem?_append_left (by simpa using hlt), List.getElem?_replicate] at e2
   rw [if_pos hlt] at e2; cases e2
  ·obtain ⟨j, rfl⟩ : ∃ j, i = xs.length + j := ⟨i - xs.length, by omega⟩
   have JZ : (mask ks σ)[j]? = some (some v) := by
    rw [List.getElem?_append_right (by simp)] at e2
    simpa using e2
   obtain ⟨hks, eσ⟩ := pI JZ
   have JY : X.N[j]? = some y := by
    have : (xs ++ X.N)[xs.length + j]? = some y := e1
    rw [List.getElem?_append_right (by omega)] at this
    simpa using this
   have hfree : scope.names.lookup y = some .free := S.cap j (List.getElem?_eq_some_iff.mp hks).1 hks y (by rw [JY]; rfl)
   obtain ⟨m, hm, hl⟩ := I.loc
   have hkind := S.free _ (mem_lookup hfree) rfl
   obtain ⟨u, r, l⟩ := hl j y v JY eσ (hkind.elim (fun z => .inr (.inl z)) fun z => .inr (.inr z))
   refine ⟨u, r, .inr ⟨uX S hfree, ?_⟩⟩
   rcases l with ⟨k, _⟩ | ⟨k, c, ec, hc⟩
   ·have k' : X.env.scope.names.lookup y = some .local := k
    rcases hkind with z | z <;> (rw [k'] at z; cases z)
   ·obtain ⟨c', V9⟩ := xH (env := X.env) scope.names [] y (.inr ⟨mem_lookup hfree, c, ec⟩)
    have := cs y c' V9
    rw [ec] at this; cases this
    exact ⟨c, V9, hc.keeps hk⟩
 ·obtain ⟨v, hc⟩ := Nx y c (cs y c e)
  exact ⟨v, hc.keeps hk⟩
 ·have Ht : p ∈ X.pn ++ pins := by
   have : p ∈ (X.pn ++ pins) ++ [] := hp
   simpa using this
  obtain ⟨e, n, ne, nf, d⟩ := I.pin p Ht
  exact ⟨hk _ _ e, n, lt _ _ e, LY _ ne nf, d⟩
 ·show (List.replicate xs.length none ++ mask ks σ).length = (xs ++ X.N).length
  simp [lU, I.len]
theorem rW {Xc : Cx} {cl : List (Str × Addr)} {C : Addr} {σ0 : L2.St} {own : List (Option V)} {n : Nat} {v : V} {u : Value} {A' : Around} {Q : Unit → Shared → Prop} {E' : Value → Shared → Prop} {M' : Model} {px : Pos} {s0 : Shared} {H0 H1 : Hp} {s1 : Shared} {ko : List (Addr × Obj)}
  (S : dP X.env.scope X.N scope xs ks) (e : Xc = uW X scope cl xs C pins s0 H0 fp E) (ON : own.length = xs.length) (hx : xs[n]? = some x) (I : Inv Xc ko (own ++ mask ks σ0) H1 s1) (r : RelV v u) (h : ∀ s', Inv Xc ko (own.set n (some v) ++ mask ks σ0) H1 s' → Q () s') :
  wpAny M' A' (assign (.Name x px) Xc.env u) Q E' s1 := by
 subst e
 obtain ⟨m, hn, hl⟩ := id I.loc
 have OO := xJ (cl := cl) (C := C) S (List.mem_of_getElem? hx)
 refine wpAny_assign_Name (wpAny_storeName_local OO hn (fun h' hn' hs => ?_) (by rw [show (uW X scope cl xs C pins s0 H0 fp E).env.scope.kind = .function from S.kind]; rfl))
 refine h _ ?_
 have EL : ∀ b o, s0.heap.get? b = some o → b ≠ C := fun b o e => Nat.ne_of_lt (Nat.lt_of_lt_of_le (Heap.lt_size e) I.ok.above)
 obtain ⟨oL, _, _, V0, _⟩ := id hn
 have hfree : H1 C = none := I.free
 refine ⟨I.ok, ⟨I.os.1, Nat.succ_pos _⟩, I.bare, ⟨fun b o e n hb hx => ?_, fun b o e n hb hx => ?_, I.base.free, fun b o e hx => ?_, I.base.tups, I.base.qR, I.base.rO⟩, ⟨_, hn', fun j y v' e1 e2 e3 => ?_⟩, fun y c e => ?_, I.free, I.rj, fun p hp => ?_, fun b ob e => ?_, by simpa using I.len⟩
 ·exact (hs.2 b (EL b o e)).trans (I.base.keep b o e n hb hx)
 ·obtain ⟨sl, e1⟩ := I.base.slot b o e n hb hx
  exact ⟨sl, (hs.2 b (EL b o e)).trans e1⟩
 ·obtain ⟨o', e1⟩ := I.base.there b o e hx
  exact ⟨o', (hs.2 b (EL b o e)).trans e1⟩
 ·have hnl : n < xs.length := (List.getElem?_eq_some_iff.mp hx).1
  by_cases hlt : j < xs.length
  ·have ey : xs[j]? = some y := by
    have : (xs ++ X.N)[j]? = some y := e1
    rwa [List.getElem?_append_left hlt] at this
   rw [List.getElem?_append_left (by simp; omega)] at e2
   by_cases hj : n = j
   ·subst hj
    rw [hx] at ey; cases ey
    rw [List.getElem?_set, if_pos rfl, if_pos (by omega)] at e2
    cases e2
    exact ⟨u, r, .inl ⟨OO, by simp⟩⟩
   ·rw [List.getElem?_set_ne hj] at e2
    have hne : y ≠ x := by
     rintro rfl
     obtain ⟨h1, JY⟩ := List.getElem?_eq_some_iff.mp hx
     obtain ⟨h2, JZ⟩ := List.getElem?_eq_some_iff.mp ey
     exact hj ((List.getElem_inj S.nd).mp (JY.trans JZ.symm))
    obtain ⟨u', r', q⟩ := hl j y v' e1 (by rw [List.getElem?_append_left (by omega)]; exact e2) e3
    refine ⟨u', r', ?_⟩
    rcases q with ⟨k, e⟩ | ⟨k, c, e, z⟩
    ·exact .inl ⟨k, by simpa [hne] using e⟩
    ·exact .inr ⟨k, c, e, z.sameBut hs (I.JU y c e)⟩
  ·obtain ⟨j, rfl⟩ : ∃ k, j = xs.length + k := ⟨j - xs.length, by omega⟩
   have JZ : (mask ks σ0)[j]? = some (some v') := by
    rw [List.getElem?_append_right (by simp; omega)] at e2
    simpa [ON] using e2
   obtain ⟨u', r', q⟩ := hl (xs.length + j) y v' e1 (by rw [List.getElem?_append_right (by omega)]; simpa [ON] using JZ) e3
   refine ⟨u', r', ?_⟩
   rcases q with ⟨k, e⟩ | ⟨k, c, e, z⟩
   ·obtain ⟨hks, _⟩ := pI JZ
    have JY : X.N[j]? = some y := by
     have : (xs ++ X.N)[xs.length + j]? = some y := e1
     rw [List.getElem?_append_right (by omega)] at this
     simpa using this
    have hfr : scope.names.lookup y = some .free := S.cap j (List.getElem?_eq_some_iff.mp hks).1 hks y (by rw [JY]; rfl)
    rcases uX (cl := cl) (C := C) S hfr with z | z
    ·have k' : (compEnvC scope cl C X.env).kindOf y = some .local := k
     rw [k'] at z; cases z
    ·have k' : (compEnvC scope cl C X.env).kindOf y = some .local := k
     rw [k'] at z; cases z
   ·exact .inr ⟨k, c, e, z.sameBut hs (I.JU y c e)⟩
 ·obtain ⟨w', z⟩ := I.cell y c e
  exact ⟨w', z.sameBut hs (I.JU y c e)⟩
 ·obtain ⟨e, n, ne, nf, d⟩ := I.pin p hp
  exact ⟨(hs.2 p.1 ne).trans e, n, ne, nf, d⟩
 ·refine (I.hok b ob e).stay (fun c w' hc q => (hs.2 c ?_).trans q) (fun _ q => q) fun _ _ q => q
  intro ec
  rcases hc with hc | hc
  ·have : H1 C = some ob := by rw [← (show c = C from ec), hc]; exact e
   rw [hfree] at this; cases this
  ·have : H1 C = some (.own b) := by rw [← (show c = C from ec)]; exact hc
   rw [hfree] at this; cases this
noncomputable def B6 : V → Hp → List V → Prop := fun x _ vs => vs = [x]
noncomputable def KZ (K : PySem.W.Frag) (n : Nat) : V → Hp → List V → Prop := fun x H vs => ∃ a, x = .ref a ∧ qS K H a vs ∧ vs.length = n
noncomputable def Own (X : Cx) (scope : Scope) (xs : List Str) (ks : List Bool) (tg : Expr) (ow : V → Hp → List V → Prop) : Prop :=
 ∀ (cl : List (Str × Addr)) (C : Addr) (pins : List (Addr × Obj)) (s0 : Shared) (H0 : Hp) (fp : List Addr) (E : Value → Shared → Prop) (Xc : Cx) (σ0 : L2.St) (own : List (Option V)) (x : V) (vs : List V) (u : Value) (H1 : Hp) (s1 : Shared) (ko : List (Addr × Obj)) (E' : Value → Shared → Prop) (Q : Unit → Shared → Prop),
  Xc = uW X scope cl xs C pins s0 H0 fp E → own.length = xs.length → Inv Xc ko (own ++ mask ks σ0) H1 s1 → RelV x u → ow x H1 vs →
  (vs.length = xs.length → ∀ s', Inv Xc ko (vs.map some ++ mask ks σ0) H1 s' → Q () s') → wpAny (model X.prog X.w) X.A (assign tg Xc.env u) Q E' s1
theorem mT {px : Pos} (S : dP X.env.scope X.N scope [x] ks) : Own X scope [x] ks (.Name x px) B6 := by
 intro cl C pins s0 H0 fp E Xc σ0 own v vs u H1 s1 ko E' Q e ho I r hv h
 cases hv
 match own, ho with
 | [a], _ => exact rW (own := [a]) (n := 0) S e rfl rfl I r fun s' I' => h rfl s' I'
theorem B7 {x y : Str} {px py pt : Pos} {k : Nat} (hc : X.calm = true) (S : dP X.env.scope X.N scope [x, y] ks) : Own X scope [x, y] ks (.Tuple [.Name x px, .Name y py] k pt) (KZ X.K 2) := by
 intro cl C pins s0 H0 fp E Xc σ0 own v vs u H1 s1 ko E' Q e ho I r hv h
 obtain ⟨a, rfl, sq, hl⟩ := hv
 cases r
 match own, ho, vs, hl with
 | [a1, a2], _, [v1, v2], _ =>
  have XY : qS Xc.K H1 a [v1, v2] := by rw [e]; exact sq
  obtain ⟨its, rv, ht, hz⟩ := I.tuple XY
  cases rv with
  | cons r1 rv =>
  cases rv with
  | cons r2 rv =>
  cases rv
  have hd : X.A.handled = none := by
   have := I.ok.hd (by rw [e]; exact hc)
   rw [e] at this; exact this
  refine assign_Tuple_tuple hd ht rfl rfl fun h' hx => ?_
  have I1 : Inv Xc ko ([a1, a2] ++ mask ks σ0) H1 { s1 with heap := h' } := I.kept (t' := s1.toks) fun b o e => hx b o (Nat.ne_of_lt (Heap.lt_size e)) e
  refine assignInOrder_cons (rW (own := [a1, a2]) (n := 0) S e rfl rfl I1 r1 fun s2 I2 => ?_)
  refine assignInOrder_cons (rW (own := [some v1, a2]) (n := 1) S e rfl rfl I2 r2 fun s3 I3 => ?_)
  exact assignInOrder_nil (h rfl _ I3)
end
end L3
end
section
set_option Elab.async false
set_option linter.all false
set_option maxRecDepth 100000
namespace L3
open PySem PySem.Spec L2
theorem AR {prog : Program} {w : World} {A : Around} {R : Result → Shared → Prop} {s : Shared} {elt target iter : Expr} {ifs : List Expr} {scope : Scope} {pos : Pos} {it acc : Value} {env : Env} (I : Nat → Shared → Prop)
  (turn : ∀ (n : Nat) (s : Shared), I n s → wpAny (model prog w) A (pyNext it) (fun r s₁ => match r with
   | none => R (.ok .next) s₁
   | some v => wpAny (model prog w) A (letOwnedTupleGo target it v) (fun _ s₁' => wpAny (model prog w) A (assign target env v) (fun _ s₂ => wpAny (model prog w) A (forIn ifs true fun c r => if r = true then do let ok ← isTrue c env (eval c env); pure (ForInStep.yield ok) else pure (ForInStep.yield r)) (fun ok s₃ => if ok = true then wpAny (model prog w) A (eval elt env) (fun x s₄ => wpAny (model prog w) A (call (.builtin "list.append") [acc, x]) (fun _ s₅ => ∃ m, m < n ∧ I m s₅) (notedBy (model prog w) A env fun e s' => R (.error e) s') s₄) (notedBy (model prog w) A env fun e s' => R (.error e) s') s₃ else ∃ m, m < n ∧ I m s₃) (notedBy (model prog w) A env fun e s' => R (.error e) s') s₂) (notedBy (model prog w) A env fun e s' => R (.error e) s') s₁') (notedBy (model prog w) A env fun e s' => R (.error e) s') s₁) (notedBy (model prog w) A env fun e s' => R (.error e) s') s) (n : Nat) (h : I n s) :
  codeAny (model prog w) A (.compLoop (.ListComp elt [⟨target, iter, ifs, 0⟩] scope pos) 0 it acc env) R s := by
 refine codeAny_loop rfl I (fun n s hI => ?_) n h
 refine wpAny_noted ?_
 rw [compTurn_list]
 refine wpAny_bind (wpAny_standAt (wpAny_bind (wpAny_mono (turn n s hI) (fun r s₁ h₁ => ?_) fun _ _ z => z)))
 cases r with
 | none => exact wpAny_pure h₁
 | some v =>
  refine wpAny_bind (wpAny_mono h₁ (fun _ s₂ h₂ => wpAny_bind (wpAny_mono h₂ (fun _ s₃ h₃ => wpAny_bind (wpAny_mono h₃ (fun ok s₄ h₄ => ?_) fun _ _ z => z)) fun _ _ z => z)) fun _ _ z => z)
  cases ok with
  | false => exact wpAny_pure ⟨rfl, h₄⟩
  | true => exact wpAny_bind (wpAny_bind (wpAny_mono h₄ (fun x s₅ h₅ => wpAny_bind (wpAny_mono h₅ (fun _ s₆ h₆ => wpAny_pure (wpAny_pure ⟨rfl, h₆⟩)) fun _ _ z => z)) fun _ _ z => z))
noncomputable def CT (X : Cx) (ifs : List Expr) (tt : TT) : Prop := ∀ (pins : List (Addr × Obj)) (s : Shared) (σ : L2.St) (H : Hp) (Q : Bool → Hp → Prop), Inv X pins σ H s → tt σ H Q →
 wpAny (model X.prog X.w) X.A (forIn ifs true fun c r => if r = true then do let ok ← isTrue c X.env (eval c X.env); pure (ForInStep.yield ok) else pure (ForInStep.yield r)) (TP X pins σ Q) X.xe s
theorem Ny {X : Cx} : CT X [] (fun _ H Q => Q true H) := fun _ _ _ H _ I h => wpAny_tests_nil ⟨H, I, h⟩
theorem Nz {X : Cx} {c : Expr} {t : TT} (h : PT X c t) : CT X [c] t := fun pins s σ H Q I q => wpAny_tests_one (h pins s σ H Q I q)
noncomputable def B8 (wi : TI) (ks : List Bool) (ow : V → Hp → List V → Prop) (tt : TT) (te : TE) : TE := fun σ H Q => wi σ H fun J H1 => ∀ D, H1 D = none → ∃ W : Nat → Nat → Hp → Prop, (∃ m, W 0 m (upd H1 D (.lst []))) ∧ ∀ i m H, W i m H →
  (J.stop i H ∧ Q (.ref D) H) ∨ (J.go i H ∧ ∀ x H', J.zB i H x H' → ∃ vs, ow x H' vs ∧ tt (vs.map some ++ mask ks σ) H' fun b H2 => if b = true then te (vs.map some ++ mask ks σ) H2 fun v H3 => ∃ ys, H3 D = some (.lst ys) ∧ ys.length < sizeLine ∧ ∃ m', m' < m ∧ W (i + 1) m' (upd H3 D (.lst (ys ++ [v]))) else ∃ m', m' < m ∧ W (i + 1) m' H2)
section
variable {X : Cx} {scope : Scope} {xs : List Str} {tg : Expr} {ow : V → Hp → List V → Prop} {ks : List Bool} {pins : List (Addr × Obj)} {σ : L2.St} {H : Hp} {s s4 : Shared} {fp : List Addr} {E : Value → Shared → Prop} {h1 : Heap} {elt iter : Expr} {ifs : List Expr} {px pos : Pos} {tt : TT} {te : TE} {wi : TI}
theorem vI {h h' B B' : Heap} : ∀ {l : List Env}, h.FunFrames B l → (∀ b ∈ frs l, ∀ o, h.get? b = some o → (∀ vs, o.data ≠ .fields vs) → ∃ o', h'.get? b = some o' ∧ o'.data = o.data) → (∀ b ∈ frs l, B'.get? b = none) → h'.FunFrames B' l
 | [], _, _, _ => trivial
 | env :: r, ⟨hk, ⟨L, o, hf, _, ho, hd⟩, hr⟩, hm, hB => by
  have sub : ∀ b, b = L ∨ b ∈ frs r → b ∈ frs (env :: r) := fun b hb => by
   unfold frs; rw [List.filterMap_cons, hf]
   rcases hb with z | z
   ·rw [z]; exact List.mem_cons_self
   ·exact List.mem_cons_of_mem _ z
  obtain ⟨o', e1, e2⟩ := hm L (sub L (.inl rfl)) o ho hd
  exact ⟨hk, ⟨L, o', hf, hB L (sub L (.inl rfl)), e1, by rw [e2]; exact hd⟩, vI hr (fun b hb => hm b (sub b (.inr hb))) fun b hb => hB b (sub b (.inr hb))⟩
theorem DV {EE : gK} {D C e : Addr} {cls : Value} {c : XD} {ko : List (Addr × Obj)} {σ' : L2.St} {H' HD : Hp} {s3 s' : Shared} {cl : List (Str × Addr)} {RE : Value → Shared → Prop} (NC : mS X EE) (hst : ∃ j7 j9 L, X.stack = j7 :: j9 ∧ X.env.frame = j7.frame ∧ j7.frame = some L)
  (I3 : Inv X pins σ HD s3) (hC : C = s3.heap.objs.size) (f3 : ∀ b ∈ fp, uL X pins HD b ∧ b < s3.heap.objs.size)
  (T9 : ∀ s'' : Shared, (∃ m, s''.heap.Ns C m ∧ ∀ h', Heap.SameBut C s''.heap h' → ∀ cenv : Env, cenv.locals = C → wpAny (model X.prog X.w) X.A (passOn "comprehension.variables-let-go" (.ref e) cenv : Sem Value) (fun _ _ => False) X.xe { s'' with heap := h' }) → RE (.ref e) s'')
  (I' : Inv (uW X scope cl xs C pins s3 HD fp E) ko σ' H' s') (fx : Nv (uW X scope cl xs C pins s3 HD fp E) H' e cls s') (hc : EW X.mg c cls) (ee : EE c σ H') :
  notedBy (model X.prog X.w) X.A (compEnvC scope cl C X.env) RE (.ref e) s' := by
 obtain ⟨B, fb, hok, Gq⟩ := fx
 obtain ⟨j7, j9, L, h1, h2, h3⟩ := hst
 show wpAny _ X.A (noteFrame (.ref e) (compEnvC scope cl C X.env)) _ _ s'
 rw [DR (show (compEnvC scope cl C X.env).frame = j7.frame from h2)]
 have hfr : X.A.frames = some (j7 :: j9) := by rw [← h1]; exact I3.ok.frames
 have XZ : Gn B (j7 :: j9) e cls s'.heap := by rw [← h1]; exact fb
 refine EV hfr h3 XZ fun h5 a0 hH u5 => ?_
 obtain ⟨k1, k2, k3, oe, vs, T, oT, ts, he, hcls, hd, hv1, PX, PY, hT, Hr, X0⟩ := hH
 have Wa : h5.FunFrames B X.stack := by rw [h1]; exact k3
 obtain ⟨m, hm, _⟩ := id I'.loc
 have Wb : h5.Ns C m := u5.ns hm
 refine T9 _ ⟨m, Wb, fun h6 sb cenv _ => ?_⟩
 obtain ⟨oC, esC, epC, X3, X4, _⟩ := id Wb
 have LN : ∀ {b : Addr} {o : Obj} {ws : Array Value}, h5.get? b = some o → o.data = .fields ws → b ≠ C := fun {b o ws} q d z => by
  rw [z, X3] at q; cases q; rw [X4] at d; cases d
 have Ua := (sb.2 e (LN he hd)).trans he
 have Wc := (sb.2 T (LN hT Hr)).trans hT
 have Wd : 3 < ts.size := (Array.getElem?_eq_some_iff.mp X0).1
 unfold passOn setFlight
 refine wpAny_bind (wpAny_field Ua hd hv1 ?_)
 rw [if_neg (show ¬ ((Value.ref T == Value.none) = true) by simp)]
 have fin : X.xe (.ref e) { s' with heap := h6.update T (Obj.mapFields (·.setIfInBounds 3 (cenv.frame.elim .none fun f => rawInt f))) } := by
  have P6 : ∀ b, b ≠ T → (h6.update T (Obj.mapFields (·.setIfInBounds 3 (cenv.frame.elim .none fun f => rawInt f)))).get? b = h6.get? b := fun b hb => Heap.get?_update_other _ _ (Ne.symm hb)
  have Hs : ∀ b, b ≠ T → b ≠ C → (h6.update T (Obj.mapFields (·.setIfInBounds 3 (cenv.frame.elim .none fun f => rawInt f)))).get? b = h5.get? b := fun b hb hb2 => (P6 b hb).trans (sb.2 b hb2)
  generalize X5 : h6.update T (Obj.mapFields (·.setIfInBounds 3 (cenv.frame.elim .none fun f => rawInt f))) = h7 at P6 Hs
  have X6 : h7.get? T = some (Obj.mapFields (·.setIfInBounds 3 (cenv.frame.elim .none fun f => rawInt f)) oT) := by rw [← X5]; exact Heap.get?_update_self _ Wc (Obj.isFreed_of_fields (Obj.data_mapFields Hr _))
  have X7 : ∀ b o, B.get? b = some o → b ≠ T := fun b o q z => by rw [z, PX] at q; cases q
  have Sv : ∀ b o, (B.hide C).get? b = some o → h7.get? b = some o := fun b o q => by
   have q' := Heap.of_hide q
   have nC : b ≠ C := fun z => by rw [z, Heap.hide_self] at q; cases q
   rw [Hs b (X7 b o q') nC]
   exact k1 b o q'
  have hide : ∀ b o, b ≠ C → B.get? b = some o → (B.hide C).get? b = some o := fun b o z q => (Heap.hide_ne B z).trans q
  have ND : ∀ b o, s3.heap.get? b = some o → b ≠ C := fun b o q => by rw [hC]; exact Nat.ne_of_lt (Heap.lt_size q)
  have P7 : sW X.prog X.w H' (B.hide C) := B5 hok fun b o n q => hide b o (fun z => n (by rw [z]; exact I'.free)) q
  have P4 : ∀ b, b ∉ frs X.stack → b ∉ X.fs := fun b hb z => hb (by
   rcases I3.ok.stk with q | ⟨q, _⟩
   ·rw [q]; exact z
   ·rw [q]; unfold frs; rw [List.filterMap_cons]; split
    ·exact z
    ·exact List.mem_cons_of_mem _ z)
  have slot : ∀ b o, s3.heap.get? b = some o → b ∈ frs X.stack → ∃ sl, h7.get? b = some { o with slots := sl } := fun b o q hb => by
   obtain ⟨_, o', q', hnf⟩ := I3.stack.mem hb
   rw [q] at q'; cases q'
   obtain ⟨sl, e1⟩ := I'.base.slot b o q (I3.sY b hb) hb fun z => (I'.ok.My b z) hb
   obtain ⟨O3, e2⟩ := u5 b _ e1 hnf
   refine ⟨O3, ?_⟩
   rw [Hs b (fun z => by rw [z, hT] at e2; cases e2; exact hnf _ Hr) (ND b o q)]
   exact e2
  have un : Un (frs X.stack) fp HD H' s3.heap h7 := ⟨fun b o q n hb hx => Sv b o (hide b o (ND b o q) (Gq.keep b o q n hb hx)), fun b o q n hb hx => slot b o q hb, fun b o q n hx => I'.base.free b o q n hx, fun b o q hx => by
   by_cases hb : b ∈ frs X.stack
   ·obtain ⟨sl, z⟩ := slot b o q hb
    exact ⟨_, z⟩
   ·obtain ⟨o', z⟩ := Gq.there b o q hb hx
    exact ⟨o', Sv b o' (hide b o' (ND b o q) z)⟩, I'.base.tups, I'.base.qR, I'.base.rO⟩
  have I7 : Inv X pins σ H' { s' with heap := h7 } := I3.Hv (ch := fp) I'.os un (P7.kept Sv) I'.bare fun b hb => by
   obtain ⟨g0, g1, g2, g3, g4, g5⟩ := (f3 b hb).1
   exact ⟨g3, g1, g4, g5⟩
  have We : ∀ b o, X.s₀.heap.get? b = some o → b ∉ X.ex → b ∉ fp := fun b o q hx hb => by
   obtain ⟨g0, g1, g2, g3, g4, g5⟩ := (f3 b hb).1
   rcases g3 with z | z
   ·exact hx z
   ·exact absurd (Nat.lt_of_lt_of_le (Heap.lt_size q) z) (Nat.lt_irrefl _)
  refine NC pins σ H' _ e cls c I7 ⟨B.hide C, ⟨Sv, ?_, ?_, .inr ⟨a0, _, oe, vs, T, _, _, ?_, hcls, hd, hv1, ?_, PY, X6, Obj.data_mapFields Hr _, by simp [Wd]; rfl⟩⟩, P7, ⟨fun b o q n hb hx => ?_, fun b o q hb hx => ?_, fun p hp => ?_⟩⟩ hc ee
  ·cases q : (B.hide C).get? e with
   | none => rfl
   | some o => have := Heap.of_hide q; rw [k2] at this; cases this
  ·refine vI Wa (fun b hb o q hnf => ?_) fun b hb => ?_
   ·refine ⟨o, ?_, rfl⟩
    show h7.get? b = some o
    rw [Hs b (fun z => by rw [z, hT] at q; cases q; exact hnf _ Hr) ?_]
    ·exact q
    ·obtain ⟨_, o', q', _⟩ := I3.stack.mem hb
     exact ND b o' q'
   ·cases q : (B.hide C).get? b with
    | none => rfl
    | some o => have := Heap.of_hide q; rw [(Wa.mem hb).1] at this; cases this
  ·exact (Hs e (Ne.symm PY) (LN he hd)).trans he
  ·cases q : (B.hide C).get? T with
   | none => rfl
   | some o => have := Heap.of_hide q; rw [PX] at this; cases this
  ·have q3 := I3.base.keep b o q n (P4 b hb) hx
   exact hide b o (ND b o q3) (Gq.keep b o q3 (I3.base.free b o q n hx) hb (We b o q hx))
  ·obtain ⟨o', q3⟩ := I3.base.there b o q hx
   obtain ⟨Wf, z⟩ := Gq.there b o' q3 hb (We b o q hx)
   exact ⟨Wf, hide b Wf (ND b o' q3) z⟩
  ·exact hide _ _ (ND _ _ (I3.pin p (List.mem_append_left _ hp)).1) (Gq.pins p (List.mem_append_left _ hp))
 first
  | (refine wpAny_bind (wpAny_pure ?_); refine wpAny_bind (wpAny_bind (wpAny_field Ua hd hv1 ?_)))
  | refine wpAny_bind (wpAny_bind (wpAny_field Ua hd hv1 ?_))
 rw [if_pos (show (Value.ref T != Value.none) = true by simp)]
 exact wpAny_setField Wc Hr Wd (wpAny_throw fin)
theorem xK {Q : VK} {J : It} {it : Addr} {tn : Nat → Heap → Prop} {RR : Value → Addr → Result → Shared → Prop} {EE : gK} (NC : mS X EE) (hst : ∃ j7 j9 L, X.stack = j7 :: j9 ∧ X.env.frame = j7.frame ∧ j7.frame = some L) (S : dP X.env.scope X.N scope xs ks) (how : Own X scope xs ks tg ow) (hc : X.calm = true) (I : Inv X pins σ H s)
  (T : Turn X.prog X.w X.K tg J fp it tn) (st : tn 0 s.heap) (hf : ∀ b ∈ fp, uL X pins H b)
  (hb : ∀ (cl : List (Str × Addr)) (C : Addr) (pins : List (Addr × Obj)) (s0 : Shared) (H0 : Hp) (fp : List Addr) (E : Value → Shared → Prop), mS (uW X scope cl xs C pins s0 H0 fp E) (fun c _ H' => EE c σ H') → CT (uW X scope cl xs C pins s0 H0 fp E) ifs tt ∧ PE (uW X scope cl xs C pins s0 H0 fp E) elt te)
  (hw : ∀ D, H D = none → ∃ W : Nat → Nat → Hp → Prop, (∃ m, W 0 m (upd H D (.lst []))) ∧ ∀ i m H, W i m H →
   (J.stop i H ∧ Q (.ref D) H) ∨ (J.go i H ∧ ∀ x H', J.zB i H x H' → ∃ vs, ow x H' vs ∧ tt (vs.map some ++ mask ks σ) H' fun b H2 => if b = true then te (vs.map some ++ mask ks σ) H2 fun v H3 => ∃ ys, H3 D = some (.lst ys) ∧ ys.length < sizeLine ∧ ∃ m', m' < m ∧ W (i + 1) m' (upd H3 D (.lst (ys ++ [v]))) else ∃ m', m' < m ∧ W (i + 1) m' H2))
  (hRR : ∀ (D C : Addr) (s' : Shared) (H' : Hp) (m : Str → Option Value), Inv X pins σ H' s' → s'.heap.Ns C m → H' C = none → C ≠ X.env.locals → X.s₀.heap.objs.size ≤ C → (∀ x c, X.env.cells.lookup x = some c → c ≠ C) → (∀ p ∈ X.pn ++ pins, p.1 ≠ C) → Q (.ref D) H' → RR (.ref D) C (.ok .next) s')
  (T9 : ∀ (acc : Value) (C e : Addr) (s'' : Shared), (∃ m, s''.heap.Ns C m ∧ ∀ h', Heap.SameBut C s''.heap h' → ∀ cenv : Env, cenv.locals = C → wpAny (model X.prog X.w) X.A (passOn "comprehension.variables-let-go" (.ref e) cenv : Sem Value) (fun _ _ => False) X.xe { s'' with heap := h' }) → RR acc C (.error (.ref e)) s'') :
  wpAny (model X.prog X.w) X.A (newList []) (fun acc s₃ => wpAny (model X.prog X.w) X.A (newFunctionEnv scope X.env.globals (jC X.env scope.names []) [] X.env.qual none .none (some X.env)) (fun cenv s₄ =>
   codeAny (model X.prog X.w) X.A (.compStart (.ListComp elt [⟨tg, iter, ifs, 0⟩] scope pos) 0 (.ref it) acc { cenv with scope := relabel scope X.env }) (RR acc cenv.locals) s₄) E s₃) E s := by
 refine wpAny_newObj_type (wpAny_newFunctionEnv S.Ij (by intro y hy; simp at hy) (fun h₁ P8 P9 => ?_) S.kind)
 have I3 : Inv X pins σ (upd H s.heap.objs.size (.lst [])) { s with heap := s.heap.push { cls := .type "list", dict := none, data := .seq ([] : List Value).toArray } } :=
  I.laid (t' := s.toks) (fun b o e => Heap.get?_push_of_some _ e) (Nat.le_refl _) ⟨Nat.zero_le _, [], 0, .nil, Heap.get?_push_size _ rfl⟩
 have hfree := I.hok.fresh (Nat.le_refl s.heap.objs.size)
 generalize Wg : ({ s with heap := s.heap.push { cls := .type "list", dict := none, data := .seq ([] : List Value).toArray } } : Shared) = s3 at I3 P8 P9 ⊢
 have hsz : s3.heap.objs.size = s.heap.objs.size + 1 := by rw [← Wg]; exact Heap.size_push ..
 have Qa : ∀ b o, s.heap.get? b = some o → s3.heap.get? b = some o := fun b o e => by rw [← Wg]; exact Heap.get?_push_of_some _ e
 have Qc : ∀ b ∈ fp, b < s.heap.objs.size := fun b hb' => by
  obtain ⟨o, e, _⟩ := T.obj 0 _ st b hb'
  exact Heap.lt_size e
 have f3 : ∀ b ∈ fp, uL X pins (upd H s.heap.objs.size (.lst [])) b ∧ b < s3.heap.objs.size := fun b hb' =>
  ⟨⟨by rw [bL (Nat.ne_of_lt (Qc b hb'))]; exact (hf b hb').1, (hf b hb').2⟩, by rw [hsz]; exact Nat.lt_succ_of_lt (Qc b hb')⟩
 have Il : ∀ b o, s3.heap.get? b = some o → h₁.get? b = some o := fun b o e => P9.extBut b o (Nat.ne_of_lt (Heap.lt_size e)) (Heap.get?_push_of_some _ e)
 obtain ⟨W, ⟨m0, w0⟩, turn⟩ := hw s.heap.objs.size hfree
 generalize hX : uW X scope (jC X.env scope.names []) xs s3.heap.objs.size pins s3 (upd H s.heap.objs.size (.lst [])) fp (notedBy (model X.prog X.w) X.A (compEnvC scope (jC X.env scope.names []) s3.heap.objs.size X.env) fun e s' => RR (.ref s.heap.objs.size) s3.heap.objs.size (.error e) s') = Xc
 have I4 : Inv Xc [] (List.replicate xs.length none ++ mask ks σ) (upd H s.heap.objs.size (.lst [])) { s3 with heap := h₁, toks := s3.toks + ([] : List (Str × Value)).length } := by
  rw [← hX]
  exact DU S I3 f3 (by simpa using P8) Il _
 have JT : CT Xc ifs tt ∧ PE Xc elt te := by
  rw [← hX]
  exact hb _ _ _ _ _ _ _ fun ko σ' H' s' e cls c I' fx hc ee => DV (RE := fun e s' => RR (.ref s.heap.objs.size) s3.heap.objs.size (.error e) s') (D := s.heap.objs.size) NC hst I3 rfl f3 (fun s'' => T9 _ _ e s'') I' fx hc ee
 have B9 : Xc.prog = X.prog := by rw [← hX]; rfl
 have ew : Xc.w = X.w := by rw [← hX]; rfl
 have eK : Xc.K = X.K := by rw [← hX]; rfl
 have eA : Xc.A = X.A := by rw [← hX]; rfl
 have LZ : Xc.calm = true := by rw [← hX]; exact hc
 have Ub : Xc.xe = notedBy (model X.prog X.w) X.A Xc.env fun e s' => RR (.ref s.heap.objs.size) s3.heap.objs.size (.error e) s' := by rw [← hX]; rfl
 have NF : Xc.env = compEnvC scope (jC X.env scope.names []) s3.heap.objs.size X.env := by rw [← hX]; rfl
 have X8 : Xc.stack = X.stack := by rw [← hX]; rfl
 have Uc : ∀ {H' : Hp}, (∀ b ∈ fp, H' b = none) → ∀ b ∈ fp, uL Xc [] H' b := fun {H'} hn b hb' => by
  obtain ⟨g0, g1, g2, g3, g4, g5⟩ := (f3 b hb').1
  rw [← hX]
  refine ⟨hn b hb', Nat.ne_of_lt (f3 b hb').2, fun z => (List.mem_cons.mp (I3.nt b z)).elim g1 g2, .inl hb', fun y c e => g4 y c (xG scope.names [] (fun y c e => by simp at e) y c e), fun p hp => g5 p ?_⟩
  have : p ∈ (X.pn ++ pins) ++ [] := hp
  simpa using this
 have fin : ∀ (s' : Shared) (H' : Hp) (a0 : List (Option V)), Inv Xc [] (a0 ++ mask ks σ) H' s' → Q (.ref s.heap.objs.size) H' → RR (.ref s.heap.objs.size) s3.heap.objs.size (.ok .next) s' := fun s' H' a0 I' q => by
  have hloc := I'.loc
  obtain ⟨m, hm, _⟩ := hloc
  have hC : H' s3.heap.objs.size = none := by have := I'.free; rw [NF] at this; exact this
  have hU : Un (frs X.stack) fp (upd H s.heap.objs.size (.lst [])) H' s3.heap s'.heap := by
   have := I'.base
   rw [← hX] at this
   exact this
  have hos : s'.os = s3.os ∧ 0 < s'.toks := by have := I'.os; rw [← hX] at this; exact this
  have Ud : sW X.prog X.w H' s'.heap := by have := I'.hok; rw [← hX] at this; exact this
  have I5 : Inv X pins σ H' s' := I3.Hv hos hU Ud I'.bare fun b hb' => by
   obtain ⟨g0, g1, g2, g3, g4, g5⟩ := (f3 b hb').1
   exact ⟨g3, g1, g4, g5⟩
  refine hRR _ _ s' H' m I5 (by rw [NF] at hm; exact hm) hC (Nat.ne_of_gt I3.lt) (Nat.le_trans I3.sz (Nat.le_refl _)) (fun y c e z => ?_) (fun p hp z => ?_) q
  ·obtain ⟨v, hv⟩ := I3.cell y c e
   exact absurd hv.lt (by rw [z]; exact Nat.lt_irrefl _)
  ·exact absurd (Heap.lt_size (I3.pin p hp).1) (by rw [z]; exact Nat.lt_irrefl _)
 have loop : codeAny (model X.prog X.w) X.A (.compLoop (.ListComp elt [⟨tg, iter, ifs, 0⟩] scope pos) 0 (.ref it) (.ref s.heap.objs.size) Xc.env) (RR (.ref s.heap.objs.size) s3.heap.objs.size)
   { s3 with heap := h₁, toks := s3.toks + ([] : List (Str × Value)).length } := by
  refine AR (fun n s' => ∃ i a0 H', a0.length = xs.length ∧ Inv Xc [] (a0 ++ mask ks σ) H' s' ∧ tn i s'.heap ∧ (∀ b ∈ fp, H' b = none) ∧ W i n H') ?_ m0 ⟨0, List.replicate xs.length none, _, by simp, I4, T.keep 0 _ _ st fun b hb' o e => Il b o (Qa b o e), fun b hb' => (f3 b hb').1.1, w0⟩
  rintro n s5 ⟨i, a0, H5, Yb, I5, OL, Sl, w5⟩
  rcases turn i n H5 w5 with ⟨stop, q⟩ | ⟨go, step⟩
  ·have hd := T.done Xc B9 ew eK LZ i [] s5 _ H5 (fun _ _ => False) I5 (Uc Sl) OL stop
   rw [eA] at hd
   refine wpAny_mono hd (fun r s6 hr => ?_) (fun _ _ z => False.elim z)
   obtain ⟨rfl, I6⟩ := hr
   exact fin s6 H5 a0 I6 q
  ·have hd := T.item Xc B9 ew eK LZ i [] s5 _ H5 (fun _ _ => False) I5 (Uc Sl) OL go
   rw [eA] at hd
   refine wpAny_mono hd (fun r s6 hr => ?_) (fun _ _ z => False.elim z)
   obtain ⟨u, rfl, h6⟩ := hr
   refine wpAny_mono h6 (fun _ s7 hq => ?_) (fun _ _ z => False.elim z)
   obtain ⟨v, H7, I7, r7, y7, Ue, Yc⟩ := hq
   obtain ⟨vs, hvs, step⟩ := step v H7 y7
   have Yd : Inv Xc (uM fp s7.heap) (a0 ++ mask ks σ) H7 s7 := by
    have := Inv.pinned (pins := []) I7 (Uc Yc) (T.obj _ _ Ue)
    simpa using this
   have back : ∀ {σ' : L2.St} {H' : Hp} {s' : Shared}, Inv Xc (uM fp s7.heap) σ' H' s' → Inv Xc [] σ' H' s' ∧ tn (i + 1) s'.heap ∧ ∀ b ∈ fp, H' b = none := fun {σ' H' s'} I' => by
    refine ⟨I'.sZ fun p hp => absurd hp (by simp), T.keep _ _ _ Ue fun b hb' o e => (I'.pin (b, o) (List.mem_append_right _ (ny hb' e))).1, fun b hb' => ?_⟩
    obtain ⟨o, e, d⟩ := T.obj _ _ Ue b hb'
    exact (I'.pin (b, o) (List.mem_append_right _ (ny hb' e))).2.1
   refine how _ _ _ _ _ _ _ Xc σ a0 v vs u H7 s7 _ _ _ hX.symm Yb Yd r7 hvs fun Wh s8 Ye => ?_
   have ht := JT.1 _ s8 _ H7 _ Ye step
   rw [B9, ew, eA, Ub] at ht
   refine wpAny_mono ht (fun Yg s9 h9 => ?_) (fun _ _ z => z)
   obtain ⟨H9, I9, q9⟩ := h9
   cases Yg with
   | false =>
    rw [if_neg Bool.false_ne_true] at q9 ⊢
    obtain ⟨m', hm', w'⟩ := q9
    obtain ⟨Yh, Yi, Yj⟩ := back I9
    exact ⟨m', hm', i + 1, vs.map some, H9, by simpa using Wh, Yh, Yi, Yj, w'⟩
   | true =>
    rw [if_pos rfl] at q9 ⊢
    have he := JT.2 _ s9 _ H9 _ I9 q9
    rw [B9, ew, eA, Ub] at he
    refine wpAny_mono he (fun y Yk NG => ?_) (fun _ _ z => z)
    obtain ⟨yv, Yl, Ym, Yn, ys, hD, hlen, m', hm', w'⟩ := NG
    have ha := zK (X := Xc) _ Yk _ Yl (.ref s.heap.objs.size) [yv] (.ref s.heap.objs.size) [y] (fun _ H' => ∃ m', m' < n ∧ W (i + 1) m' H') Ym rfl (.cons Yn .nil) ⟨_, ys, yv, rfl, rfl, hD, hlen, m', hm', w'⟩
    rw [B9, ew, eA, Ub] at ha
    refine wpAny_mono ha (fun _ s11 h11 => ?_) (fun _ _ z => z)
    obtain ⟨_, Yo, Yp, _, Yq, Ug, w''⟩ := h11
    obtain ⟨Uh, Ui, Uj⟩ := back Yp
    exact ⟨Yq, Ug, i + 1, vs.map some, Yo, by simpa using Wh, Uh, Ui, Uj, w''⟩
 rw [NF] at loop
 exact codeAny_compStart_list loop (T.self X.A 0 _ _ _ (T.keep 0 _ _ st fun b hb' o e => Il b o (Qa b o e)) loop)
theorem EY {EE : gK} {tt : L2.St → TT} {te : L2.St → TE} (NC : mS X EE) (hst : ∃ j7 j9 L, X.stack = j7 :: j9 ∧ X.env.frame = j7.frame ∧ j7.frame = some L) (S : dP X.env.scope X.N scope xs ks) (how : Own X scope xs ks tg ow) (hc : X.calm = true) (hi : PI X tg iter wi)
  (hb : ∀ (σ : L2.St) (cl : List (Str × Addr)) (C : Addr) (pins : List (Addr × Obj)) (s0 : Shared) (H0 : Hp) (fp : List Addr) (E : Value → Shared → Prop), mS (uW X scope cl xs C pins s0 H0 fp E) (fun c _ H' => EE c σ H') → CT (uW X scope cl xs C pins s0 H0 fp E) ifs (tt σ) ∧ PE (uW X scope cl xs C pins s0 H0 fp E) elt (te σ))
  (hs : ∀ x, foldedSetIterable iter X.env x = pure x := by intro _; rfl) : PE X (.ListComp elt [⟨tg, iter, ifs, 0⟩] scope pos) (fun σ => B8 wi ks ow (tt σ) (te σ) σ) := by
 intro pins s σ H Q I h
 rw [eval_ListComp]
 refine wpAny_comprehension_free (use := none) rfl hs (rA fun y hy hfr => I.ok.has y.1 (S.free y hy hfr)) S.kind S.names (ja (hi pins s σ H _ I h) fun v s1 h1 => ja h1 fun itv s2 h2 => ?_)
 obtain ⟨it, fp, tn, J, H2, rfl, I2, T, st2, f2, q⟩ := h2
 refine xK (RR := fun acc C => compPost (model X.prog X.w) X.A X.xe none (EP X pins σ Q) acc C) NC hst S how hc I2 T st2 f2 (hb σ) q ?_ (fun _ _ _ _ z => z)
 intro D C s' H' m I' hn hC h1 h2 h3 h4 q'
 refine ⟨m, hn, fun h' sb => ?_⟩
 exact ⟨.ref D, H', I'.turned (t' := s'.toks) (fun b o hb e => (sb.2 b hb).trans e) hC h1 (.inr h2) h3 h4, rfl, q'⟩
theorem K0 {EE : gK} {tt : L2.St → TT} {te : L2.St → TE} (NC : mS X EE) (hst : ∃ j7 j9 L, X.stack = j7 :: j9 ∧ X.env.frame = j7.frame ∧ j7.frame = some L) {y : Str} {i : Nat} {py spos : Pos} (S : dP X.env.scope X.N scope xs ks) (how : Own X scope xs ks tg ow) (hc : X.calm = true) (hN : X.N.Nodup) (hi : PI X tg iter wi) (hy : X.N[i]? = some y) (hl : X.env.scope.names.lookup y = some .local)
  (hsw : swapsWith (.ListComp elt [⟨tg, iter, ifs, 0⟩] scope pos) (some (.Name y py)) spos.line X.env = pure true)
  (hb : ∀ (σ : L2.St) (cl : List (Str × Addr)) (C : Addr) (pins : List (Addr × Obj)) (s0 : Shared) (H0 : Hp) (fp : List Addr) (E : Value → Shared → Prop), mS (uW X scope cl xs C pins s0 H0 fp E) (fun c _ H' => EE c σ H') → CT (uW X scope cl xs C pins s0 H0 fp E) ifs (tt σ) ∧ PE (uW X scope cl xs C pins s0 H0 fp E) elt (te σ))
  (hs : ∀ x, foldedSetIterable iter X.env x = pure x := by intro _; rfl) : PS X (.Assign [.Name y py] (.ListComp elt [⟨tg, iter, ifs, 0⟩] scope pos) spos) (MJ (fun σ => B8 wi ks ow (tt σ) (te σ) σ) (BN i)) := by
 intro pins s σ H Dd I h
 rw [exec_Assign_Name_used _ _ _ _ hsw]
 refine wpAny_bind (wpAny_standAt (wpAny_bind ?_))
 show wpAny _ X.A (do let _ ← comprehension (.ListComp elt [⟨tg, iter, ifs, 0⟩] scope pos) scope X.env _ (newList []) false (eval iter X.env) (some (assign (.Name y py) X.env))) _ _ s
 refine wpAny_bind (wpAny_mono (wpAny_comprehension_free (use := some (assign (.Name y py) X.env)) (Q := fun _ s' => SP X pins Dd .next s') rfl hs (rA fun y hy hfr => I.ok.has y.1 (S.free y hy hfr)) S.kind S.names
  (ja (hi pins s σ H _ I h) fun v s1 h1 => ja h1 fun itv s2 h2 => ?_)) (fun _ s' hq => wpAny_pure (wpAny_pure hq)) fun _ _ e => e)
 obtain ⟨it, fp, tn, J, H2, rfl, I2, T, st2, f2, q⟩ := h2
 refine xK (Q := fun v H' => Dd.nx (σ.set i (some v)) H') (RR := fun acc C => compPost (model X.prog X.w) X.A X.xe (some (assign (.Name y py) X.env)) (fun _ s' => SP X pins Dd .next s') acc C) NC hst S how hc I2 T st2 f2 (hb σ) q ?_ (fun _ _ _ _ z => z)
 intro D C s' H' m I' hn hC h1 h2 h3 h4 q'
 show wpAny _ X.A (assign (.Name y py) X.env (.ref D)) _ _ s'
 refine wpAny_assign_Name (zz I' hN hy (.inl hl) (v := .ref D) (u := .ref D) rfl (fun s'' Yr sb => ?_) (.inr hl))
 obtain ⟨a, sb, ha⟩ := sb
 have hne : C ≠ a := by
  rcases ha with e | e
  ·rw [e]; exact h1
  ·exact fun z => h3 y a e z.symm
 refine ⟨m, hn.sameBut sb hne, fun h'' sb' => ?_⟩
 exact ⟨_, H', Yr.turned (t' := s''.toks) (fun b o hb e => (sb'.2 b hb).trans e) hC h1 (.inr h2) h3 h4, q'⟩
end
end L3
end
section
set_option Elab.async false
set_option linter.all false
set_option maxRecDepth 100000
namespace L3
open PySem PySem.Spec L2
noncomputable def oN : D → Option (List D) := fun d => some [d]
noncomputable def oT (n : Nat) : D → Option (List D)
 | .tup xs => if xs.length = n then some xs else none
 | _ => none
noncomputable def rX (K : PySem.W.Frag) (mg : Str → Option Value) (ow : V → Hp → List V → Prop) (gO : D → Option (List D)) : Prop :=
 ∀ (ρ : List Addr) (H : Hp) (d : D) (v : V) (os : List D), Rep K mg ρ H d v → gO d = some os → ∃ vs, ow v H vs ∧ aG K mg ρ H os vs
theorem kN {K : PySem.W.Frag} {mg : Str → Option Value} : rX K mg B6 oN := fun ρ H d v os r e => by
 cases e
 exact ⟨[v], rfl, .cons r .nil⟩
theorem Ca {K : PySem.W.Frag} {mg : Str → Option Value} {n : Nat} : rX K mg (KZ K n) (oT n) := fun ρ H d v os r e => by
 cases d <;> try (cases e; done)
 rename_i xs
 dsimp only [oT] at e
 by_cases h : xs.length = n
 ·rw [if_pos h] at e; cases e
  unfold Rep at r
  obtain ⟨a, vs, rfl, sq, rs⟩ := r
  exact ⟨vs, ⟨a, rfl, sq, by rw [← rs.length]; exact h⟩, rs⟩
 ·rw [if_neg h] at e; cases e
noncomputable def K1 (K : PySem.W.Frag) (mg : Str → Option Value) (H H' : Hp) (ρ : List Addr) : Prop := fY K H H' ρ ρ ∧ ∀ G, lO K mg H ρ G → lO K mg H' ρ G
theorem K1.refl {K : PySem.W.Frag} {mg : Str → Option Value} {H : Hp} {ρ : List Addr} : K1 K mg H H ρ := ⟨.refl, fun _ h => h⟩
noncomputable def fH (gO : D → Option (List D)) (ks : List Bool) (tt : DS → M Bool) (te : DS → M D) (n : Nat) (d : D) (τ : DS) (G : DH) : Out Unit := match gO d with
 | none => .stuck
 | some os => match tt (os.map some ++ mask ks τ) G with
 | .ok true G1 => match te (os.map some ++ mask ks τ) G1 with
  | .ok v G2 => match G2[n]? with
   | some (.lst ys) => if ys.length < sizeLine then .ok () (G2.set n (.lst (ys ++ [v]))) else .stuck
   | _ => .stuck
  | .fR c G2 => .fR c G2
  | .stuck => .stuck
 | .ok false G1 => .ok () G1
 | .fR c G1 => .fR c G1
 | .stuck => .stuck
noncomputable def e9 (gO : D → Option (List D)) (ks : List Bool) (tt : DS → M Bool) (te : DS → M D) (n : Nat) : List D → DS → DH → Out D
 | [], _, G => .ok (.obj n) G
 | d :: r, τ, G => match fH gO ks tt te n d τ G with
  | .ok _ G' => e9 gO ks tt te n r τ G'
  | .fR c G' => .fR c G'
  | .stuck => .stuck
noncomputable def vJ (gO : D → Option (List D)) (ks : List Bool) (tt : DS → M Bool) (te : DS → M D) (n src : Nat) : Nat → Nat → DS → DH → Out D
 | 0, _, _, _ => .stuck
 | f + 1, k, τ, G => match G[src]? with
  | some (.lst xs) => match xs[k]? with
   | none => .ok (.obj n) G
   | some d => match fH gO ks tt te n d τ G with
    | .ok _ G' => vJ gO ks tt te n src f (k + 1) τ G'
    | .fR c G' => .fR c G'
    | .stuck => .stuck
  | _ => .stuck
noncomputable def oG (gO : D → Option (List D)) (ks : List Bool) (m : DS → M D) (tt : DS → M Bool) (te : DS → M D) : DS → M D := fun τ => (m τ).bind fun d G => match d with
 | .obj k => match G[k]? with
  | some (.lst xs) => vJ gO ks tt te G.length k (xs.length + 1) 0 τ (G ++ [.lst []])
  | _ => .stuck
 | .tup xs => e9 gO ks tt te G.length xs τ (G ++ [.lst []])
 | .con xs => e9 gO ks tt te G.length xs τ (G ++ [.lst []])
 | .str z => e9 gO ks tt te G.length (z.cps.toList.map fun c => .str ⟨#[c]⟩) τ (G ++ [.lst []])
 | _ => .stuck
noncomputable def xM (FN : List D → Option (List D)) (gO : D → Option (List D)) (ks : List Bool) (m : DS → M (List D)) (tt : DS → M Bool) (te : DS → M D) : DS → M D := fun τ => (m τ).bind fun ds G => match FN ds with
 | some xs => e9 gO ks tt te G.length xs τ (G ++ [.lst []])
 | none => .stuck
section
variable {X : Cx} {EE : gK} {gO : D → Option (List D)} {ow : V → Hp → List V → Prop} {xs : List Str} {tg : Expr} {ks : List Bool} {tt : DS → M Bool} {te : DS → M D}
theorem Gs {K : PySem.W.Frag} {mg : Str → Option Value} {σ : L2.St} {H : Hp} {τ : DS} {ρ : List Addr} {os : List D} {vs : List V} (h : yW K mg H ρ σ τ) (r : aG K mg ρ H os vs) : yW K mg H ρ (vs.map some ++ mask ks σ) (os.map some ++ mask ks τ) := by
 have hl := r.length
 refine ⟨by simp [lU, h.1, hl], fun i e he => ?_⟩
 by_cases hi : i < os.length
 ·rw [List.getElem?_append_left (by simpa using hi), List.getElem?_map] at he
  cases q : os[i]? with
  | none => rw [q] at he; cases he
  | some d =>
   rw [q] at he; cases he
   obtain ⟨v, e1, r1⟩ := r.get q
   exact ⟨v, by rw [List.getElem?_append_left (by simp; omega), List.getElem?_map, e1]; rfl, r1⟩
 ·rw [List.getElem?_append_right (by simp; omega)] at he
  obtain ⟨h1, h2⟩ := pI he
  obtain ⟨w, e1, r1⟩ := h.2 _ e h2
  refine ⟨w, ?_, r1⟩
  rw [List.getElem?_append_right (by simp; omega)]
  have := EX h1 e1
  simpa [hl] using this
noncomputable def yT (EE : gK) (σ : L2.St) : gK := fun c _ H' => EE c σ H'
theorem uY (hO : rX X.K X.mg ow gO) {W : Hp → Prop} {n : Nat} {p : Addr} {σ : L2.St} {H : Hp} {τ : DS} {ρ : List Addr} {G : DH} {d : D} {v : V} (ab : Ab X.K X.mg σ H τ ρ G) (r : Rep X.K X.mg ρ H d v) (hn : ρ[n]? = some p)
  (hW : match fH gO ks tt te n d τ G with
   | .stuck => False
   | .ok _ G' => ∀ H' ρ', fY X.K H H' ρ ρ' → Ab X.K X.mg σ H' τ ρ' G' → W H'
   | .fR c G' => ∀ H' ρ', fY X.K H H' ρ ρ' → Ab X.K X.mg σ H' τ ρ' G' → EE c σ H') :
  ∃ vs, ow v H vs ∧ liftT X.K X.mg (yT EE σ) tt (vs.map some ++ mask ks σ) H fun b H2 => if b = true then eV X.K X.mg (yT EE σ) te (vs.map some ++ mask ks σ) H2 fun u H3 => ∃ ys, H3 p = some (.lst ys) ∧ ys.length < sizeLine ∧ W (upd H3 p (.lst (ys ++ [u]))) else W H2 := by
 unfold fH at hW
 cases qo : gO d with
 | none => rw [qo] at hW; exact hW.elim
 | some os =>
 rw [qo] at hW
 dsimp only at hW
 obtain ⟨us, Kv, Ys⟩ := hO ρ H d v os r qo
 refine ⟨us, Kv, ?_⟩
 refine ⟨_, ρ, G, ⟨Gs ab.st Ys, ab.hp⟩, ?_⟩
 cases q : tt (os.map some ++ mask ks τ) G with
 | stuck => rw [q] at hW; exact hW
 | fR c G1 => rw [q] at hW; exact fun H' ρ' f eu => hW H' ρ' f ⟨ab.st.mono f, eu.hp⟩
 | ok b G1 =>
  rw [q] at hW
  intro H1 ρ1 f1 uS
  cases b with
  | false =>
   rw [if_neg Bool.false_ne_true]
   exact hW H1 ρ1 f1 ⟨ab.st.mono f1, uS.hp⟩
  | true =>
   rw [if_pos rfl]
   dsimp only at hW
   refine ⟨_, ρ1, G1, uS, ?_⟩
   cases q2 : te (os.map some ++ mask ks τ) G1 with
   | stuck => rw [q2] at hW; exact hW
   | fR c G2 => rw [q2] at hW; exact fun H' ρ' f eu => hW H' ρ' (f1.trans f) ⟨ab.st.mono (f1.trans f), eu.hp⟩
   | ok u G2 =>
    rw [q2] at hW
    dsimp only at hW
    intro w H2 ρ2 f2 gf r2
    cases q3 : G2[n]? with
    | none => rw [q3] at hW; exact hW.elim
    | some o =>
     cases o with
     | dead => first | (rw [q] at ok; exact ok.elim) | (rw [q] at bD; exact bD.elim) | (rw [q3] at hW; exact hW.elim) | (rw [q] at e; cases e; done) | (rw [g] at ok; exact ok.elim) | (rw [g] at q; cases q; done) | (rw [g] at h; cases h; done) | exact ok.elim
     | dct kv => first | (rw [q] at ok; exact ok.elim) | (rw [q] at bD; exact bD.elim) | (rw [q3] at hW; exact hW.elim) | (rw [q] at e; cases e; done) | (rw [g] at ok; exact ok.elim) | (rw [g] at q; cases q; done) | (rw [g] at h; cases h; done) | exact ok.elim
     | lst ys =>
      rw [q3] at hW
      dsimp only at hW
      by_cases hl : ys.length < sizeLine
      ·rw [if_pos hl] at hW
       dsimp only at hW
       obtain ⟨p', vs, e1, e2, rs⟩ := gf.hp.lst q3
       have K2 := f1.trans f2
       rw [K2.get hn] at e1; cases e1
       refine ⟨vs, e2, by rw [← rs.length]; exact hl, ?_⟩
       have f3 : fY X.K H2 (upd H2 p (.lst (vs ++ [w]))) ρ2 ρ2 := AI e2 ρ2
       exact hW _ ρ2 (K2.trans f3) ⟨ab.st.mono (K2.trans f3), gf.hp.put (ds := ys) (K2.get hn) e2 (rs.append (.cons r2 .nil))⟩
      ·rw [if_neg hl] at hW; exact hW.elim
theorem nD (hO : rX X.K X.mg ow gO) {Q : VK} {J : It} {H0 : Hp} {σ : L2.St} {ρ0 : List Addr} {G0 : DH} {τ : DS} (ds : List D)
  (go : ∀ i H ρ, i < ds.length → fY X.K H0 H ρ0 ρ → J.go i H) (stop : ∀ i H ρ, ds.length ≤ i → fY X.K H0 H ρ0 ρ → J.stop i H)
  (zB : ∀ i d H ρ x H', ds[i]? = some d → fY X.K H0 H ρ0 ρ → J.zB i H x H' → K1 X.K X.mg H H' ρ ∧ Rep X.K X.mg ρ H' d x)
  (ab : Ab X.K X.mg σ H0 τ ρ0 G0) (ok : mO X.K X.mg EE H0 σ τ ρ0 (e9 gO ks tt te G0.length ds τ (G0 ++ [.lst []])) Q) :
  ∀ D, H0 D = none → ∃ W : Nat → Nat → Hp → Prop, (∃ m, W 0 m (upd H0 D (.lst []))) ∧ ∀ i m H, W i m H →
   (J.stop i H ∧ Q (.ref D) H) ∨ (J.go i H ∧ ∀ x H', J.zB i H x H' → ∃ vs, ow x H' vs ∧ liftT X.K X.mg (yT EE σ) tt (vs.map some ++ mask ks σ) H' fun b H2 => if b = true then eV X.K X.mg (yT EE σ) te (vs.map some ++ mask ks σ) H2 fun v H3 => ∃ ys, H3 D = some (.lst ys) ∧ ys.length < sizeLine ∧ ∃ m', m' < m ∧ W (i + 1) m' (upd H3 D (.lst (ys ++ [v]))) else ∃ m', m' < m ∧ W (i + 1) m' H2) := by
 intro D hD
 have f0 : fY X.K H0 (upd H0 D (.lst [])) ρ0 (ρ0 ++ [D]) := (lT hD ρ0).trans (pG ρ0 D)
 have K3 : Ab X.K X.mg σ (upd H0 D (.lst [])) τ (ρ0 ++ [D]) (G0 ++ [.lst []]) := ab.fut f0 (ab.hp.more hD .nil)
 have hn0 : (ρ0 ++ [D])[G0.length]? = some D := by rw [← ab.hp.hl, cT]
 refine ⟨fun i m H => i ≤ ds.length ∧ m = ds.length - i ∧ ∃ ρ G, Ab X.K X.mg σ H τ ρ G ∧ fY X.K H0 H ρ0 ρ ∧ ρ[G0.length]? = some D ∧ mO X.K X.mg EE H σ τ ρ (e9 gO ks tt te G0.length (ds.drop i) τ G) Q,
  ⟨ds.length, Nat.zero_le _, rfl, ρ0 ++ [D], _, K3, f0, hn0, by simpa using ok.fut f0⟩, ?_⟩
 rintro i m H ⟨hi, rfl, ρ, G, ab, f, hn, ok⟩
 by_cases hlt : i < ds.length
 ·refine .inr ⟨go i H ρ hlt f, fun x H' y => ?_⟩
  obtain ⟨⟨fN, hN⟩, rx⟩ := zB i ds[i] H ρ x H' (List.getElem?_eq_getElem hlt) f y
  replace ok := mO.fut fN ok
  replace ab : Ab X.K X.mg σ H' τ ρ G := ab.fut fN (hN _ ab.hp)
  replace f := f.trans fN
  rw [List.drop_eq_getElem_cons hlt] at ok
  unfold e9 at ok
  refine uY hO (W := fun H3 => ∃ m', m' < ds.length - i ∧ i + 1 ≤ ds.length ∧ m' = ds.length - (i + 1) ∧ ∃ ρ G, Ab X.K X.mg σ H3 τ ρ G ∧ fY X.K H0 H3 ρ0 ρ ∧ ρ[G0.length]? = some D ∧ mO X.K X.mg EE H3 σ τ ρ (e9 gO ks tt te G0.length (ds.drop (i + 1)) τ G) Q)
    ab rx hn ?_
  cases e : fH gO ks tt te G0.length ds[i] τ G with
  | stuck => rw [e] at ok; exact ok
  | fR c G' => rw [e] at ok; exact ok
  | ok _ G' =>
   rw [e] at ok
   exact fun H3 ρ3 f3 Ge => ⟨ds.length - (i + 1), by omega, hlt, rfl, ρ3, G', Ge, f.trans f3, f3.get hn, ok.fut f3⟩
 ·have e : i = ds.length := by omega
  subst e
  refine .inl ⟨stop _ H ρ (Nat.le_refl _) f, ?_⟩
  rw [List.drop_eq_nil_of_le (Nat.le_refl _)] at ok
  exact ok _ H ρ .refl ab (by unfold Rep; exact ⟨D, rfl, hn⟩)
theorem Im (hO : rX X.K X.mg ow gO) {Q : VK} {H0 : Hp} {σ : L2.St} {ρ0 : List Addr} {G0 : DH} {τ : DS} {k fuel : Nat} {p : Addr} (hk : ρ0[k]? = some p)
  (ab : Ab X.K X.mg σ H0 τ ρ0 G0) (ok : mO X.K X.mg EE H0 σ τ ρ0 (vJ gO ks tt te G0.length k fuel 0 τ (G0 ++ [.lst []])) Q) :
  ∀ D, H0 D = none → ∃ W : Nat → Nat → Hp → Prop, (∃ m, W 0 m (upd H0 D (.lst []))) ∧ ∀ i m H, W i m H →
   ((JW X.K p).stop i H ∧ Q (.ref D) H) ∨ ((JW X.K p).go i H ∧ ∀ x H', (JW X.K p).zB i H x H' → ∃ vs, ow x H' vs ∧ liftT X.K X.mg (yT EE σ) tt (vs.map some ++ mask ks σ) H' fun b H2 => if b = true then eV X.K X.mg (yT EE σ) te (vs.map some ++ mask ks σ) H2 fun v H3 => ∃ ys, H3 D = some (.lst ys) ∧ ys.length < sizeLine ∧ ∃ m', m' < m ∧ W (i + 1) m' (upd H3 D (.lst (ys ++ [v]))) else ∃ m', m' < m ∧ W (i + 1) m' H2) := by
 intro D hD
 have f0 : fY X.K H0 (upd H0 D (.lst [])) ρ0 (ρ0 ++ [D]) := (lT hD ρ0).trans (pG ρ0 D)
 have K3 : Ab X.K X.mg σ (upd H0 D (.lst [])) τ (ρ0 ++ [D]) (G0 ++ [.lst []]) := ab.fut f0 (ab.hp.more hD .nil)
 have hn0 : (ρ0 ++ [D])[G0.length]? = some D := by rw [← ab.hp.hl, cT]
 refine ⟨fun i m H => ∃ ρ G, Ab X.K X.mg σ H τ ρ G ∧ fY X.K H0 H ρ0 ρ ∧ ρ[G0.length]? = some D ∧ mO X.K X.mg EE H σ τ ρ (vJ gO ks tt te G0.length k m i τ G) Q,
  ⟨fuel, ρ0 ++ [D], _, K3, f0, hn0, ok.fut f0⟩, ?_⟩
 rintro i m H ⟨ρ, G, ab, f, hn, ok⟩
 cases m with
 | zero => exact ok.elim
 | succ m =>
  unfold vJ at ok
  cases q : G[k]? with
  | none => rw [q] at ok; exact ok.elim
  | some o =>
   cases o with
   | dead => first | (rw [q] at ok; exact ok.elim) | (rw [q] at bD; exact bD.elim) | (rw [q3] at hW; exact hW.elim) | (rw [q] at e; cases e; done) | (rw [g] at ok; exact ok.elim) | (rw [g] at q; cases q; done) | (rw [g] at h; cases h; done) | exact ok.elim
   | dct kv => first | (rw [q] at ok; exact ok.elim) | (rw [q] at bD; exact bD.elim) | (rw [q3] at hW; exact hW.elim) | (rw [q] at e; cases e; done) | (rw [g] at ok; exact ok.elim) | (rw [g] at q; cases q; done) | (rw [g] at h; cases h; done) | exact ok.elim
   | lst ds =>
    rw [q] at ok
    dsimp only at ok
    obtain ⟨p', xs, e1, e2, rs⟩ := ab.hp.lst q
    rw [f.get hk] at e1; cases e1
    cases qd : ds[i]? with
    | none =>
     rw [qd] at ok
     have hl : xs.length ≤ i := by rw [← rs.length]; exact List.getElem?_eq_none_iff.mp qd
     exact .inl ⟨⟨xs, .of e2, hl⟩, ok _ H ρ .refl ab (by unfold Rep; exact ⟨D, rfl, hn⟩)⟩
    | some d =>
     rw [qd] at ok
     dsimp only at ok
     obtain ⟨x0, ex, rx⟩ := rs.get qd
     refine .inr ⟨⟨xs, x0, .of e2, ex⟩, fun x H' y => ?_⟩
     obtain ⟨rfl, y⟩ := y
     have e3 := y xs (.of e2)
     rw [ex] at e3; cases e3
     refine uY hO (W := fun H3 => ∃ m', m' < m + 1 ∧ ∃ ρ G, Ab X.K X.mg σ H3 τ ρ G ∧ fY X.K H0 H3 ρ0 ρ ∧ ρ[G0.length]? = some D ∧ mO X.K X.mg EE H3 σ τ ρ (vJ gO ks tt te G0.length k m' (i + 1) τ G) Q)
       ab rx hn ?_
     cases e : fH gO ks tt te G0.length d τ G with
     | stuck => rw [e] at ok; exact ok
     | fR c G' => rw [e] at ok; exact ok
     | ok _ G' =>
      rw [e] at ok
      exact fun H3 ρ3 f3 Ge => ⟨m, Nat.lt_succ_self _, ρ3, G', Ge, f.trans f3, f3.get hn, ok.fut f3⟩
variable {scope : Scope} {elt iter a b : Expr} {ifs : List Expr} {px pos : Pos} {m : DS → M D}
theorem Gu (hO : rX X.K X.mg ow gO) {σ : L2.St} {H : Hp} {Q : VK} (h : eV X.K X.mg EE (oG gO ks m tt te) σ H Q) :
  B8 (fun σ H R => eV X.K X.mg EE m σ H fun x H1 => (∃ p, x = .ref p ∧ (∃ xs, pD X.K H1 p xs) ∧ R (JW X.K p) H1) ∨ (∃ p, x = .ref p ∧ (∃ xs, qS X.K H1 p xs) ∧ R (Sk X.K p) H1) ∨ ∃ z, x = .str z ∧ R (KP z) H1) ks ow (liftT X.K X.mg (yT EE σ) tt) (eV X.K X.mg (yT EE σ) te) σ H Q := by
 obtain ⟨τ, ρ, G, ab, ok⟩ := mw (k := fun τ d G => match d with
  | .obj k => match G[k]? with
   | some (.lst xs) => vJ gO ks tt te G.length k (xs.length + 1) 0 τ (G ++ [.lst []])
   | _ => .stuck
  | .tup xs => e9 gO ks tt te G.length xs τ (G ++ [.lst []])
  | .con xs => e9 gO ks tt te G.length xs τ (G ++ [.lst []])
  | .str z => e9 gO ks tt te G.length (z.cps.toList.map fun c => .str ⟨#[c]⟩) τ (G ++ [.lst []])
  | _ => .stuck) h
 refine ⟨τ, ρ, G, ab, ?_⟩
 cases e : m τ G with
 | stuck => rw [e] at ok; exact ok
 | fR c G' => rw [e] at ok; exact ok
 | ok d G' =>
  rw [e] at ok
  intro v H1 ρ1 f1 uS r1
  obtain ⟨τ2, ρ2, G2, d2, gf, r2, bD⟩ := ok v H1 ρ1 f1 uS r1
  cases d2 <;> try exact bD.elim
  case obj n =>
   dsimp only at bD
   unfold Rep at r2
   obtain ⟨p, rfl, e1⟩ := r2
   cases q : G2[n]? with
   | none => rw [q] at bD; exact bD.elim
   | some o =>
    cases o with
    | dead => first | (rw [q] at ok; exact ok.elim) | (rw [q] at bD; exact bD.elim) | (rw [q3] at hW; exact hW.elim) | (rw [q] at e; cases e; done) | (rw [g] at ok; exact ok.elim) | (rw [g] at q; cases q; done) | (rw [g] at h; cases h; done) | exact ok.elim
    | dct kv => first | (rw [q] at ok; exact ok.elim) | (rw [q] at bD; exact bD.elim) | (rw [q3] at hW; exact hW.elim) | (rw [q] at e; cases e; done) | (rw [g] at ok; exact ok.elim) | (rw [g] at q; cases q; done) | (rw [g] at h; cases h; done) | exact ok.elim
    | lst xs =>
     rw [q] at bD
     obtain ⟨p', vs, e2, h2, rs⟩ := gf.hp.lst q
     rw [e1] at e2; cases e2
     exact .inl ⟨p, rfl, ⟨vs, .of h2⟩, Im hO e1 gf bD⟩
  case tup xs =>
   unfold Rep at r2
   obtain ⟨p, vs, rfl, sq, rs⟩ := r2
   refine .inr (.inl ⟨p, rfl, ⟨vs, sq⟩, nD hO xs (fun i H' ρ' hi f => ?_) (fun i H' ρ' hi f => ?_) (fun i d' H' ρ' x PU hd f y => ?_) gf bD⟩)
   ·rw [rs.length] at hi
    exact ⟨vs, vs[i], f.tup _ _ sq, List.getElem?_eq_getElem hi⟩
   ·exact ⟨vs, f.tup _ _ sq, by rw [← rs.length]; exact hi⟩
   ·obtain ⟨rfl, y⟩ := y
    obtain ⟨w', ew, rw'⟩ := rs.get hd
    have := y vs (f.tup _ _ sq)
    rw [ew] at this; cases this
    exact ⟨.refl, rw'.mono f⟩
  case con xs =>
   unfold Rep at r2
   obtain ⟨p, vs, rfl, sq, rs⟩ := r2
   refine .inl ⟨p, rfl, ⟨vs, sq.seq⟩, nD hO xs (fun i H' ρ' hi f => ?_) (fun i H' ρ' hi f => ?_) (fun i d' H' ρ' x PU hd f y => ?_) gf bD⟩
   ·rw [rs.length] at hi
    exact ⟨vs, vs[i], (f.con _ _ sq).seq, List.getElem?_eq_getElem hi⟩
   ·exact ⟨vs, (f.con _ _ sq).seq, by rw [← rs.length]; exact hi⟩
   ·obtain ⟨rfl, y⟩ := y
    obtain ⟨w', ew, rw'⟩ := rs.get hd
    have := y vs (f.con _ _ sq).seq
    rw [ew] at this; cases this
    exact ⟨.refl, rw'.mono f⟩
  case str z =>
   unfold Rep at r2; subst r2
   refine .inr (.inr ⟨z, rfl, nD hO (z.cps.toList.map fun c => .str ⟨#[c]⟩) (fun i H' ρ' hi f => ?_) (fun i H' ρ' hi f => ?_) (fun i d' H' ρ' x PU hd f y => ?_) gf bD⟩)
   ·simpa [KP] using hi
   ·simpa [KP] using hi
   ·obtain ⟨rfl, c, hc, rfl⟩ := y
    rw [List.getElem?_map] at hd
    have : z.cps.toList[i]? = some c := by simpa using hc
    rw [this] at hd
    cases hd
    exact ⟨.refl, by unfold Rep; rfl⟩
noncomputable def xN (X : Cx) (scope : Scope) (xs : List Str) (ifs : List Expr) (elt : Expr) (tt : DS → M Bool) (te : DS → M D) : Prop :=
 ∀ (cl : List (Str × Addr)) (C : Addr) (pins : List (Addr × Obj)) (s0 : Shared) (H0 : Hp) (fp : List Addr) (E : Value → Shared → Prop) (EE : gK), mS (uW X scope cl xs C pins s0 H0 fp E) EE → CT (uW X scope cl xs C pins s0 H0 fp E) ifs (liftT X.K X.mg EE tt) ∧ QE (uW X scope cl xs C pins s0 H0 fp E) EE elt te
noncomputable def kc : DS → M Bool := fun _ => M.ret true
theorem jD (h : ∀ (cl : List (Str × Addr)) (C : Addr) (pins : List (Addr × Obj)) (s0 : Shared) (H0 : Hp) (fp : List Addr) (E : Value → Shared → Prop) (EE : gK), mS (uW X scope cl xs C pins s0 H0 fp E) EE → QE (uW X scope cl xs C pins s0 H0 fp E) EE elt te) : xN X scope xs [] elt kc te :=
 fun cl C pins s0 H0 fp E EE hx => ⟨fun ko s σ H Q I ⟨τ, ρ, G, ab, ok⟩ => Ny ko s σ H Q I (ok H ρ .refl ab), h cl C pins s0 H0 fp E EE hx⟩
theorem Gv {c : Expr} (h : ∀ (cl : List (Str × Addr)) (C : Addr) (pins : List (Addr × Obj)) (s0 : Shared) (H0 : Hp) (fp : List Addr) (E : Value → Shared → Prop) (EE : gK), mS (uW X scope cl xs C pins s0 H0 fp E) EE → QT (uW X scope cl xs C pins s0 H0 fp E) EE c tt ∧ QE (uW X scope cl xs C pins s0 H0 fp E) EE elt te) : xN X scope xs [c] elt tt te :=
 fun cl C pins s0 H0 fp E EE hx => ⟨Nz (h cl C pins s0 H0 fp E EE hx).1, (h cl C pins s0 H0 fp E EE hx).2⟩
noncomputable def fy (X : Cx) : Prop := ∃ j7 j9 L, X.stack = j7 :: j9 ∧ X.env.frame = j7.frame ∧ j7.frame = some L
theorem K4 (hx : mS X EE) (hst : fy X) (S : dP X.env.scope X.N scope xs ks) (how : Own X scope xs ks tg ow) (hO : rX X.K X.mg ow gO) (hc : X.calm = true) (ha : QE X EE iter m) (hb : xN X scope xs ifs elt tt te) (hs : ∀ x, foldedSetIterable iter X.env x = pure x := by intro _; rfl) :
  QE X EE (.ListComp elt [⟨tg, iter, ifs, 0⟩] scope pos) (oG gO ks m tt te) := PE.mono (EY (tt := fun σ => liftT X.K X.mg (yT EE σ) tt) (te := fun σ => eV X.K X.mg (yT EE σ) te) hx hst S how hc (PI.any ha) (fun σ cl C pins s0 H0 fp E => hb cl C pins s0 H0 fp E _) hs) fun _ _ _ h => Gu hO h
theorem Io (hO : rX X.K X.mg ow gO) {Q : VK} {H0 : Hp} {σ : L2.St} {ρ0 : List Addr} {G0 : DH} {τ : DS} (lo : Int) (n : Nat) (ab : Ab X.K X.mg σ H0 τ ρ0 G0)
  (ok : mO X.K X.mg EE H0 σ τ ρ0 (e9 gO ks tt te G0.length ((List.range n).map fun (k : Nat) => .int (lo + (k : Int))) τ (G0 ++ [.lst []])) Q) :
  ∀ D, H0 D = none → ∃ W : Nat → Nat → Hp → Prop, (∃ m, W 0 m (upd H0 D (.lst []))) ∧ ∀ i m H, W i m H →
   ((AA lo n).stop i H ∧ Q (.ref D) H) ∨ ((AA lo n).go i H ∧ ∀ x H', (AA lo n).zB i H x H' → ∃ vs, ow x H' vs ∧ liftT X.K X.mg (yT EE σ) tt (vs.map some ++ mask ks σ) H' fun b H2 => if b = true then eV X.K X.mg (yT EE σ) te (vs.map some ++ mask ks σ) H2 fun v H3 => ∃ ys, H3 D = some (.lst ys) ∧ ys.length < sizeLine ∧ ∃ m', m' < m ∧ W (i + 1) m' (upd H3 D (.lst (ys ++ [v]))) else ∃ m', m' < m ∧ W (i + 1) m' H2) :=
 nD hO (J := AA lo n) _ (fun i H ρ hi f => by simpa [AA] using hi) (fun i H ρ hi f => by simpa [AA] using hi) (fun i d H ρ x H' hd f y => by
  obtain ⟨rfl, rfl⟩ := y
  rw [List.getElem?_map] at hd
  cases q : (List.range n)[i]? with
  | none => rw [q] at hd; cases hd
  | some k =>
   rw [q] at hd
   obtain ⟨hk, e⟩ := List.getElem?_eq_some_iff.mp q
   rw [List.getElem_range] at e
   subst e
   cases hd
   exact ⟨.refl, by unfold Rep; rfl⟩) ab ok
variable {ma : DS → M (List D)}
theorem Cb (hO : rX X.K X.mg ow gO) {σ : L2.St} {H : Hp} {Q : VK} (h : eV X.K X.mg EE (xM mR gO ks ma tt te) σ H Q) : B8 (LO (vG X.K X.mg EE ma)) ks ow (liftT X.K X.mg (yT EE σ) tt) (eV X.K X.mg (yT EE σ) te) σ H Q := by
 obtain ⟨τ, ρ, G, ab, ok⟩ := xC (k := fun τ ds G => match mR ds with | some xs => e9 gO ks tt te G.length xs τ (G ++ [.lst []]) | none => .stuck) h
 refine ⟨τ, ρ, G, ab, ?_⟩
 cases e : ma τ G with
 | stuck => rw [e] at ok; exact ok
 | fR c G' => rw [e] at ok; exact ok
 | ok ds G' =>
  rw [e] at ok
  intro vs H1 ρ1 f1 uS r1
  obtain ⟨τ2, ρ2, G2, d2, gf, r2, bD⟩ := ok vs H1 ρ1 f1 uS r1
  cases q : mR d2 with
  | none => rw [q] at bD; exact bD.elim
  | some xs =>
   rw [q] at bD
   unfold mR at q
   split at q
   ·rename_i j
    split at q
    ·rename_i hj
     cases q
     obtain ⟨v, rfl, h1⟩ := kU r2
     unfold Rep at h1; subst h1
     exact ⟨j, rfl, hj.1, hj.2, Io hO 0 j.toNat gf bD⟩
    ·cases q
   ·cases q
theorem Ip {me : DS → M D} {t : TE} {i : Nat} (hl : ∀ σ H Q, eV X.K X.mg EE me σ H Q → t σ H Q) {Dd : Ends} {σ : L2.St} {H : Hp} (h : kT X.K X.mg EE (bT i me) Dd σ H) : MJ t (BN i) Dd σ H := by
 obtain ⟨τ, ρ, G, ab, ok⟩ := h
 refine hl σ H (fun v H1 => BN i v σ H1 Dd.nx) ⟨τ, ρ, G, ab, ?_⟩
 dsimp only [bT, fu] at ok
 cases e : me τ G with
 | stuck => rw [e] at ok; exact ok
 | fR c G' => rw [e] at ok; exact fun H' ρ' f eu => ok σ H' ρ' f eu
 | ok d G' => rw [e] at ok; exact fun v H' ρ' f eu r => ok _ H' ρ' f (eu.set r)
theorem Gw {y : Str} {i : Nat} {py spos p pc : Pos} (hx : mS X EE) (hst : fy X) (S : dP X.env.scope X.N scope xs ks) (how : Own X scope xs ks tg ow) (hO : rX X.K X.mg ow gO) (hc : X.calm = true) (hN : X.N.Nodup) (hm : X.mg "range" = none) (ha : QA X EE [a] ma) (hb : xN X scope xs ifs elt tt te) (hy : X.N[i]? = some y := by rfl) (hl : X.env.scope.names.lookup y = some .local := by rfl)
  (Hq : Gl X "range" := by rfl) (Uk : starEach [a] X.env = [(false, eval a X.env)] := by rfl)
  (hsw : swapsWith (.ListComp elt [⟨tg, .Call (.Name "range" p) [a] [] pc, ifs, 0⟩] scope pos) (some (.Name y py)) spos.line X.env = pure true := by rfl) (hs : ∀ x, foldedSetIterable (.Call (.Name "range" p) [a] [] pc) X.env x = pure x := by intro _; rfl) :
  QS X EE (.Assign [.Name y py] (.ListComp elt [⟨tg, .Call (.Name "range" p) [a] [] pc, ifs, 0⟩] scope pos) spos) (bT i (xM mR gO ks ma tt te)) :=
 PS.mono (K0 (tt := fun σ => liftT X.K X.mg (yT EE σ) tt) (te := fun σ => eV X.K X.mg (yT EE σ) te) hx hst S how hc hN (zC Hq hm ha Uk) hy hl hsw (fun σ cl C pins s0 H0 fp E => hb cl C pins s0 H0 fp E _) hs) fun _ _ _ h => Ip (fun _ _ _ h => Cb hO h) h
end
end L3
end
section
set_option Elab.async false
set_option linter.all false
set_option maxRecDepth 100000
namespace L3
open PySem PySem.Spec L2
theorem cO {k : Nat} {A : Around} (r : iK k A) : A.units + 600 < cLine := by have := r.un; omega
theorem Qd {X : Cx} {EE : gK} {x : Str} {f : Addr} {pos : Pos} (hm : X.mg x = some (.ref f)) (hg : Gl X x := by rfl) (hd : (x == ("__debug__" : Str)) = false := by decide) : QE X EE (.Name x pos) (eC (.fn x)) :=
 HP (EM hg hm (v := .ref f) rfl hd) fun _ _ => by unfold Rep; exact ⟨f, rfl, hm⟩
noncomputable def L0 (K : PySem.W.Frag) : Sp := fun vs H Q _ => ∃ (a : Addr) (ns : List Int), vs = [.ref a] ∧ Nf K H a (ns.map V.int) ∧ ns.length ≤ 63 ∧ ∀ H', Q (.bl true) H'
theorem NH {K : PySem.W.Frag} {H : Hp} {a : Addr} {xs : List V} (hO : Kw H) (h : pD K H a xs) : Nf K H a xs := by
 rcases h with (h | ⟨o, h⟩) | h
 ·rcases hO a with z | ⟨o, ys, z⟩
  ·rw [h] at z; cases z
  ·rw [h] at z; cases z
 ·exact .inl ⟨o, h⟩
 ·exact .inr h
theorem Iq {K : PySem.W.Frag} {mg : Str → Option Value} {m : List D → M D} (hm : ∀ ns : List Int, ns.length ≤ 63 → ∃ G, m [.con (ns.map .int)] [] = .ok (.bl true) G) (vs : List V) (H : Hp) (Q : VK) (E : XK) (h : L0 K vs H Q E) : aQ K mg 1 m vs H Q E := by
 obtain ⟨a, ns, rfl, sq, hl, q⟩ := h
 obtain ⟨G, e⟩ := hm ns hl
 refine ⟨[.con (ns.map .int)], [], [], rfl, ⟨rfl, List.nodup_nil, fun n o e => by simp at e⟩, .cons (by unfold Rep; exact ⟨a, _, rfl, sq, .ints ns⟩) .nil, ?_⟩
 rw [e]
 intro v H' ρ' _ _ r
 unfold Rep at r
 subst r
 exact q H'
end L3
end
section
set_option Elab.async false
set_option linter.all false
set_option maxRecDepth 100000
namespace L3
open PySem PySem.Spec L2
noncomputable def fB : Expr → Bool
 | .Starred .. => false
 | _ => true
noncomputable def plainT : Expr → Bool
 | .UnaryOp .Not _ _ => false
 | .BoolOp .. => false
 | .IfExp .. => false
 | .Compare .. => false
 | _ => true
noncomputable def pJ : Expr → Bool
 | .Set .. => false
 | _ => true
noncomputable def DW : Expr → Bool
 | .ListComp .. => false
 | .SetComp .. => false
 | .DictComp .. => false
 | _ => true
noncomputable def nE : Expr → Bool
 | .Call (.Name _ _) [] [] _ => false
 | _ => true
noncomputable def AS : Expr → Bool
 | .Slice .. => false
 | _ => true
noncomputable def aH : List Expr → Bool
 | [] => true
 | e :: es => fB e && aH es
theorem cj {e : Expr} (h : fB e = true) (es : List Expr) (env : Env) : starEach (e :: es) env = (false, eval e env) :: starEach es env := by
 cases e <;> first | rfl | cases h
theorem Gx {e : Expr} (h : plainT e = true) (env : Env) (whole : Sem Value) : isTrue e env whole = (do let v ← whole; standAt e.pos; holding [v] (truthy v)) := by
 cases e <;> first | rfl | cases h | (rename_i op _ _; cases op <;> first | rfl | cases h)
theorem qB {e : Expr} (h : pJ e = true) (env : Env) (x : Value) : foldedSetIterable e env x = pure x := by
 cases e <;> first | rfl | cases h
theorem AU {e : Expr} (h : DW e = true) (t : Option Expr) (l : Nat) (env : Env) : swapsWith e t l env = pure false := by
 cases e <;> first | rfl | cases h
theorem jd {e : Expr} (h : nE e = true) (n : Str) (env : Env) : attributeBase e n env (eval e env) = eval e env := by
 unfold attributeBase
 split
 ·cases h
 ·rfl
theorem L1 {e : Expr} (h : AS e = true) : wV e := fun o i => by
 cases e <;> first | rfl | cases h
theorem EZ {e : Expr} (h : pJ e = true) (op : CmpOp) : behindInMarks op e = false := by
 cases e <;> first | rfl | cases h
theorem cU {env : Env} {pos : Pos} : ∀ {es : List Expr}, aH es = true → (backTo pos (starEach es env)).any (·.1) = false
 | [], _ => rfl
 | e :: es, h => by
  have h' : fB e = true ∧ aH es = true := by simpa [aH] using h
  rw [cj h'.1]
  have ih := cU (env := env) (pos := pos) h'.2
  show (false || (backTo pos (starEach es env)).any (·.1)) = false
  rw [ih]; rfl
theorem zT {env : Env} {pos : Pos} : ∀ {es : List Expr}, aH es = true → (backTo pos (starEach es env)).all (fun x => !x.1) = true
 | [], _ => rfl
 | e :: es, h => by
  have h' : fB e = true ∧ aH es = true := by simpa [aH] using h
  rw [cj h'.1]
  have ih := zT (env := env) (pos := pos) h'.2
  show (!false && (backTo pos (starEach es env)).all (fun x => !x.1)) = true
  rw [ih]; rfl
theorem rY {env : Env} {pos : Pos} {es : List Expr} (h : aH es = true) (hl : es.length < 30) : ((backTo pos (starEach es env)).all (fun x => !x.1) && (backToKw pos (keywordEach [] env)).all (fun x => x.1.isSome)
   && decide (es.length + ([] : List Keyword).length + (if ([] : List Keyword).isEmpty then 0 else 1) < 30)) = true := by
 rw [zT h]
 simp only [Bool.true_and, Bool.and_eq_true, decide_eq_true_eq]
 exact ⟨rfl, by simpa using hl⟩
section
variable {X : Cx} {EE : gK} {a b c e o : Expr} {es : List Expr} {ma mb mc me mo : DS → M D} {pos p apos cpos : Pos} {m : DS → M (List D)} {ms mt : MS} {x : Str} {ks : List Bool} {tt : DS → M Bool} {te : DS → M D}
theorem AV {m : DS → M D} {r : DS → M (List D)} (ha : QE X EE e m) (hr : QA X EE es r) (h : fB e = true := by rfl) : QA X EE (e :: es) (af m r) := KI ha hr (cj h _ _)
theorem ah (i : Nat) (hv : Mw X.env.scope x) (hd : (x == ("__debug__" : Str)) = false ∧ (x == ("__classdict__" : Str)) = false) (hN : X.N[i]? = some x := by rfl) : QE X EE (.Name x pos) (ai i) := Nh i hN hv hd.1 hd.2
theorem wZ {d : D} (h : zN X.K X.mg x d) (hg : Gl X x) (hd : (x == ("__debug__" : Str)) = false ∧ (x == ("__classdict__" : Str)) = false) : QE X EE (.Name x pos) (eC d) := KH h hg hd.1
theorem Ir {f : Addr} (hm : X.mg x = some (.ref f)) (hg : Gl X x) (hd : (x == ("__debug__" : Str)) = false ∧ (x == ("__classdict__" : Str)) = false) : QE X EE (.Name x pos) (eC (.fn x)) := Qd hm hg hd.1
theorem au (ha : QE X EE a ma) (hb : QE X EE b mb) (h : AS b = true := by rfl) : QE X EE (.Subscript a b pos) (aC cX ma mb) := HW ha hb (L1 h)
theorem Qe (hu : X.A.units + 600 < cLine) (ha : QE X EE a ma) (hb : QE X EE b mb) (h : pJ b = true := by rfl) : QE X EE (.Compare a [.In] [b] pos) (aC (uK false) ma mb) := PN hu ha hb (EZ h _)
theorem aZ {op : CmpOp} {f : D → D → M D} (ho : pF X (compareOp op) (rD X EE f)) (ha : QE X EE a ma) (hb : QE X EE b mb) (h : pJ b = true := by rfl) : QT X EE (.Compare a [op] [b] pos) (gn (aC f ma mb)) := Nn ho ha hb (EZ h _)
theorem xO (ha : QE X EE a ma) (h : plainT a = true := by rfl) : QT X EE a (nA uQ ma) := Ni ha (Gx h _)
theorem xP {id : String} {f : List D → M D} (hc : iB X (.builtin id) (KS X EE f)) (hm : X.mg x = none) (hg : Gl X x) (hv : bootBuiltins x = some (.builtin id)) (ha : QA X EE (e :: es) m) (hn : x ≠ "__name__" := by decide) (hdb : (x == ("__debug__" : Str)) = false := by decide) (h : aH (e :: es) = true := by rfl) :
  QE X EE (.Call (.Name x p) (e :: es) [] pos) (aA f m) := by
 have h' : fB e = true ∧ aH es = true := by simpa [aH] using h
 exact HU hc xF hm ha hg hv hn hdb (cj h'.1 _ _) (cU h'.2)
theorem uZ {id : String} {f : List D → M D} (hc : iB X (.type id) (KS X EE f)) (hm : X.mg x = none) (hg : Gl X x) (hv : bootBuiltins x = some (.type id)) (ha : QA X EE (e :: es) m) (hn : x ≠ "__name__" := by decide) (hdb : (x == ("__debug__" : Str)) = false := by decide) (h : aH (e :: es) = true := by rfl) :
  QE X EE (.Call (.Name x p) (e :: es) [] pos) (aA f m) := by
 have h' : fB e = true ∧ aH es = true := by simpa [aH] using h
 exact Gg hc xF hm ha hg hv hn hdb (cj h'.1 _ _) (cU h'.2)
theorem gq (hm : X.mg "len" = none) (hg : Gl X "len") (ha : QA X EE [e] m) (h : aH [e] = true := by rfl) : QE X EE (.Call (.Name "len" p) [e] [] pos) (aA g8 m) := xP Gi hm hg PySem.boot_len ha (by decide) (by decide) h
theorem NI (hc : X.calm = true) (hm : X.mg "all" = none) (hg : Gl X "all") (ha : QA X EE [e] m) (h : aH [e] = true := by rfl) : QE X EE (.Call (.Name "all" p) [e] [] pos) (aA (Ie false) m) := xP (Gj hc) hm hg PyProof.Rows.boot_all ha (by decide) (by decide) h
theorem K5 (hc : X.calm = true) (hm : X.mg "max" = none) (hg : Gl X "max") (ha : QA X EE [e, a] m) (h : aH [e, a] = true := by rfl) : QE X EE (.Call (.Name "max" p) [e, a] [] pos) (aA (rT fun i j => if j > i then j else i) m) := xP (Gk hc) hm hg PyProof.Rows.boot_max ha (by decide) (by decide) h
theorem AW (c : Ty) {pt : Pos} (hc : c ≠ .kr) (hm : X.mg "isinstance" = none) (hmt : X.mg x = none) (hg : Gl X "isinstance") (hgt : Gl X x) (ha : QE X EE a ma) (hb : bootBuiltins x = some (.type c.nm)) (hnt : x ≠ "__name__") (hdt : (x == ("__debug__" : Str)) = false) (h : fB a = true := by rfl) :
  QE X EE (.Call (.Name "isinstance" p) [a, .Name x pt] [] pos) (DL c ma) := Nr c hc hm hmt ha hb hg hgt hnt hdt (cj h _ _) (cj rfl _ _) (cU (es := [.Name x pt]) rfl)
theorem bg {CX : yR} {k n : Nat} {f : Addr} {fd : FuncData} {ps : List Str} {mf : List D → M D} (F : aW X.prog X.w X.K X.mg X.base CX k f fd ps (aQ X.K X.mg n mf)) (hr : iK k X.A) (hm : X.mg x = some (.ref f)) (hk : PySem.W.keepIn X.K (.ref f) = true) (hb : Binds X.K fd ps []) (hx : OM CX X EE) (hg : Gl X x)
  (hd : (x == ("__debug__" : Str)) = false ∧ (x == ("__classdict__" : Str)) = false) (ha : QA X EE (e :: es) m) (h : aH (e :: es) = true := by rfl) : QE X EE (.Call (.Name x p) (e :: es) [] pos) (aV n mf m) := by
 have h' : fB e = true ∧ aH es = true := by simpa [aH] using h
 exact KR F hr hm hk hb hx ha hg hd.1 (cj h'.1 _ _) (cU h'.2)
theorem iW (ho : QE X EE o mo) (ha : QA X EE [e] m) (hb : nE o = true := by rfl) (h : aH [e] = true := by rfl) (hline : (apos.endLine == cpos.line) = true := by rfl) : QE X EE (.Call (.Attribute o "append" apos) [e] [] cpos) (ck "list" fZ mo m) := by
 have h' : fB e = true ∧ aH [] = true := by simpa [aH] using h
 exact Gm ho ha (jd hb _ _) (rY h (by simp)) hline (cj h'.1 _ _) (cU (es := []) rfl)
theorem DX (ho : QE X EE o mo) (hb : nE o = true := by rfl) (hline : (apos.endLine == cpos.line) = true := by rfl) : QE X EE (.Call (.Attribute o "pop" apos) [] [] cpos) (ck "list" rV mo aq) := Nu ho (jd hb _ _) hline
theorem kB (he : QE X EE a ma) (h : DW a = true := by rfl) : QS X EE (.Expr a pos) (mQ ma) := KN he (AU h _ _ _)
theorem bU {i : Nat} {pos' : Pos} (hN : X.N.Nodup) (hx : Loc X.env.scope x) (he : QE X EE a ma) (hf : X.fn x = true ∨ X.env.scope.names.lookup x = some .local) (hi : X.N[i]? = some x := by rfl) (h : DW a = true := by rfl) : QS X EE (.Assign [.Name x pos'] a pos) (bT i ma) := Np hN he hi hx (AU h _ _ _) hf
theorem nF {i : Nat} (hN : X.N.Nodup) (hx : Loc X.env.scope x) (hf : X.fn x = true ∨ X.env.scope.names.lookup x = some .local) (hi : X.N[i]? = some x := by rfl) : QG X (.Name x pos) (gN i) := KO hN hi hx hf
theorem Iu {tg : Expr} {g : tG} {body : List Stmt} (hp : PassesOwn (model X.prog X.w) X.A X.env X.xe) (hc : X.calm = true) (ha : QE X EE a ma) (hg : QG X tg g) (hb : ER X EE body ms) (h : pJ a = true := by rfl) : QS X EE (.For tg a body [] pos) (uV g ma ms) := Nq hp hc ha hg hb (qB h _)
theorem pK {tg : Expr} {g : tG} {body : List Stmt} {pc : Pos} (hp : PassesOwn (model X.prog X.w) X.A X.env X.xe) (hc : X.calm = true) (hm : X.mg "range" = none) (Hq : Gl X "range") (ha : QA X EE [a] m) (hg : QG X tg g) (hb : ER X EE body ms) (h : fB a = true := by rfl) :
  QS X EE (.For tg (.Call (.Name "range" p) [a] [] pc) body [] pos) (jN mR g m ms) := Ic hp hc hm ha hg hb Hq (cj h _ _) (qB rfl _)
variable {scope : Scope} {elt iter tg : Expr} {xs : List Str} {ow : V → Hp → List V → Prop} {gO : D → Option (List D)} {ifs : List Expr} {px : Pos}
theorem qC (hx : mS X EE) (hst : fy X) (S : dP X.env.scope X.N scope xs ks) (how : Own X scope xs ks tg ow) (hO : rX X.K X.mg ow gO) (hc : X.calm = true) (ha : QE X EE iter ma) (hb : xN X scope xs ifs elt tt te) (h : pJ iter = true := by rfl) : QE X EE (.ListComp elt [⟨tg, iter, ifs, 0⟩] scope pos) (oG gO ks ma tt te) := K4 hx hst S how hO hc ha hb (qB h _)
theorem Gy {y : Str} {i : Nat} {py spos pc : Pos} (hx : mS X EE) (hst : fy X) (S : dP X.env.scope X.N scope xs ks) (how : Own X scope xs ks tg ow) (hO : rX X.K X.mg ow gO) (hc : X.calm = true) (hN : X.N.Nodup) (hl : X.env.scope.names.lookup y = some .local) (hm : X.mg "range" = none) (Hq : Gl X "range") (ha : QA X EE [a] m) (hb : xN X scope xs ifs elt tt te)
  (hsw : swapsWith (.ListComp elt [⟨tg, .Call (.Name "range" p) [a] [] pc, ifs, 0⟩] scope pos) (some (.Name y py)) spos.line X.env = pure true) (hy : X.N[i]? = some y := by rfl) (h : fB a = true := by rfl) :
  QS X EE (.Assign [.Name y py] (.ListComp elt [⟨tg, .Call (.Name "range" p) [a] [] pc, ifs, 0⟩] scope pos) spos) (bT i (xM mR gO ks m tt te)) := Gw hx hst S how hO hc hN hm ha hb hy hl Hq (cj h _ _) hsw (qB rfl _)
theorem Gz {gens : List Comprehension} {y : Str} {py : Pos} {l : Nat} {env : Env} (hb : (env.blockKind == .function) = true) (hl : env.scope.names.lookup y = some .local) (hp : (py.line == pos.line) = true) (hq : (scope.names.any fun x => x.1 == y && (x.2 == .local || x.2 == .cell)) = false) : swapsWith (.ListComp elt gens scope pos) (some (.Name y py)) l env = pure true := by
 unfold swapsWith
 dsimp only
 show (pure (env.blockKind == .function && env.kindOf y == some .local && py.line == pos.line && !(scope.names.any fun x => x.1 == y && (x.2 == .local || x.2 == .cell))) : Sem Bool) = pure true
 have e : (env.kindOf y == some NameKind.local) = true := by rw [show env.kindOf y = some NameKind.local from hl]; rfl
 rw [hb, e, hp, hq]; rfl
theorem mz {cl : List (Str × Addr)} {C : Addr} {pins : List (Addr × Obj)} {s0 : Shared} {H0 : Hp} {fp : List Addr} {E : Value → Shared → Prop} (S : dP X.env.scope X.N scope xs ks) (h : x ∈ xs) : Mw (uW X scope cl xs C pins s0 H0 fp E).env.scope x := .inl (xJ (cl := cl) (C := C) S h)
theorem E0 {cl : List (Str × Addr)} {C : Addr} {pins : List (Addr × Obj)} {s0 : Shared} {H0 : Hp} {fp : List Addr} {E : Value → Shared → Prop} {y : Str} (S : dP X.env.scope X.N scope xs ks) (h : scope.names.lookup y = some .free) : Mw (uW X scope cl xs C pins s0 H0 fp E).env.scope y := .inr (uX (cl := cl) (C := C) S h)
theorem tK {cl : List (Str × Addr)} {C : Addr} {pins : List (Addr × Obj)} {s0 : Shared} {H0 : Hp} {fp : List Addr} {E : Value → Shared → Prop} {y : Str} (h : scope.names.lookup y = some .globalImplicit) : Gl (uW X scope cl xs C pins s0 H0 fp E) y := by
 show (compEnvC scope cl C X.env).kindOf y = some .globalImplicit
 have e : (compEnvC scope cl C X.env).kindOf y = (scope.names.lookup y).map (yZ X.env y) := gT scope.names
 rw [e, h]; rfl
end
theorem jU {X : Cx} {EE : gK} {x : Str} {C : Addr} {np cpos pos : Pos} {e : Expr} {es : List Expr} {m : DS → M (List D)} (hc : X.calm = true) (hx : mS X EE) (hm : X.mg x = some (.ref C)) (hq : PySem.W.excIn X.K C DT "ValueError.__new__" = true) (hg : Gl X x) (hd : (x == ("__debug__" : Str)) = false ∧ (x == ("__classdict__" : Str)) = false)
  (ha : QA X EE (e :: es) m) (h : aH (e :: es) = true := by rfl) : QS X EE (.Raise (some (.Call (.Name x np) (e :: es) [] cpos)) none pos) (kW x m) := by
 have h' : fB e = true ∧ aH es = true := by simpa [aH] using h
 exact Ii hc hx hm hq hg hd.1 ha (cj h'.1 _ _) (cU h'.2)
end L3
end
section
set_option Elab.async false
set_option linter.all false
set_option maxRecDepth 100000
namespace L3
open PySem PySem.Spec L2 Builtin Builtin.Str
section
variable {X : Cx} {EE : gK}
theorem DY {prog : Program} {w : World} {A : Around} {E : Value → Shared → Prop} {s : Shared} {x y : Str} {t u : Tok} {Q : Value → Shared → Prop} (hy : (y.length == 0) = false) (hsz : x.length + 2 ≤ sizeLine)
  (hq : ∀ (l : List (Str × Tok)) (k : Nat), l.map (·.1) = Txt.split x y → Q (.ref s.heap.objs.size) { s with heap := s.heap.push { cls := .type "list", data := .seq (strValues l).toArray }, toks := k }) :
  wpAny (model prog w) A (call (.builtin "str.split") [.str x t, .str y u]) Q E s := by
 have Yt : (partsBetween x (occurrences x y 0 x.length (x.length + 1)) y.length).length ≤ sizeLine := by
  rw [length_partsBetween]
  have := StrLaws.occ_length_le x y 0 x.length (x.length + 1)
  omega
 unfold Txt.split at hq
 cases h1 : (decide (x.length < y.length) || decide (strKind x < strKind y)) with
 | true =>
  rw [h1, if_pos rfl] at hq
  exact call_meets F.slot_str_split (typeIs_str _ _ _) F.entry_str_split (F.args_str_split_2 _ _) (meets_str_split_cannot_occur x y t u h1) (hq [(x, t)] s.toks rfl)
 | false =>
  rw [h1, if_neg Bool.false_ne_true] at hq
  cases hf : (occurrences x y 0 x.length (x.length + 1)).isEmpty with
  | true =>
   rw [hf, if_pos rfl] at hq
   exact call_meets F.slot_str_split (typeIs_str _ _ _) F.entry_str_split (F.args_str_split_2 _ _) (meets_str_split_not_found x y t u h1 hy hf) (hq [(x, t)] s.toks rfl)
  | false =>
   rw [hf, if_neg Bool.false_ne_true] at hq
   refine call_meets F.slot_str_split (typeIs_str _ _ _) F.entry_str_split (F.args_str_split_2 _ _) (meets_str_split_sep x y t u h1 hy hf (by omega) Yt) ?_
   have := hq (numbered s.toks (partsBetween x (occurrences x y 0 x.length (x.length + 1)) y.length)) (s.toks + (partsBetween x (occurrences x y 0 x.length (x.length + 1)) y.length).length) (numbered_texts _ _)
   rw [← strsFrom_eq] at this
   exact this
noncomputable def xQ : D → List D → M D
 | .str x, [.str y] => fun G => if y.length ≠ 0 ∧ x.length + 2 ≤ sizeLine then bQ ((Txt.split x y).map .str) G else .stuck
 | _, _ => M.stop
theorem Vals.strs : ∀ (l : List (Str × Tok)), Vals ((l.map (·.1)).map V.str) (strValues l)
 | [] => .nil
 | p :: r => .cons ⟨_, rfl⟩ (Vals.strs r)
theorem aG.strs {K : PySem.W.Frag} {mg : Str → Option Value} {ρ : List Addr} {H : Hp} : ∀ (l : List Str), aG K mg ρ H (l.map D.str) (l.map V.str)
 | [] => .nil
 | p :: r => .cons (by unfold Rep; rfl) (aG.strs r)
theorem GA : DE X "str.split" (LW X EE xQ) := by
 intro pins s σ0 H x xs v us Q I rx Ih ⟨σ, τ, ρ, G, d, ds, ab, rd, BJ, ok⟩
 cases d <;> try exact ok.elim
 rename_i z
 match ds, ok with
 | [], ok => exact ok.elim
 | a :: _ :: _, ok => cases a <;> exact ok.elim
 | [y], ok =>
  cases y <;> try exact ok.elim
  rename_i y
  obtain ⟨yv, rfl, ry⟩ := kU BJ
  unfold Rep at rd ry
  subst rd ry
  obtain ⟨t, rfl⟩ := rx
  obtain ⟨u, rfl, ru⟩ := vals1 Ih
  obtain ⟨t', rfl⟩ := ru
  dsimp only [xQ] at ok
  by_cases hc : y.length ≠ 0 ∧ z.length + 2 ≤ sizeLine
  ·rw [if_pos hc] at ok
   obtain ⟨hl, hn⟩ := rP ab (aG.strs (Txt.split z y)) ok
   refine oF I.os.2 <| DY (by simpa using hc.1) hc.2 fun l k hlk => fun ht => ?_
   refine ⟨.ref s.heap.objs.size, upd H s.heap.objs.size (.lst ((Txt.split z y).map V.str)), I.laid (t' := k) (fun b o e => Heap.get?_push_of_some _ e) (Nat.le_refl _) ?_, rfl, hn _ (I.hok.fresh (Nat.le_refl _))⟩
   exact ⟨hl, strValues l, 0, by rw [← hlk]; exact Vals.strs l, Heap.get?_push_size _ rfl⟩
  ·rw [if_neg hc] at ok; exact ok.elim
noncomputable def strsOf : List D → Option (List Str)
 | [] => some []
 | .str x :: r => (strsOf r).map (x :: ·)
 | _ :: _ => none
theorem xR {K : PySem.W.Frag} {mg : Str → Option Value} {ρ : List Addr} {H : Hp} : ∀ {ds : List D} {vs : List V} {us : List Value} {ts : List Str}, aG K mg ρ H ds vs → Vals vs us → strsOf ds = some ts → ∃ l : List (Str × Tok), us = strValues l ∧ l.map (·.1) = ts
 | [], vs, us, ts, r, v, e => by unfold aG at r; subst r; cases v; cases e; exact ⟨[], rfl, rfl⟩
 | d :: ds, vs, us, ts, r, v, e => by
  unfold aG at r
  obtain ⟨x, r', rfl, h1, h2⟩ := r
  cases v with
  | cons v1 v2 =>
   cases d <;> try (cases e; done)
   rename_i y
   dsimp only [strsOf] at e
   cases q : strsOf ds with
   | none => rw [q] at e; cases e
   | some ts' =>
    rw [q] at e; cases e
    unfold Rep at h1; subst h1
    obtain ⟨t, rfl⟩ := v1
    obtain ⟨l, rfl, e2⟩ := xR h2 v2 q
    exact ⟨(y, t) :: l, rfl, by simp [e2]⟩
noncomputable def pL : D → List D → M D
 | .str x, [d] => fun G => match bE G d with
  | some (.lst xs) => match strsOf xs with
   | some ts => if JoinOk x ts = true then .ok (.str (Txt.join x ts)) G else .stuck
   | none => .stuck
  | _ => .stuck
 | _, _ => M.stop
theorem Iv : DE X "str.join" (LW X EE pL) := by
 intro pins s σ0 H x xs v us Q I rx Ih ⟨σ, τ, ρ, G, d, ds, ab, rd, BJ, ok⟩
 cases d <;> try exact ok.elim
 rename_i z
 match ds, ok with
 | [], ok => exact ok.elim
 | _ :: _ :: _, ok => exact ok.elim
 | [y], ok =>
  obtain ⟨yv, rfl, ry⟩ := kU BJ
  unfold Rep at rd
  subst rd
  obtain ⟨t, rfl⟩ := rx
  obtain ⟨u, rfl, ru⟩ := vals1 Ih
  dsimp only [pL] at ok
  cases q : bE G y with
  | none => rw [q] at ok; exact ok.elim
  | some sk =>
   rw [q] at ok
   cases sk with
   | tup _ => exact ok.elim
   | str _ => exact ok.elim
   | lst ys =>
    dsimp only at ok
    cases qs : strsOf ys with
    | none => rw [qs] at ok; exact ok.elim
    | some ts =>
     rw [qs] at ok
     dsimp only at ok
     by_cases hj : JoinOk z ts = true
     ·rw [if_pos hj] at ok
      obtain ⟨p, vs, rfl, sq, rs⟩ := dX (pins := pins) (σ0 := σ0) (s := s) ab.hp ry q
      cases ru
      obtain ⟨its, rv, pl, _⟩ := I.list sq
      obtain ⟨l, rfl, el⟩ := xR rs rv qs
      have hq := ok (.str _) H ρ .refl ab (by unfold Rep; rfl)
      exact oF I.os.2 <| SC.join pl.isList el hj fun t' k => fun ht => ⟨.str _, H, I.tok k, ⟨_, rfl⟩, hq⟩
     ·rw [if_neg hj] at ok; exact ok.elim
noncomputable def rZ : List D → M D
 | [d] => fun G => match bE G d with
  | some (.lst xs) => eF xs G
  | some (.tup xs) => .ok d G
  | _ => .stuck
 | _ => M.stop
theorem GB : iB X (.type "tuple") (KS X EE rZ) := by
 intro pins s σ0 H xs us Q I r ⟨σ, τ, ρ, G, ds, ab, BJ, ok⟩
 match ds, ok with
 | [], ok => exact ok.elim
 | _ :: _ :: _, ok => exact ok.elim
 | [y], ok =>
  obtain ⟨yv, rfl, ry⟩ := kU BJ
  dsimp only [rZ] at ok
  cases q : bE G y with
  | none => rw [q] at ok; exact ok.elim
  | some sk =>
   rw [q] at ok
   cases sk with
   | str _ => exact ok.elim
   | tup ys =>
    obtain ⟨p, vs, rfl, sq, rs⟩ := iV ry q
    exact rq pins s σ0 H _ us Q I r ⟨p, vs, rfl, .inr ⟨sq, ok _ H ρ .refl ab ry⟩⟩
   | lst ys =>
    obtain ⟨p, vs, rfl, sq, rs⟩ := dX (pins := pins) (σ0 := σ0) (s := s) ab.hp ry q
    exact rq pins s σ0 H _ us Q I r ⟨p, vs, rfl, .inl ⟨sq, fun l hl => (AK ab rs ok).2 l hl⟩⟩
noncomputable def u0 : List D → M D
 | [d] => fun G => match bE G d with
  | some (.lst xs) => bQ xs G
  | some (.tup xs) => bQ xs G
  | _ => .stuck
 | _ => M.stop
theorem GC : iB X (.type "list") (KS X EE u0) := by
 intro pins s σ0 H xs us Q I r ⟨σ, τ, ρ, G, ds, ab, BJ, ok⟩
 match ds, ok with
 | [], ok => exact ok.elim
 | _ :: _ :: _, ok => exact ok.elim
 | [y], ok =>
  obtain ⟨yv, rfl, ry⟩ := kU BJ
  dsimp only [u0] at ok
  cases q : bE G y with
  | none => rw [q] at ok; exact ok.elim
  | some sk =>
   rw [q] at ok
   cases sk with
   | str _ => exact ok.elim
   | tup ys =>
    obtain ⟨p, vs, rfl, sq, rs⟩ := iV ry q
    exact tD pins s σ0 H _ us Q I r ⟨p, vs, rfl, .inr sq, fun l hl => (rP ab rs ok).2 l hl⟩
   | lst ys =>
    obtain ⟨p, vs, rfl, sq, rs⟩ := dX (pins := pins) (σ0 := σ0) (s := s) ab.hp ry q
    exact tD pins s σ0 H _ us Q I r ⟨p, vs, rfl, .inl sq, fun l hl => (rP ab rs ok).2 l hl⟩
variable {x : Str} {p pos apos cpos : Pos} {e o : Expr} {es : List Expr} {m : DS → M (List D)} {mo : DS → M D}
theorem Iw (ho : QE X EE o mo) (ha : QA X EE [e] m) (hb : nE o = true := by rfl) (h : aH [e] = true := by rfl) (hline : (apos.endLine == cpos.line) = true := by rfl) : QE X EE (.Call (.Attribute o "split" apos) [e] [] cpos) (ck "str" xQ mo m) := by
 have h' : fB e = true ∧ aH [] = true := by simpa [aH] using h
 exact B3 F.plainAttrs_str F.slot_str_split F.type_str_split GA ho ha (jd hb _ _) (rY h (by simp)) hline (cj h'.1 _ _) (cU (es := []) rfl)
theorem E4 (ho : QE X EE o mo) (ha : QA X EE [e] m) (hb : nE o = true := by rfl) (h : aH [e] = true := by rfl) (hline : (apos.endLine == cpos.line) = true := by rfl) : QE X EE (.Call (.Attribute o "join" apos) [e] [] cpos) (ck "str" pL mo m) := by
 have h' : fB e = true ∧ aH [] = true := by simpa [aH] using h
 exact B3 F.plainAttrs_str F.slot_str_join F.type_str_join Iv ho ha (jd hb _ _) (rY h (by simp)) hline (cj h'.1 _ _) (cU (es := []) rfl)
theorem boot_tuple : bootBuiltins "tuple" = some (.type "tuple") := by decide +kernel
theorem boot_list : bootBuiltins "list" = some (.type "list") := by decide +kernel
theorem Cc (hm : X.mg "tuple" = none) (hg : Gl X "tuple") (ha : QA X EE [e] m) (h : aH [e] = true := by rfl) : QE X EE (.Call (.Name "tuple" p) [e] [] pos) (aA rZ m) := uZ GB hm hg boot_tuple ha (by decide) (by decide) h
theorem K6 (hm : X.mg "list" = none) (hg : Gl X "list") (ha : QA X EE [e] m) (h : aH [e] = true := by rfl) : QE X EE (.Call (.Name "list" p) [e] [] pos) (aA u0 m) := uZ GC hm hg boot_list ha (by decide) (by decide) h
noncomputable def r8 (i n : Nat) (BI : Str → Option (List D → M D)) (m : DS → M (List D)) : DS → M D := fun τ G => match τ[i]? with
 | some (some (.fn y)) => match BI y with
  | some mf => aV n mf m τ G
  | none => .stuck
 | _ => .stuck
theorem tL {CX : yR} {i n : Nat} {BI : Str → Option (List D → M D)} (hN : X.N[i]? = some x) (hv : Mw X.env.scope x) (hd : (x == ("__debug__" : Str)) = false ∧ (x == ("__classdict__" : Str)) = false)
  (hF : ∀ y mf, BI y = some mf → ∃ k f fd ps, aW X.prog X.w X.K X.mg X.base CX k f fd ps (aQ X.K X.mg n mf) ∧ iK k X.A ∧ X.mg y = some (.ref f) ∧ PySem.W.keepIn X.K (.ref f) = true ∧ Binds X.K fd ps []) (hx : OM CX X EE)
  (ha : QA X EE (e :: es) m) (h : aH (e :: es) = true := by rfl) : QE X EE (.Call (.Name x p) (e :: es) [] pos) (r8 i n BI m) := by
 have h' : fB e = true ∧ aH es = true := by simpa [aH] using h
 intro pins s σ H Q I hq
 obtain ⟨τ, ρ, G, ab, ok⟩ := hq
 unfold r8 at ok
 cases q : τ[i]? with
 | none => rw [q] at ok; exact ok.elim
 | some od =>
  cases od with
  | none => rw [q] at ok; exact ok.elim
  | some d =>
   rw [q] at ok
   cases d <;> try exact ok.elim
   rename_i y
   dsimp only at ok
   cases qt : BI y with
   | none => rw [qt] at ok; exact ok.elim
   | some mf =>
    rw [qt] at ok
    obtain ⟨k, f, fd, ps, F, hr, hm, hk, hb⟩ := hF y mf qt
    obtain ⟨v, ev, rv⟩ := ab.st.2 i (.fn y) q
    unfold Rep at rv
    obtain ⟨a, rfl, ha'⟩ := rv
    rw [hm] at ha'
    cases ha'
    obtain ⟨τ1, ρ1, G1, uS, J1⟩ := xC (k := fun _ ds => if ds.length = n then mf ds else M.stop) ⟨τ, ρ, G, ab, ok⟩
    refine wpAny_Call_Name_kw (wpAny_mono (Hw hN hv hd.1 hd.2 pins s σ H (fun v' H' => v' = .ref f ∧ H' = H) I ⟨_, ev, rfl, rfl⟩) (fun u s0 hu => ?_) fun _ _ z => z)
    obtain ⟨v', H', I0, r0, rfl, rfl⟩ := hu
    cases r0
    refine PySem.W.callWith_K (h₀ := X.base) I0.ok.mod.Mv hk (ja (ha pos pins s0 σ H' _ I0 ⟨τ1, ρ1, G1, uS, J1⟩) fun us s1 ⟨vs, H1, I1, r, q⟩ => ⟨I1.Dp, ?_⟩) (cj h'.1 _ _) (cU h'.2)
    obtain ⟨τ2, ρ2, G2, ds, gf, rs, bD⟩ := q
    by_cases hn : ds.length = n
    ·rw [if_pos hn] at bD
     exact AO F hr hb hx I1 r gf rs hn bD
    ·rw [if_neg hn] at bD
     exact bD.elim
noncomputable def NJ (c : Str) (m : DS → M D) : DS → M D := fun τ => if c.length ≤ sizeLine then (m τ).bind fun d => match d with
 | .str y => if (c ++ y).length ≤ sizeLine ∧ y.length ≤ sizeLine then M.ret (.str (c ++ y)) else M.stop
 | _ => M.stop else M.stop
theorem NK {c : Str} {j : Nat} {p1 p2 : Pos} (ha : QE X EE e mo) : QE X EE (.JoinedStr [.Constant (.str c) j p1, .FormattedValue e (-1) none p2] pos) (NJ c mo) := by
 intro pins s σ H Q I h
 have emp : Str.empty ++ c = c := by
  cases c with
  | mk cs => show Str.mk (#[] ++ cs) = _; simp
 obtain ⟨τ0, ρ0, G0, K3, NL⟩ := h
 unfold NJ at NL
 by_cases hc : c.length ≤ sizeLine
 ·rw [if_pos hc] at NL
  have h1 : eV X.K X.mg EE (fun τ => (mo τ).bind fun d => match d with
    | .str y => if (c ++ y).length ≤ sizeLine ∧ y.length ≤ sizeLine then M.ret (.str (c ++ y)) else M.stop
    | _ => M.stop) σ H Q := ⟨τ0, ρ0, G0, K3, NL⟩
  have h2 := mw (k := fun _ d => match d with
    | .str y => if (c ++ y).length ≤ sizeLine ∧ y.length ≤ sizeLine then M.ret (.str (c ++ y)) else M.stop
    | _ => M.stop) h1
  refine wpAny_JoinedStr ?_
  show wpAny _ _ (eval (.Constant (.str c) j p1) X.env) _ _ s
  refine Calls.Constant_str ⟨c, _, rfl, by rw [emp]; exact hc, ?_⟩
  rw [emp]
  show wpAny _ _ (eval (.FormattedValue e (-1) none p2) X.env) _ _ _
  refine wpAny_FormattedValue_plain (wpAny_mono (ha pins { s with toks := s.toks + 1 } σ H _ (I.tok _) h2) (fun u s1 hu => ?_) fun _ _ z => z)
  obtain ⟨v, H1, I1, r1, τ, ρ, G, d, ab, rd, ok⟩ := hu
  cases d <;> try exact ok.elim
  rename_i y
  unfold Rep at rd; subst rd
  obtain ⟨t, rfl⟩ := r1
  dsimp only at ok
  by_cases hy : (c ++ y).length ≤ sizeLine ∧ y.length ≤ sizeLine
  ·rw [if_pos hy] at ok
   have hq := ok (.str (c ++ y)) H1 ρ .refl ab (by unfold Rep; rfl)
   refine wpAny_formatField_str ⟨y, _, rfl, hy.1, hy.1, .str _, H1, I1.tok _, ⟨_, rfl⟩, hq⟩ ⟨y, _, rfl, hy.1, hy.1, .str _, H1, I1.tok _, ⟨_, rfl⟩, hq⟩ hy.2
  ·rw [if_neg hy] at ok; exact ok.elim
 ·rw [if_neg hc] at NL; exact NL.elim
end
end L3
end
section
set_option Elab.async false
set_option linter.all false
set_option maxRecDepth 100000
namespace L3
open PySem PySem.Spec L2 Builtin Builtin.Str
section
variable {X : Cx} {EE : gK}
noncomputable def y9 (y z : Str) : D → M D
 | .str x => if (y == z) = false ∧ x.length + (x.length + 1) * z.length ≤ 16777216 then M.ret (.str (Txt.replace x y z)) else M.stop
 | _ => M.stop
noncomputable def NN (f : D → M D) (m : DS → M D) : DS → M D := fun τ => (m τ).bind f
variable {o : Expr} {mo : DS → M D} {y z : Str} {j1 j2 : Nat} {p1 p2 apos cpos : Pos}
theorem AX (ho : QE X EE o mo) (hb : nE o = true := by rfl) (hline : (apos.endLine == cpos.line) = true := by rfl) : QE X EE (.Call (.Attribute o "replace" apos) [.Constant (.str y) j1 p1, .Constant (.str z) j2 p2] [] cpos) (NN (y9 y z) mo) := by
 intro pins s σ H Q I h
 have h2 := mw (k := fun _ => y9 y z) h
 have hst : starEach [.Constant (.str y) j1 p1, .Constant (.str z) j2 p2] X.env = [(false, eval (.Constant (.str y) j1 p1) X.env), (false, eval (.Constant (.str z) j2 p2) X.env)] := by
  rw [cj rfl, cj rfl]; rfl
 refine wpAny_Call_method_late (jd hb _ _) (rY (es := [.Constant (.str y) j1 p1, .Constant (.str z) j2 p2]) rfl (by simp)) hline rfl (ja (ho pins s σ H _ I h2) fun v s1 hv => ?_)
 obtain ⟨xv, H1, I1, r1, τ, ρ, G, d, ab, rd, ok⟩ := hv
 cases d <;> try exact ok.elim
 rename_i x
 dsimp only [y9] at ok
 by_cases hc : (y == z) = false ∧ x.length + (x.length + 1) * z.length ≤ 16777216
 ·rw [if_pos hc] at ok
  unfold Rep at rd; subst rd
  obtain ⟨t, rfl⟩ := r1
  have hq := ok (.str (Txt.replace x y z)) H1 ρ .refl ab (by unfold Rep; rfl)
  obtain ⟨g1, g2⟩ := AH I1 (x := .str x) (v := .str x t) ⟨t, rfl⟩ (T := "str") rfl
  refine ⟨"str", "str.replace", F.plainAttrs_str, F.slot_str_replace, F.type_str_replace, g1, g2, ?_⟩
  rw [hst]
  refine Calls.callWith_builtin (by rfl) (Calls.evalArgs_plain ?_)
  refine Calls.spliced_cons (Calls.Constant_str (k := j1) (pos := p1) (Calls.spliced_cons (Calls.Constant_str (k := j2) (pos := p2) (Calls.spliced_nil ?_))))
  show wpAny _ _ (call (.builtin "str.replace") [.str x t, .str y s1.toks, .str z (s1.toks + 1)]) _ _ _
  exact oF (Nat.succ_pos _) (SC.replace (Nat.ne_of_gt I1.os.2) (Nat.succ_ne_zero _) (Nat.ne_of_lt (Nat.lt_succ_self _)) hc.1 hc.2 fun t' k => fun ht => ⟨.str _, H1, I1.tok k (ht := ht), ⟨_, rfl⟩, hq⟩)
 ·rw [if_neg hc] at ok; exact ok.elim
end
section
end
section
variable {X : Cx} {EE : gK}
variable {p pos apos cpos : Pos} {e o : Expr} {es : List Expr} {m : DS → M (List D)} {mo : DS → M D}
end
end L3
end
section
set_option Elab.async false
set_option linter.all false
set_option maxRecDepth 100000
namespace L3
open PySem PySem.Spec L2
noncomputable def Qf (CX : yR) (X : Cx) (n : Nat) : List (Str × (List D → M D)) → Prop
 | [] => True
 | q :: r => (∃ k f fd ps, aW X.prog X.w X.K X.mg X.base CX k f fd ps (aQ X.K X.mg n q.2) ∧ iK k X.A ∧ X.mg q.1 = some (.ref f) ∧ PySem.W.keepIn X.K (.ref f) = true ∧ Binds X.K fd ps []) ∧ Qf CX X n r
theorem Iz {CX : yR} {X : Cx} {n : Nat} : ∀ {l : List (Str × (List D → M D))}, Qf CX X n l → ∀ (y : Str) (mf : List D → M D), l.lookup y = some mf → ∃ k f fd ps, aW X.prog X.w X.K X.mg X.base CX k f fd ps (aQ X.K X.mg n mf) ∧ iK k X.A ∧ X.mg y = some (.ref f) ∧ PySem.W.keepIn X.K (.ref f) = true ∧ Binds X.K fd ps []
 | [], _, _, _, h => nomatch h
 | q :: r, ⟨h1, hr⟩, y, mf, h => by
  obtain ⟨qn, qm⟩ := q
  rw [List.lookup_cons] at h
  cases e : y == qn with
  | true =>
   rw [e] at h
   cases h
   have := eq_of_beq e
   subst this
   exact h1
  | false => rw [e] at h; exact Iz hr y mf h
end L3
namespace L3
open PySem PySem.Spec L2
theorem aE {X : Cx} {EE : gK} {e : Expr} {es : List Expr} {m : DS → M D} {r : DS → M (List D)} (ha : QE X EE e m) (h : fB e = true) (hr : QA X EE es r) : QA X EE (e :: es) (af m r) := AV ha hr h
theorem dG {X : Cx} {EE : gK} {x : Str} {j : Nat} {pos : Pos} {es : List Expr} {r : DS → M (List D)} (hr : QA X EE es r) : QA X EE (.Constant (.str x) j pos :: es) (af (eC (.str x)) r) := AV cC hr rfl
theorem IA {X : Cx} {EE : gK} {x : Int} {j : Nat} {pos : Pos} {es : List Expr} {r : DS → M (List D)} (hr : QA X EE es r) : QA X EE (.Constant (.int x) j pos :: es) (af (eC (.int x)) r) := AV ak hr rfl
end L3
end
section
set_option Elab.async false
set_option linter.all false
set_option maxRecDepth 100000
namespace L3
open PySem PySem.Spec L2
theorem DZ : typeLookup (.type "list_reverseiterator") (Str.ofString "__len__") = (pure none : Sem (Option Value)) := by
 rw [typeLookup_type, builtinLookup_eq_fast]; rfl
theorem IB : typeLookup (.type "list_reverseiterator") (Str.ofString "__length_hint__") = (pure (some (.builtin "list_reverseiterator.__length_hint__")) : Sem (Option Value)) := by
 rw [typeLookup_type, builtinLookup_eq_fast]; rfl
theorem IC : isSubtype (.type "list_reverseiterator") (.type "list_reverseiterator") = (pure true : Sem Bool) := by
 rw [isSubtype_type]; rfl
theorem ID {M : Model} {A : Around} {E : Value → Shared → Prop} {s : Shared} {it l : Addr} {i : Int} {Q : Bool → Shared → Prop} (hr : s.heap.IsRevIter it l i) (h : Q false s) : wpAny M A (Builtin.List.listLengthHint (.ref it)) Q E s := by
 have ty : s.TypeIs (.ref it) "list_reverseiterator" := by
  obtain ⟨o, e, c, _⟩ := hr
  exact ⟨o, e, c⟩
 unfold Builtin.List.listLengthHint
 refine wpAny_bind (wpAny_specialOf ty DZ ?_)
 refine wpAny_bind (wpAny_specialOf ty IB ?_)
 have e1 : splitId "list_reverseiterator.__length_hint__" = some ("list_reverseiterator", "__length_hint__") := by decide +kernel
 dsimp only
 rw [e1]
 dsimp only
 refine wpAny_bind (wpAny_isInstance ty IC ?_)
 rw [if_neg (by decide)]
 split
 ·rw [if_neg (by decide)]
  exact wpAny_pure h
 ·rename_i hs
  exact absurd (by decide +kernel) hs
theorem D0 {prog : Program} {w : World} {A : Around} {s : Shared} {R : Result → Shared → Prop} {it l : Addr} {items : Array Value} (hh : A.handled = none) (hit : s.heap.IsRevIter it l ((items.size : Int) - 1)) (hl : s.heap.IsList l items) (hne : l ≠ it) (hz : items.size ≤ sizeLine) (S : Addr) (res : Value) (c₀ : Nat)
  (hS : s.heap.get? S = some { cls := .type "list", data := .seq #[] c₀ }) (Yu : S ≠ l)
  (hR : ∀ (s' : Shared) (acc' : Array Value) (c' : Nat), Moved [S, it] (fun a b => b = a) s s' → s'.heap.get? S = some { cls := .type "list", data := .seq acc' c' } → ItemsOf (fun i v => items[items.size - 1 - i]? = some v) acc' items.size → R (.ok (.ret res)) s') :
  wpAny (model prog w) A.in1 (Builtin.List.listExtendWith (.ref S) (.ref it) res) (fun fin s' => match fin with
   | .done f => R (.ok f) s'
   | .again c' => c'.quiet = true ∧ codeAny (model prog w) A c' R s') (fun e s' => R (.error e) s') s := by
 have Qg : S ≠ it := by
  rintro rfl
  obtain ⟨o, e, c, d⟩ := hit
  rw [hS] at e; cases e
  exact absurd (Value.type.inj c) (by decide)
 have ty : s.TypeIs (.ref it) "list_reverseiterator" := by
  obtain ⟨o, e, c, _⟩ := hit
  exact ⟨o, e, c⟩
 have Wk := Walks.toS (Walks.listRev (prog := prog) (w := w) (A := A.in1) (show A.in1.handled = none from hh) it l hne items)
 have key := codeAny_extend_loopS Wk hz S (by simp [Qg, Yu]) res items.size 0 (R := R)
 unfold Builtin.List.listExtendWith
 refine wpAny_bind (wpAny_typeOf ty ?_)
 have h1 : Builtin.List.listSameRef (.ref S) (.ref it) = false := by simp [Builtin.List.listSameRef, Qg]
 rw [if_neg (by rw [h1]; decide)]
 refine wpAny_bind (wpAny_pyIter_revIter hit ?_)
 refine wpAny_bind (wpAny_holding (ID hit ?_))
 dsimp only
 split
 ·rename_i hs
  exact absurd hs (by decide +kernel)
 ·exact wpAny_pure ⟨plainId_quiet F.plain_extend_loop _, key s #[] c₀ rfl (Nat.zero_le _) ⟨Nat.zero_le _, by simpa using hit, hl⟩ hS (ItemsOf.nil _) hR⟩
theorem za {prog : Program} {w : World} {A : Around} {E : Value → Shared → Prop} {s : Shared} {it l : Addr} {items : Array Value} {Q : Value → Shared → Prop} (hh : A.handled = none) (hit : s.heap.IsRevIter it l ((items.size : Int) - 1)) (hl : s.heap.IsList l items) (hne : l ≠ it) (hz : items.size ≤ sizeLine)
  (hQ : ∀ (h' : Heap) (tk : Nat) (acc' : Array Value) (c' : Nat), (∀ b o, b ≠ it → s.heap.get? b = some o → h'.get? b = some o) → h'.get? s.heap.objs.size = some { cls := .type "list", data := .seq acc' c' } → ItemsOf (fun i v => items[items.size - 1 - i]? = some v) acc' items.size → Q (.ref s.heap.objs.size) { s with heap := h', toks := tk }) :
  wpAny (model prog w) A (call (.type "list") [.ref it]) Q E s := by
 have Yv : l < s.heap.objs.size := by obtain ⟨o, e, _⟩ := hl; exact Heap.lt_size e
 have lt2 : it < s.heap.objs.size := by obtain ⟨o, e, _⟩ := hit; exact Heap.lt_size e
 refine callType_codes (Q₁ := fun v s1 => v = .ref s.heap.objs.size ∧ s1 = { s with heap := s.heap.push { cls := .type "list", data := .seq #[] } }) F.called_list (F.typeCall_list_1 (.ref it)) F.entry_list_init (code_list_new (.ref it) ⟨rfl, rfl⟩) fun obj s₁ h₁ => ?_
 obtain ⟨rfl, rfl⟩ := h₁
 have hS := Heap.get?_push_size (o := { cls := .type "list", data := .seq #[] }) s.heap rfl
 refine ⟨⟨_, hS, rfl⟩, F.args_list_init_2 (.ref s.heap.objs.size) (.ref it), ?_⟩
 have kp : ∀ b o, s.heap.get? b = some o → (s.heap.push { cls := .type "list", data := .seq #[] }).get? b = some o := fun b o e => Heap.get?_push_of_some _ e
 unfold Builtin.«list.__init__»
 refine wpAny_bind ?_
 unfold Builtin.List.listItems
 refine wpAny_bind (wpAny_seqItems hS rfl (wpAny_pure ?_))
 refine wpAny_bind ?_
 unfold Builtin.List.listUpdate
 refine wpAny_updateSeq hS rfl ?_ (by simp [sizeLine_eq]) (by simp [sizeLine_eq])
 have Yw := Heap.get?_update_self (Obj.mapSeq fun x => #[]) hS rfl
 have Hs : ∀ b o, b ≠ s.heap.objs.size → (s.heap.push { cls := .type "list", data := .seq #[] }).get? b = some o → ((s.heap.push { cls := .type "list", data := .seq #[] }).update s.heap.objs.size (Obj.mapSeq fun x => #[])).get? b = some o := fun b o hb e => (Heap.get?_update_other _ _ (Ne.symm hb)).trans e
 refine wpAny_bind (wpAny_letGo ?_)
 have up : ∀ b o, s.heap.get? b = some o → ((s.heap.push { cls := .type "list", data := .seq #[] }).update s.heap.objs.size (Obj.mapSeq fun x => #[])).get? b = some o := fun b o e => Hs b o (Nat.ne_of_lt (Heap.lt_size e)) (kp b o e)
 refine D0 (l := l) (items := items) (show A.in1.handled = none from hh) ?_ ?_ hne hz s.heap.objs.size .none (if ((#[] : Array Value).size == (#[] : Array Value).size) = true then 0 else 0 + 1) ?_ (Nat.ne_of_gt Yv) ?_
 ·obtain ⟨o, e, r⟩ := hit
  exact ⟨o, up _ _ e, r⟩
 ·obtain ⟨o, e, r⟩ := hl
  exact ⟨o, up _ _ e, r⟩
 ·exact Yw
 ·intro s' acc' c' hm hS' hacc
  rw [Moved.eq_with hm]
  refine ⟨rfl, hQ s'.heap s'.toks acc' c' (fun b o hb e => ?_) hS' hacc⟩
  refine hm.heap b o ?_ (up b o e)
  simp [hb, Nat.ne_of_lt (Heap.lt_size e)]
end L3
end
section
set_option Elab.async false
set_option linter.all false
set_option maxRecDepth 100000
namespace L3
open PySem PySem.Spec L2
section
variable {X : Cx} {EE : gK} {a b c e o : Expr} {es : List Expr} {ma mb mo : DS → M D} {m : DS → M (List D)} {t : DS → M Bool} {ms : MS} {pos p p2 pos2 apos cpos : Pos}
noncomputable def fuel : Nat := 100000
noncomputable def je (t : DS → M Bool) (ms : MS) : Nat → MS
 | 0 => fun _ _ => .stuck
 | n + 1 => fun τ => fu (t τ) (fun c G => if c = true then (match ms τ G with
   | .nx τ' G' => je t ms n τ' G'
   | .ct τ' G' => je t ms n τ' G'
   | .bk τ' G' => .nx τ' G'
   | r => r) else .nx τ G) fun c G => .xn c τ G
theorem KG.imp {H : Hp} {σ : L2.St} {τ : DS} {ρ : List Addr} {r : Out Bool} {Q Q' : Bool → Hp → Prop} (h : KG X.K X.mg EE H σ τ ρ r Q) (i : ∀ b H', Q b H' → Q' b H') : KG X.K X.mg EE H σ τ ρ r Q' := by
 cases r with
 | stuck => exact h
 | ok b G => exact fun H' ρ' f ab => i b H' (h H' ρ' f ab)
 | fR c G => exact h
theorem IE {n : Nat} {body : List Stmt} (hp : PassesOwn (model X.prog X.w) X.A X.env X.xe) (hc : QT X EE c t) (hb : ER X EE body ms) : QS X EE (.While c body [] pos) (je t ms n) := PS.mono (Hy hp hc hb) fun Dd σ H h => by
 obtain ⟨τ0, ρ0, G0, K3, NL⟩ := h
 refine ⟨fun m σ H => ∃ τ ρ G, Ab X.K X.mg σ H τ ρ G ∧ yX X.K X.mg EE H ρ Dd (je t ms m τ G), ⟨n, τ0, ρ0, G0, K3, NL⟩, ?_⟩
 rintro m σ H ⟨τ, ρ, G, ab, ok⟩
 cases m with
 | zero => exact ok.elim
 | succ m =>
  obtain ⟨τ1, ρ1, G1, uS, J1⟩ := HN (k := fun τ c G => if c = true then (match ms τ G with
   | .nx τ' G' => je t ms m τ' G'
   | .ct τ' G' => je t ms m τ' G'
   | .bk τ' G' => .nx τ' G'
   | r => r) else .nx τ G) (show kT X.K X.mg EE (fun τ => fu (t τ) (fun c G => if c = true then (match ms τ G with
   | .nx τ' G' => je t ms m τ' G'
   | .ct τ' G' => je t ms m τ' G'
   | .bk τ' G' => .nx τ' G'
   | r => r) else .nx τ G) fun c G => .xn c τ G) Dd σ H from ⟨τ, ρ, G, ab, ok⟩)
  refine ⟨τ1, ρ1, G1, uS, J1.imp fun b H1 hq => ?_⟩
  obtain ⟨τ2, ρ2, G2, gf, bD⟩ := hq
  cases b with
  | false =>
   rw [if_neg Bool.false_ne_true] at bD ⊢
   exact bD σ H1 ρ2 .refl gf
  | true =>
   rw [if_pos rfl] at bD ⊢
   refine ⟨fun σ' H' => ∃ τ ρ G, Ab X.K X.mg σ' H' τ ρ G ∧ yX X.K X.mg EE H' ρ Dd (je t ms m τ G), fun σ' H' w => ⟨m, Nat.lt_succ_self _, w⟩, τ2, ρ2, G2, gf, ?_⟩
   cases q : ms τ2 G2 with
   | stuck => rw [q] at bD; exact bD
   | nx τ' G' => rw [q] at bD; exact fun σ' H' ρ' f eu => ⟨τ', ρ', G', eu, bD.fut f⟩
   | ct τ' G' => rw [q] at bD; exact fun σ' H' ρ' f eu => ⟨τ', ρ', G', eu, bD.fut f⟩
   | bk τ' G' => rw [q] at bD; exact bD
   | rt d G' => rw [q] at bD; exact bD
   | xn c τ' G' => rw [q] at bD; exact bD
noncomputable def Cd : List D → M D
 | [d] => fun G => match bE G d with
  | some (.lst xs) => bQ xs.reverse G
  | _ => .stuck
 | _ => M.stop
theorem Ce : bootBuiltins "reversed" = some (.type "reversed") := by decide +kernel
theorem aG.rev {K : PySem.W.Frag} {mg : Str → Option Value} {ρ : List Addr} {H : Hp} : ∀ {ds : List D} {vs : List V}, aG K mg ρ H ds vs → aG K mg ρ H ds.reverse vs.reverse
 | [], vs, h => by unfold aG at h; subst h; exact .nil
 | d :: ds, vs, h => by
  unfold aG at h
  obtain ⟨v, r, rfl, h1, h2⟩ := h
  rw [List.reverse_cons, List.reverse_cons]
  exact (aG.rev h2).append (.cons h1 .nil)
theorem Vals.app : ∀ {xs ys : List V} {us vs : List Value}, Vals xs us → Vals ys vs → Vals (xs ++ ys) (us ++ vs)
 | _, _, _, _, .nil, h => h
 | _, _, _, _, .cons r t, h => .cons r (Vals.app t h)
theorem Vals.rev : ∀ {xs : List V} {us : List Value}, Vals xs us → Vals xs.reverse us.reverse
 | _, _, .nil => .nil
 | _, _, .cons r t => by
  rw [List.reverse_cons, List.reverse_cons]
  exact Vals.app (Vals.rev t) (.cons r .nil)
theorem GD {its : List Value} {acc : Array Value} (h : ItemsOf (fun i v => its.toArray[its.toArray.size - 1 - i]? = some v) acc its.toArray.size) : acc = its.reverse.toArray := by
 obtain ⟨h1, h2⟩ := h
 have hs : its.toArray.size = its.length := by simp
 rw [hs] at h1
 apply Array.ext_getElem?
 intro i
 by_cases hi : i < acc.size
 ·have e := h2 i acc[i] (Array.getElem?_eq_getElem hi)
  rw [Array.getElem?_eq_getElem hi, ← e]
  rw [List.getElem?_toArray, List.getElem?_toArray, List.getElem?_reverse (by omega), hs]
 ·rw [Array.getElem?_eq_none (by omega), Array.getElem?_eq_none (by simp; omega)]
theorem D3 (hc : X.calm = true) (hm1 : X.mg "list" = none) (Yx : Gl X "list") (hm2 : X.mg "reversed" = none) (Sw : Gl X "reversed") (ha : QA X EE [e] m) (h : aH [e] = true := by rfl) :
  QE X EE (.Call (.Name "list" p) [.Call (.Name "reversed" p2) [e] [] pos2] [] pos) (aA Cd m) := by
 have h' : fB e = true ∧ aH [] = true := by simpa [aH] using h
 intro pins s σ H Q I hq
 have hq' := xC (k := fun _ ds => Cd ds) hq
 refine wpAny_Call_Name_kw (nv I Yx hm1 boot_list ?_ (by decide) (by decide))
 refine PyProof.Rows.callWith_type1 ?_ (cj rfl _ _) (cU (es := []) rfl)
 rw [cj (e := .Call (.Name "reversed" p2) [e] [] pos2) rfl]
 show wpAny _ _ (spliced ((false, eval _ X.env) :: backTo pos (starEach [] X.env))) _ _ s
 refine Calls.spliced_cons ?_
 refine wpAny_Call_Name_kw (nv I Sw hm2 Ce ?_ (by decide) (by decide))
 refine PyProof.Rows.callWith_type1 (ja (ha pos2 pins s σ H _ I hq') fun us s1 Kv => ?_) (cj h'.1 _ _) (cU (es := []) rfl)
 obtain ⟨vs, H1, I1, r1, τ, ρ, G, ds, ab, rs, ok⟩ := Kv
 match ds, ok with
 | [], ok => exact ok.elim
 | _ :: _ :: _, ok => exact ok.elim
 | [d], ok =>
  obtain ⟨x, rfl, rx⟩ := kU rs
  obtain ⟨u, rfl, ru⟩ := vals1 r1
  dsimp only [Cd] at ok
  cases q : bE G d with
  | none => rw [q] at ok; exact ok.elim
  | some sk =>
   rw [q] at ok
   cases sk with
   | tup zs => exact ok.elim
   | str z => exact ok.elim
   | lst zs =>
    dsimp only at ok
    obtain ⟨l, ys, rfl, sq, rv⟩ := dX (pins := pins) (σ0 := σ) (s := s1) ab.hp rx q
    cases ru
    obtain ⟨its, vv, pl, hz⟩ := I1.list sq
    have hlen := vv.length
    have hl := pl.isList
    have hlt : l < s1.heap.objs.size := by obtain ⟨_, e, _⟩ := hl; exact Heap.lt_size e
    refine call_reversed_list hl ?_
    refine Calls.spliced_nil ?_
    refine oF (by first | exact I1.os.2 | exact Nat.succ_pos _) <| za (l := l) (items := its.toArray) (show X.A.handled = none from I.ok.hd hc) ⟨_, Heap.get?_push_size _ rfl, rfl, rfl⟩ (hl.push _) (Nat.ne_of_lt hlt) (by simp; omega) fun h' tk acc' c' kp hS hacc ht => ?_
    have ea := GD hacc
    subst ea
    obtain ⟨hlr, hn⟩ := rP ab rv.rev ok
    have hsz : (s1.heap.push (revObj l ((its.toArray.size : Int) - 1))).objs.size = s1.heap.objs.size + 1 := Heap.size_push ..
    refine ⟨.ref _, upd H1 _ (.lst ys.reverse), I1.laid (t' := tk) (fun b o e => kp b o (Nat.ne_of_lt (Heap.lt_size e)) (Heap.get?_push_of_some _ e)) ?_ ⟨hlr, its.reverse, c', Vals.rev vv, hS⟩, rfl, hn _ (I1.hok.fresh ?_)⟩
    ·show s1.heap.objs.size ≤ (s1.heap.push _).objs.size
     rw [hsz]; omega
    ·show s1.heap.objs.size ≤ (s1.heap.push _).objs.size
     rw [hsz]; omega
noncomputable def zU : List D → M D
 | [.int i] => M.ret (.int i)
 | [.bl k] => M.ret (.int (if k then 1 else 0))
 | _ => M.stop
theorem GF : iB X (.type "int") (KS X EE zU) := by
 intro pins s σ0 H xs us Q I r ⟨σ, τ, ρ, G, ds, ab, BJ, ok⟩
 match ds, ok with
 | [], ok => exact ok.elim
 | d :: _ :: _, ok => cases d <;> exact ok.elim
 | [d], ok =>
  obtain ⟨x, rfl, rx⟩ := kU BJ
  cases d <;> try exact ok.elim
  ·rename_i k
   unfold Rep at rx; subst rx
   exact zD pins s σ0 H _ us Q I r (.inr ⟨k, rfl, ok _ H ρ .refl ab (by unfold Rep; rfl)⟩)
  ·rename_i i
   unfold Rep at rx; subst rx
   exact zD pins s σ0 H _ us Q I r (.inl ⟨i, rfl, ok _ H ρ .refl ab (by unfold Rep; rfl)⟩)
theorem boot_int : bootBuiltins "int" = some (.type "int") := by decide +kernel
theorem NO (hm : X.mg "int" = none) (hg : Gl X "int") (ha : QA X EE [e] m) (h : aH [e] = true := by rfl) : QE X EE (.Call (.Name "int" p) [e] [] pos) (aA zU m) := uZ GF hm hg boot_int ha (by decide) (by decide) h
end
end L3
end
section
set_option Elab.async false
set_option linter.all false
set_option maxRecDepth 100000
namespace L3
open PySem PySem.Spec L2
theorem E5 {X : Cx} {pins : List (Addr × Obj)} {σ : L2.St} {H : Hp} {s : Shared} {h' : Heap} {t' : Nat} {ch : List Addr} (I : Inv X pins σ H s) (k : ∀ b o, b ∉ ch → s.heap.get? b = some o → h'.get? b = some o) (hf : ∀ b ∈ ch, uL X pins H b) (ht : 0 < t' := by first | exact Nat.succ_pos _ | exact (Inv.os (by assumption)).2 | assumption | omega) : Inv X pins σ H { s with heap := h', toks := t' } := by
 have O4 : ∀ b u, H b = some u → b ∉ ch := fun b u e z => by rw [(hf b z).1] at e; cases e
 refine I.step (g' := s.gens) (d' := s.drawn) (ch := ch) (fun b hb => ⟨(hf b hb).2.2.2.1, (hf b hb).2.1, (hf b hb).2.2.2.2.1, (hf b hb).2.2.2.2.2⟩) (fun b o _ _ hc e _ => k b o hc e) (fun b o _ _ hc e _ => ⟨o.slots, k b o hc e⟩) (fun _ _ _ _ n => n)
  (fun b o hc e => ⟨o, k b o hc e⟩) (fun _ _ e => e) (fun _ _ _ e => e) (fun b ps e => ⟨#[], by rw [e]; simp⟩) (fun m hm => ?_) (fun b u e => ?_) I.bare
 ·obtain ⟨o, es, ep, ho, r⟩ := hm
  exact ⟨o, es, ep, k _ o (fun z => (hf _ z).2.1 rfl) ho, r⟩
 ·refine (I.hok b u e).stay (fun c v hc q => k c v ?_ q) (fun _ q => q) fun _ _ q => q
  rcases hc with z | z
  ·rw [z]; exact O4 b u e
  ·exact O4 c _ z
noncomputable abbrev View := DH → Nat → Option (Option D)
noncomputable def JV (K : PySem.W.Frag) (mg : Str → Option Value) (J : It) (vw : View) (H0 : Hp) (ρ0 : List Addr) : Prop :=
 ∀ (i : Nat) (H : Hp) (ρ : List Addr) (G : DH), fY K H0 H ρ0 ρ → lO K mg H ρ G → (vw G i = some none → J.stop i H) ∧
  ∀ d, vw G i = some (some d) → J.go i H ∧ ∀ x H', J.zB i H x H' → K1 K mg H H' ρ ∧ Rep K mg ρ H' d x
noncomputable def xS (g : tG) (body : MS) (vw : View) : Nat → Nat → MS
 | 0, _ => fun _ _ => .stuck
 | f + 1, i => fun τ G => match vw G i with
  | none => .stuck
  | some none => .nx τ G
  | some (some d) => match g d τ with
   | none => .stuck
   | some τ1 => match body τ1 G with
    | .nx τ2 G2 => xS g body vw f (i + 1) τ2 G2
    | .ct τ2 G2 => xS g body vw f (i + 1) τ2 G2
    | .bk τ2 G2 => .nx τ2 G2
    | r => r
noncomputable abbrev MI := DS → M (Nat × View)
noncomputable def L4 (K : PySem.W.Frag) (mg : Str → Option Value) (EE : gK) (mi : MI) : TI := fun σ H R => ∃ τ ρ G, Ab K mg σ H τ ρ G ∧ match mi τ G with
 | .stuck => False
 | .fR c G' => ∀ H' ρ', fY K H H' ρ ρ' → Ab K mg σ H' τ ρ' G' → EE c σ H'
 | .ok (_, vw) G' => ∀ J H' ρ', fY K H H' ρ ρ' → Ab K mg σ H' τ ρ' G' → JV K mg J vw H' ρ' → R J H'
noncomputable def QI (X : Cx) (EE : gK) (tg iter : Expr) (mi : MI) : Prop := PI X tg iter (L4 X.K X.mg EE mi)
section
variable {X : Cx} {EE : gK} {tg iter a b : Expr} {g : tG} {mi : MI} {ms : MS} {pos p pc : Pos} {m : DS → M (List D)}
theorem IF {body : MS} {vw : View} {Dd : Ends} {J : It} {H0 : Hp} {σ0 : L2.St} {ρ0 : List Addr} {G0 : DH} {τ0 : DS} {fuel : Nat} (jv : JV X.K X.mg J vw H0 ρ0)
  (ab : Ab X.K X.mg σ0 H0 τ0 ρ0 G0) (ok : yX X.K X.mg EE H0 ρ0 Dd (xS g body vw fuel 0 τ0 G0)) :
  ∃ W : Nat → Nat → L2.St → Hp → Prop, (∃ m, W 0 m σ0 H0) ∧ ∀ i m σ H, W i m σ H →
   (J.stop i H ∧ Dd.nx σ H) ∨ (J.go i H ∧ ∃ N : L2.St → Hp → Prop, (∀ σ' H', N σ' H' → ∃ m', m' < m ∧ W (i + 1) m' σ' H') ∧ ∀ x H', J.zB i H x H' → BZ X.K X.mg g x σ H' fun σ2 H2 => kT X.K X.mg EE body { Dd with nx := N, ct := N, bk := Dd.nx } σ2 H2) := by
 refine ⟨fun i m σ H => ∃ τ ρ G, Ab X.K X.mg σ H τ ρ G ∧ fY X.K H0 H ρ0 ρ ∧ yX X.K X.mg EE H ρ Dd (xS g body vw m i τ G), ⟨fuel, τ0, ρ0, G0, ab, .refl, ok⟩, ?_⟩
 rintro i m σ H ⟨τ, ρ, G, ab, f, ok⟩
 cases m with
 | zero => exact ok.elim
 | succ m =>
  unfold xS at ok
  obtain ⟨j1, j2⟩ := jv i H ρ G f ab.hp
  cases q : vw G i with
  | none => rw [q] at ok; exact ok.elim
  | some od =>
   rw [q] at ok
   cases od with
   | none => exact .inl ⟨j1 q, ok σ H ρ .refl ab⟩
   | some d =>
    dsimp only at ok
    obtain ⟨jg, jy⟩ := j2 d q
    refine .inr ⟨jg, fun σ' H' => ∃ τ' ρ' G', Ab X.K X.mg σ' H' τ' ρ' G' ∧ fY X.K H0 H' ρ0 ρ' ∧ yX X.K X.mg EE H' ρ' Dd (xS g body vw m (i + 1) τ' G'), fun σ' H' z => ⟨m, Nat.lt_succ_self _, z⟩, fun x H' y => ?_⟩
    obtain ⟨⟨fN, hN⟩, rx⟩ := jy x H' y
    replace ok := yX.fut fN ok
    replace ab : Ab X.K X.mg σ H' τ ρ G := ab.fut fN (hN _ ab.hp)
    replace f := f.trans fN
    cases e : g d τ with
    | none => rw [e] at ok; exact ok.elim
    | some τ1 =>
     rw [e] at ok
     dsimp only at ok
     refine ⟨τ, ρ, G, d, τ1, ab, rx, e, fun σ' eu => ⟨τ1, ρ, G, eu, ?_⟩⟩
     cases eb : body τ1 G with
     | stuck => rw [eb] at ok; exact ok
     | nx τ2 G2 => rw [eb] at ok; exact fun σ2 H2 ρ2 f2 gf => ⟨τ2, ρ2, G2, gf, f.trans f2, ok.fut f2⟩
     | ct τ2 G2 => rw [eb] at ok; exact fun σ2 H2 ρ2 f2 gf => ⟨τ2, ρ2, G2, gf, f.trans f2, ok.fut f2⟩
     | bk τ2 G2 => rw [eb] at ok; exact ok
     | rt d G2 => rw [eb] at ok; exact ok
     | xn c τ2 G2 => rw [eb] at ok; exact ok
noncomputable def Cf (g : tG) (mi : MI) (body : MS) : MS := fun τ => fu (mi τ) (fun x G => xS g body x.2 x.1 0 τ G) fun c G => .xn c τ G
theorem K7 {body : List Stmt} (hp : PassesOwn (model X.prog X.w) X.A X.env X.xe) (hc : X.calm = true) (hi : QI X EE tg iter mi) (hg : QG X tg g) (hb : ER X EE body ms) (hs : pJ iter = true := by rfl) :
  QS X EE (.For tg iter body [] pos) (Cf g mi ms) := PS.mono (Dv hp hc hi hg hb (qB hs _)) fun Dd σ H h => by
 obtain ⟨τ, ρ, G, ab, ok⟩ := h
 refine ⟨τ, ρ, G, ab, ?_⟩
 dsimp only [Cf, fu] at ok
 cases e : mi τ G with
 | stuck => rw [e] at ok; exact ok
 | fR c G' => rw [e] at ok; exact fun H' ρ' f eu => ok σ H' ρ' f eu
 | ok x G' => rw [e] at ok; exact fun J H' ρ' f eu jv => IF jv eu (ok.fut f)
noncomputable def rB (gO : D → Option (List D)) (ks : List Bool) (tt : DS → M Bool) (te : DS → M D) (n : Nat) (vw : View) : Nat → Nat → DS → DH → Out D
 | 0, _, _, _ => .stuck
 | f + 1, i, τ, G => match vw G i with
  | none => .stuck
  | some none => .ok (.obj n) G
  | some (some d) => match fH gO ks tt te n d τ G with
   | .ok _ G' => rB gO ks tt te n vw f (i + 1) τ G'
   | .fR c G' => .fR c G'
   | .stuck => .stuck
variable {gO : D → Option (List D)} {ow : V → Hp → List V → Prop} {xs : List Str} {ks : List Bool} {tt : DS → M Bool} {te : DS → M D}
theorem GG (hO : rX X.K X.mg ow gO) {Q : VK} {J : It} {vw : View} {H0 : Hp} {σ : L2.St} {ρ0 : List Addr} {G0 : DH} {τ : DS} {fuel : Nat} (jv : JV X.K X.mg J vw H0 ρ0)
  (ab : Ab X.K X.mg σ H0 τ ρ0 G0) (ok : mO X.K X.mg EE H0 σ τ ρ0 (rB gO ks tt te G0.length vw fuel 0 τ (G0 ++ [.lst []])) Q) :
  ∀ D, H0 D = none → ∃ W : Nat → Nat → Hp → Prop, (∃ m, W 0 m (upd H0 D (.lst []))) ∧ ∀ i m H, W i m H →
   (J.stop i H ∧ Q (.ref D) H) ∨ (J.go i H ∧ ∀ x H', J.zB i H x H' → ∃ vs, ow x H' vs ∧ liftT X.K X.mg (yT EE σ) tt (vs.map some ++ mask ks σ) H' fun b H2 => if b = true then eV X.K X.mg (yT EE σ) te (vs.map some ++ mask ks σ) H2 fun v H3 => ∃ ys, H3 D = some (.lst ys) ∧ ys.length < sizeLine ∧ ∃ m', m' < m ∧ W (i + 1) m' (upd H3 D (.lst (ys ++ [v]))) else ∃ m', m' < m ∧ W (i + 1) m' H2) := by
 intro D hD
 have f0 : fY X.K H0 (upd H0 D (.lst [])) ρ0 (ρ0 ++ [D]) := (lT hD ρ0).trans (pG ρ0 D)
 have K3 : Ab X.K X.mg σ (upd H0 D (.lst [])) τ (ρ0 ++ [D]) (G0 ++ [.lst []]) := ab.fut f0 (ab.hp.more hD .nil)
 have hn0 : (ρ0 ++ [D])[G0.length]? = some D := by rw [← ab.hp.hl, cT]
 refine ⟨fun i m H => ∃ ρ G, Ab X.K X.mg σ H τ ρ G ∧ fY X.K H0 H ρ0 ρ ∧ ρ[G0.length]? = some D ∧ mO X.K X.mg EE H σ τ ρ (rB gO ks tt te G0.length vw m i τ G) Q,
  ⟨fuel, ρ0 ++ [D], _, K3, f0, hn0, ok.fut f0⟩, ?_⟩
 rintro i m H ⟨ρ, G, ab, f, hn, ok⟩
 cases m with
 | zero => exact ok.elim
 | succ m =>
  unfold rB at ok
  obtain ⟨j1, j2⟩ := jv i H ρ G f ab.hp
  cases q : vw G i with
  | none => rw [q] at ok; exact ok.elim
  | some od =>
   rw [q] at ok
   cases od with
   | none => exact .inl ⟨j1 q, ok _ H ρ .refl ab (by unfold Rep; exact ⟨D, rfl, hn⟩)⟩
   | some d =>
    dsimp only at ok
    obtain ⟨jg, jy⟩ := j2 d q
    refine .inr ⟨jg, fun x H' y => ?_⟩
    obtain ⟨⟨fN, hN⟩, rx⟩ := jy x H' y
    replace ok := mO.fut fN ok
    replace ab : Ab X.K X.mg σ H' τ ρ G := ab.fut fN (hN _ ab.hp)
    replace f := f.trans fN
    refine uY hO (W := fun H3 => ∃ m', m' < m + 1 ∧ ∃ ρ G, Ab X.K X.mg σ H3 τ ρ G ∧ fY X.K H0 H3 ρ0 ρ ∧ ρ[G0.length]? = some D ∧ mO X.K X.mg EE H3 σ τ ρ (rB gO ks tt te G0.length vw m' (i + 1) τ G) Q)
      ab rx hn ?_
    cases e : fH gO ks tt te G0.length d τ G with
    | stuck => rw [e] at ok; exact ok
    | fR c G' => rw [e] at ok; exact ok
    | ok _ G' =>
     rw [e] at ok
     exact fun H3 ρ3 f3 Ge => ⟨m, Nat.lt_succ_self _, ρ3, G', Ge, f.trans f3, f3.get hn, ok.fut f3⟩
noncomputable def pM (gO : D → Option (List D)) (ks : List Bool) (mi : MI) (tt : DS → M Bool) (te : DS → M D) : DS → M D := fun τ => (mi τ).bind fun x G => rB gO ks tt te G.length x.2 x.1 0 τ (G ++ [.lst []])
theorem D4 (hO : rX X.K X.mg ow gO) {σ : L2.St} {H : Hp} {Q : VK} (h : eV X.K X.mg EE (pM gO ks mi tt te) σ H Q) :
  B8 (L4 X.K X.mg EE mi) ks ow (liftT X.K X.mg (yT EE σ) tt) (eV X.K X.mg (yT EE σ) te) σ H Q := by
 obtain ⟨τ, ρ, G, ab, ok⟩ := h
 refine ⟨τ, ρ, G, ab, ?_⟩
 dsimp only [pM, M.bind] at ok
 cases e : mi τ G with
 | stuck => rw [e] at ok; exact ok
 | fR c G' => rw [e] at ok; exact ok
 | ok x G' => rw [e] at ok; exact fun J H' ρ' f eu jv => GG hO jv eu (ok.fut f)
variable {scope : Scope} {elt : Expr} {ifs : List Expr}
theorem IG (hx : mS X EE) (hst : fy X) (S : dP X.env.scope X.N scope xs ks) (how : Own X scope xs ks tg ow) (hO : rX X.K X.mg ow gO) (hc : X.calm = true) (ha : QI X EE tg iter mi) (hb : xN X scope xs ifs elt tt te) (hs : pJ iter = true := by rfl) :
  QE X EE (.ListComp elt [⟨tg, iter, ifs, 0⟩] scope pos) (pM gO ks mi tt te) := PE.mono (EY (tt := fun σ => liftT X.K X.mg (yT EE σ) tt) (te := fun σ => eV X.K X.mg (yT EE σ) te) hx hst S how hc ha (fun σ cl C pins s0 H0 fp E => hb cl C pins s0 H0 fp E _) (qB hs _)) fun _ _ _ h => D4 hO h
noncomputable def gP (i j : Nat) : tG := fun d τ => match d with
 | .tup [x, y] => some ((τ.set i (some x)).set j (some y))
 | _ => none
theorem K8 {x y : Str} {i j : Nat} {px py : Pos} {k : Nat} (hc : X.calm = true) (hN : X.N.Nodup) (hx : Loc X.env.scope x) (hy : Loc X.env.scope y) (hfx : X.fn x = true ∨ X.env.scope.names.lookup x = some .local) (Yy : X.fn y = true ∨ X.env.scope.names.lookup y = some .local) (hi : X.N[i]? = some x := by rfl) (hj : X.N[j]? = some y := by rfl) :
  QG X (.Tuple [.Name x px, .Name y py] k pos) (gP i j) := by
 intro pins s σ H v u Q I r ⟨τ, ρ, G, d, τ', ab, rd, e, q⟩
 refine MH (n := 2) hc (BO (Az hN hi hx hfx) (BO (Az hN hj hy Yy) Kc)) rfl rfl pins s σ H v u Q I r ?_
 cases d <;> try (cases e; done)
 rename_i ds
 match ds, e with
 | [d1, d2], e =>
  cases e
  unfold Rep at rd
  obtain ⟨a, vs, rfl, sq, rs⟩ := rd
  obtain ⟨v1, v2, rfl, r1, r2⟩ := LV rs
  exact ⟨a, [v1, v2], rfl, sq, rfl, v1, [v2], rfl, v2, [], rfl, rfl, q _ (Ab.set (Ab.set ab r1) r2)⟩
end
end L3
end
section
set_option Elab.async false
set_option linter.all false
set_option maxRecDepth 100000
namespace L3
open PySem PySem.Spec L2
theorem lz {n : Nat} (h : n ≤ 2000000) : n ≤ sizeLine := by rw [sizeLine_eq]; omega
theorem zb (A : DH) (x : DO) (B : DH) : (A ++ x :: B)[A.length]? = some x := by simp
theorem J2 (A : DH) (x y : DO) (B : DH) : (A ++ x :: y :: B)[A.length + 1]? = some y := by
 rw [List.getElem?_append_right (by omega)]; simp
theorem E6 (A : DH) (x y : DO) (B : DH) : (A ++ x :: B).set A.length y = A ++ y :: B := by
 rw [List.set_append_right _ _ (Nat.le_refl _)]; simp
theorem Ul (A : DH) (x y z : DO) (B : DH) : (A ++ x :: y :: B).set (A.length + 1) z = A ++ x :: z :: B := by
 rw [List.set_append_right _ _ (by omega)]; simp
theorem u6 {G E : DH} {n : Nat} {o : DO} (h : G[n]? = some o) : (G ++ E)[n]? = some o := by
 rw [List.getElem?_append_left (List.getElem?_eq_some_iff.mp h).1]; exact h
theorem cW (g : Bool) (i j : Int) (G : DH) : g7 g (.int i) (.int j) G = .ok (.bl (g ^^ (i == j))) G := by
 simp [g7, BU, oV, PyData.canLay0, PyData.depth, PyData.eqv]
theorem gb (g : Bool) (a b : Str) (G : DH) (ha : PyData.strOk a = true) (hb : PyData.strOk b = true) : g7 g (.str a) (.str b) G = .ok (.bl (g ^^ (a == b))) G := by
 simp [g7, BU, oV, PyData.canLay0, PyData.depth, PyData.eqv, ha, hb]
theorem vK (G : DH) : ∀ ws : List Str, fT (oV G deep) (ws.map D.str) = some (ws.map PyData.str)
 | [] => rfl
 | w :: ws => by
  have ih := vK G ws
  simp only [List.map_cons, fT, ih]
  rfl
theorem mU (t : Str) (ws : List Str) (G : DH) (h : PyData.strOk t = true) (hw : PyData.canLayAll0 (ws.map PyData.str) = true) : LS (.str t) (ws.map D.str) G = some (ws.any (· == t)) := by
 have e1 : oV G deep (.str t) = some (.str t) := rfl
 unfold LS
 rw [e1, vK]
 dsimp only
 have c1 : (PyData.str t).canLay0 = true := by simpa [PyData.canLay0] using h
 have c3 : min (PyData.depthAll (ws.map PyData.str)) (PyData.str t).depth ≤ 580 := by
  have : (PyData.str t).depth ≤ 580 := by simp [PyData.depth]
  omega
 rw [if_pos (by rw [c1, hw]; simpa using c3)]
 simp only [List.any_map]
 congr 1
theorem K9 (a b : Str) : (a ++ b).length = a.length + b.length := by
 show (a.cps ++ b.cps).size = a.cps.size + b.cps.size
 simp
theorem Cg {α : Type} {xs : List α} {i : Int} (h0 : 0 ≤ i) (h1 : i < xs.length) : ∃ v, j8 xs i = some v ∧ xs[i.toNat]? = some v := by
 have hi : i.toNat < xs.length := by omega
 refine ⟨xs[i.toNat], ?_, List.getElem?_eq_getElem hi⟩
 have := tw (xs := xs) (j := i.toNat) (v := xs[i.toNat]) (List.getElem?_eq_getElem hi)
 rwa [show ((i.toNat : Nat) : Int) = i by omega] at this
theorem qD {j : Int} (h0 : 0 ≤ j) (h1 : j < 100000) : mR [.int j] = some ((List.range' 0 j.toNat).map fun (k : Nat) => .int (0 + (k : Int))) := by
 show (if -(2 ^ 62) ≤ j ∧ j < 2 ^ 62 then some ((List.range j.toNat).map fun (k : Nat) => D.int (0 + (k : Int))) else none) = _
 rw [if_pos ⟨by omega, by omega⟩, List.range_eq_range']
end L3
end
section
set_option Elab.async false
set_option linter.all false
set_option maxRecDepth 100000
namespace L3
open PySem PySem.Spec L2
noncomputable def Res.sq (r : Res) (k : MS) : Res := match r with
 | .nx τ G => k τ G
 | r => r
noncomputable def Out.cs (r : Out Bool) (a b : MS) (τ : DS) : Res := match r with
 | .stuck => .stuck
 | .ok c G => if c = true then a τ G else b τ G
 | .fR c G => .xn c τ G
noncomputable def Out.st (r : Out D) (i : Nat) (τ : DS) : Res := match r with
 | .stuck => .stuck
 | .ok d G => .nx (τ.set i (some d)) G
 | .fR c G => .xn c τ G
noncomputable def Out.xp (r : Out D) (τ : DS) : Res := match r with
 | .stuck => .stuck
 | .ok d G => .nx τ G
 | .fR c G => .xn c τ G
noncomputable def Out.rn (r : Out D) (τ : DS) : Res := match r with
 | .stuck => .stuck
 | .ok d G => .rt d G
 | .fR c G => .xn c τ G
noncomputable def Out.bd {α β : Type} (r : Out α) (k : α → M β) : Out β := match r with
 | .stuck => .stuck
 | .ok a G => k a G
 | .fR c G => .fR c G
noncomputable def Out.sb {α : Type} (r : Out α) (τ : DS) (k : α → DH → Res) : Res := match r with
 | .stuck => .stuck
 | .ok a G => k a G
 | .fR c G => .xn c τ G
noncomputable def Res.fn (r : Res) : Out D := match r with
 | .stuck => .stuck
 | .nx _ G' => .ok .kr G'
 | .rt d G' => .ok d G'
 | .bk _ _ => .stuck
 | .ct _ _ => .stuck
 | .xn c _ G' => .fR c G'
noncomputable def Res.lp (r : Res) (k : MS) : Res := match r with
 | .nx τ G => k τ G
 | .ct τ G => k τ G
 | .bk τ G => .nx τ G
 | r => r
noncomputable def Um (m k : MS) : MS := fun τ G => (m τ G).lp k
section
variable {m k : MS} {t ta tb : DS → M Bool} {a b : MS} {τ : DS} {G : DH} {e ma mb mo : DS → M D} {i n : Nat} {d : D} {c : XD} {α β : Type} {ml : DS → M (List D)} {f : D → D → M D} {fl : List D → M D}
theorem cZ : bq m k τ G = (m τ G).sq k := by
 unfold bq Res.sq
 cases m τ G <;> rfl
theorem gg : (Res.nx τ G).sq k = k τ G := Eq.trans rfl rfl
theorem zV : (Res.rt d G).sq k = .rt d G := Eq.trans rfl rfl
theorem rC : jw t a b τ G = (t τ G).cs a b τ := by
 unfold jw fu Out.cs
 cases t τ G <;> rfl
theorem zc : (Out.ok true G).cs a b τ = a τ G := Eq.trans rfl rfl
theorem GH : (Out.ok false G).cs a b τ = b τ G := Eq.trans rfl rfl
theorem kg : bT i e τ G = (e τ G).st i τ := by
 unfold bT fu Out.st
 cases e τ G <;> rfl
theorem oH : (Out.ok d G).st i τ = .nx (τ.set i (some d)) G := Eq.trans rfl rfl
theorem AY : mQ e τ G = (e τ G).xp τ := by
 unfold mQ fu Out.xp
 cases e τ G <;> rfl
theorem II : (Out.ok d G).xp τ = .nx τ G := Eq.trans rfl rfl
theorem xT : dF e τ G = (e τ G).rn τ := by
 unfold dF fu Out.rn
 cases e τ G <;> rfl
theorem Ci : (Out.ok d G).rn τ = .rt d G := Eq.trans rfl rfl
theorem tM : bJ τ G = .nx τ G := Eq.trans rfl rfl
theorem iD {x : α} {q : α → M β} : (Out.ok x G).bd q = q x G := Eq.trans rfl rfl
theorem bR {mm : M α} {q : α → M β} : M.bind mm q G = (mm G).bd q := by
 unfold M.bind Out.bd
 cases mm G <;> rfl
theorem kX {x : α} : M.ret x G = .ok x G := Eq.trans rfl rfl
theorem iR : ai i τ G = match τ[i]? with
 | some (some d) => .ok d G
 | _ => .stuck := Eq.trans rfl rfl
theorem r9 : eC d τ G = .ok d G := Eq.trans rfl rfl
theorem pN : aC f ma mb τ G = (ma τ G).bd fun x => (mb τ).bind fun y => f x y := bR
theorem qE : aA fl ml τ G = (ml τ G).bd fl := bR
theorem iS : aq τ G = .ok [] G := Eq.trans rfl rfl
theorem iN : af ma ml τ G = (ma τ G).bd fun x => (ml τ).bind fun xs => M.ret (x :: xs) := bR
noncomputable def Qh : D → M Bool
 | .bl b => M.ret b
 | _ => M.stop
theorem Cj : gn e τ G = (e τ G).bd Qh := by
 unfold gn
 rw [bR]
 unfold Out.bd
 cases e τ G <;> try rfl
theorem xU {b : Bool} : Qh (.bl b) G = .ok b G := Eq.trans rfl rfl
theorem Ck {q : D → M Bool} : nA q e τ G = (e τ G).bd q := bR
theorem E7 : EU t τ G = (t τ G).bd fun c => M.ret (!c) := bR
theorem IJ : rR ta tb τ G = (ta τ G).bd fun c => if c = true then M.ret true else tb τ := bR
theorem E8 : tF ta tb τ G = (ta τ G).bd fun c => if c = true then tb τ else M.ret false := bR
theorem IK {y : Ty} : DL y e τ G = (e τ G).bd (B0 y) := bR
theorem w6 {mf : List D → M D} : aV n mf ml τ G = (ml τ G).bd fun ds => if ds.length = n then mf ds else M.stop := bR
theorem jV {T : String} {g : D → List D → M D} : ck T g mo ml τ G = (mo τ G).bd fun d G => if iE T G d = true then (ml τ G).bd (g d) else .stuck := by
 unfold ck
 rw [bR]
 unfold Out.bd
 cases mo τ G with
 | stuck => rfl
 | fR c G => rfl
 | ok d G' => simp only [bR]; rfl
theorem qF {FN : List D → Option (List D)} {g : tG} {body : MS} : jN FN g ml body τ G = (ml τ G).sb τ fun ds G => match FN ds with
  | some xs => fq g body xs τ G
  | none => .stuck := by
 unfold jN fu Out.sb
 cases ml τ G <;> rfl
theorem Cm {g : tG} {body : MS} : uV g e body τ G = (e τ G).sb τ fun d G => match d with
  | .obj n => match G[n]? with
   | some (.lst xs) => AN g body n (xs.length + 1) 0 τ G
   | _ => .stuck
  | .tup xs => fq g body xs τ G
  | .con xs => fq g body xs τ G
  | .str z => fq g body (z.cps.toList.map fun c => .str ⟨#[c]⟩) τ G
  | _ => .stuck := by
 unfold uV fu Out.sb
 cases e τ G <;> rfl
theorem E9 {g : tG} {mi : MI} {body : MS} : Cf g mi body τ G = (mi τ G).sb τ fun x G => xS g body x.2 x.1 0 τ G := by
 unfold Cf fu Out.sb
 cases mi τ G <;> rfl
theorem Fb {x : α} {q : α → DH → Res} : (Out.ok x G).sb τ q = q x G := Eq.trans rfl rfl
theorem Fc {gO : D → Option (List D)} {ks : List Bool} {tt : DS → M Bool} {te : DS → M D} : oG gO ks e tt te τ G = (e τ G).bd fun d G => match d with
  | .obj k => match G[k]? with
   | some (.lst xs) => vJ gO ks tt te G.length k (xs.length + 1) 0 τ (G ++ [.lst []])
   | _ => .stuck
  | .tup xs => e9 gO ks tt te G.length xs τ (G ++ [.lst []])
  | .con xs => e9 gO ks tt te G.length xs τ (G ++ [.lst []])
  | .str z => e9 gO ks tt te G.length (z.cps.toList.map fun c => .str ⟨#[c]⟩) τ (G ++ [.lst []])
  | _ => .stuck := bR
theorem Cn {FN : List D → Option (List D)} {gO : D → Option (List D)} {ks : List Bool} {tt : DS → M Bool} {te : DS → M D} : xM FN gO ks ml tt te τ G = (ml τ G).bd fun ds G => match FN ds with
  | some xs => e9 gO ks tt te G.length xs τ (G ++ [.lst []])
  | none => .stuck := bR
theorem xV {gO : D → Option (List D)} {ks : List Bool} {mi : MI} {tt : DS → M Bool} {te : DS → M D} : pM gO ks mi tt te τ G = (mi τ G).bd fun x G => rB gO ks tt te G.length x.2 x.1 0 τ (G ++ [.lst []]) := bR
theorem u7 {ds : List D} : cH n m ds G = (m (ds.map some ++ List.replicate (n - ds.length) none) G).fn := by
 unfold cH Res.fn
 cases m (ds.map some ++ List.replicate (n - ds.length) none) G <;> rfl
theorem Fd : (Res.rt d G).fn = .ok d G := Eq.trans rfl rfl
theorem L5 {lo hi : DS → M (Option Int)} : DK e lo hi τ G = (e τ G).bd fun d => (lo τ).bind fun l => (hi τ).bind fun h => yS d l h := bR
theorem Fe : vH τ G = .ok none G := Eq.trans rfl rfl
noncomputable def L6 : D → M (Option Int)
 | .int i => M.ret (some i)
 | _ => M.stop
theorem Ff : iC e τ G = (e τ G).bd L6 := by
 unfold iC
 rw [bR]
 unfold Out.bd
 cases e τ G <;> try rfl
theorem Fg {i : Int} : L6 (.int i) G = .ok (some i) G := Eq.trans rfl rfl
noncomputable def Qi : D → M D
 | .int i => M.ret (.int (-i))
 | _ => M.stop
theorem IL : HZ e τ G = (e τ G).bd Qi := by
 unfold HZ
 rw [bR]
 unfold Out.bd
 cases e τ G <;> try rfl
theorem IM {i : Int} : Qi (.int i) G = .ok (.int (-i)) G := Eq.trans rfl rfl
theorem Co {BI : Str → Option (List D → M D)} : r8 i n BI ml τ G = match τ[i]? with
 | some (some (.fn y)) => match BI y with
  | some mf => aV n mf ml τ G
  | none => .stuck
 | _ => .stuck := Eq.trans rfl rfl
theorem IP : Um m k τ G = (m τ G).lp k := Eq.trans rfl rfl
theorem mV : (Res.nx τ G).lp k = k τ G := Eq.trans rfl rfl
theorem tN : je t m (n + 1) τ G = (t τ G).cs (Um m (je t m n)) bJ τ := by
 rw [je]
 unfold fu Out.cs
 dsimp only
 cases t τ G with
 | stuck => rfl
 | fR c G => rfl
 | ok b G' =>
  cases b with
  | false => rfl
  | true =>
   simp only [if_true]
   unfold Um Res.lp
   cases m τ G' <;> rfl
theorem Cp {g : tG} {body : MS} : fq g body [] τ G = .nx τ G := Eq.trans rfl rfl
theorem gG {g : tG} {body : MS} {x : D} {r : List D} {τ1 : DS} (h : g x τ = some τ1) : fq g body (x :: r) τ G = (body τ1 G).lp (fq g body r) := by
 rw [fq, h]
 dsimp only
 unfold Res.lp
 cases body τ1 G <;> rfl
end
end L3
end
section
set_option Elab.async false
set_option linter.all false
set_option maxRecDepth 100000
namespace L3
open PySem PySem.Spec L2
noncomputable def av (l : List Nat) : Str := ⟨l.toArray⟩
theorem gU (l : List Nat) : (av l).cps.toList = l := by simp [av]
theorem IQ (s : Str) : av s.cps.toList = s := by cases s; simp [av]
theorem tO {a b : Str} (h : a.cps.toList = b.cps.toList) : a = b := by rw [← IQ a, ← IQ b, h]
noncomputable def bV (c : Nat) : List Nat → List (List Nat)
 | [] => [[]]
 | x :: xs => if x = c then [] :: bV c xs else match bV c xs with
  | p :: ps => (x :: p) :: ps
  | [] => [[x]]
noncomputable def cK (s : List Nat) : List (List Nat) → List Nat
 | [] => []
 | [p] => p
 | p :: q :: ps => p ++ s ++ cK s (q :: ps)
noncomputable def rp (c : Nat) (s : List Nat) (l : List Nat) : List Nat := l.flatMap fun x => if x = c then s else [x]
theorem u9 (c : Nat) : ∀ l, bV c l ≠ []
 | [] => by simp [bV]
 | x :: xs => by
  unfold bV
  split
  ·simp
  ·split <;> simp
theorem pO (c : Nat) : ∀ l, c ∉ l → bV c l = [l]
 | [], _ => rfl
 | x :: xs, h => by
  have h1 : ¬ x = c := fun e => h (by simp [e])
  rw [bV, if_neg h1, pO c xs fun z => h (by simp [z])]
theorem iT (c : Nat) : ∀ p l, bV c (p ++ c :: l) = bV c p ++ bV c l
 | [], l => by simp [bV]
 | x :: xs, l => by
  rw [List.cons_append, bV, bV, iT c xs l]
  by_cases h : x = c
  ·rw [if_pos h, if_pos h]; rfl
  ·rw [if_neg h, if_neg h]
   cases e : bV c xs with
   | nil => exact absurd e (u9 c xs)
   | cons q qs => rfl
theorem tP (c : Nat) : ∀ ps : List (List Nat), ps ≠ [] → bV c (cK [c] ps) = ps.flatMap (bV c)
 | [], h => absurd rfl h
 | [p], _ => by simp [cK]
 | p :: q :: ps, _ => by
  rw [cK, List.append_assoc, List.singleton_append, iT, tP c (q :: ps) (by simp)]
  simp
theorem xW (c : Nat) (ps : List (List Nat)) (hn : ps ≠ []) (h : ∀ p ∈ ps, c ∉ p) : bV c (cK [c] ps) = ps := by
 rw [tP c ps hn]
 clear hn
 induction ps with
 | nil => rfl
 | cons p ps ih => rw [List.flatMap_cons, pO c p (h p (by simp)), ih fun q hq => h q (by simp [hq])]; rfl
theorem tQ (c : Nat) (s : List Nat) : ∀ l, cK s (bV c l) = rp c s l
 | [] => rfl
 | x :: xs => by
  have ih := tQ c s xs
  unfold bV rp
  rw [List.flatMap_cons]
  by_cases h : x = c
  ·rw [if_pos h, if_pos h]
   cases e : bV c xs with
   | nil => exact absurd e (u9 c xs)
   | cons q qs => rw [e] at ih; rw [cK, ih]; rfl
  ·rw [if_neg h, if_neg h]
   cases e : bV c xs with
   | nil => exact absurd e (u9 c xs)
   | cons q qs =>
    rw [e] at ih
    cases qs with
    | nil => rw [cK] at ih ⊢; rw [ih]; rfl
    | cons r rs => rw [cK] at ih ⊢; rw [List.cons_append, List.cons_append, ih]; rfl
theorem mC (y : Str) : ∀ ps : List Str, (y.join ps).cps.toList = cK y.cps.toList (ps.map fun p => p.cps.toList)
 | [] => by
  rw [← StrLaws.glued_eq_join]
  simp [Builtin.Str.glued, cK, Str.empty]
 | p :: ps => by
  rw [← StrLaws.glued_eq_join]
  have key : ∀ (ps : List Str) (a : Array Nat), (List.foldl (fun acc (p : Str) => acc ++ y.cps ++ p.cps) a ps).toList = cK y.cps.toList (a.toList :: ps.map fun p => p.cps.toList) := by
   intro ps
   induction ps with
   | nil => intro a; simp [cK]
   | cons q qs ih =>
    intro a
    rw [List.foldl_cons, ih]
    cases qs with
    | nil => simp [cK]
    | cons r rs => simp [cK]
  simpa [Builtin.Str.glued] using key ps p.cps
theorem IS (x : Str) (c : Nat) : Txt.split x ⟨#[c]⟩ ≠ [] := by
 unfold Txt.split
 split
 ·simp
 ·split
  ·simp
  ·rw [StrLaws.partsBetween_eq]
   obtain ⟨p, r, e⟩ := StrLaws.partsFrom_ne x (Str.mk #[c]).length 0 (Builtin.Str.occurrences x ⟨#[c]⟩ 0 x.length (x.length + 1))
   rw [e]; simp
theorem Fi (x : Str) (c : Nat) : (Txt.split x ⟨#[c]⟩).map (fun p => p.cps.toList) = bV c x.cps.toList := by
 have h1 := congrArg (fun s : Str => s.cps.toList) (StrLaws.join_split x ⟨#[c]⟩)
 rw [mC] at h1
 rw [← h1]
 refine (xW c _ (by simp [IS]) fun p hp => ?_).symm
 obtain ⟨q, hq, rfl⟩ := List.mem_map.mp hp
 exact StrLaws.split_free x c q hq
theorem IT (x : Str) (c : Nat) : Txt.split x ⟨#[c]⟩ = (bV c x.cps.toList).map av := by
 rw [← Fi, List.map_map]
 conv => lhs; rw [← List.map_id (Txt.split x ⟨#[c]⟩)]
 exact List.map_congr_left fun p _ => (IQ p).symm
theorem kO (x z : Str) (c : Nat) : (Txt.replace x ⟨#[c]⟩ z).cps.toList = rp c z.cps.toList x.cps.toList := by
 rw [StrLaws.replace_one, mC, Fi, tQ]
noncomputable def Uo (t : Str) : List Nat := rp 41 [32, 41, 32] (rp 40 [32, 40, 32] t.cps.toList)
end L3
end
section
set_option Elab.async false
set_option linter.all false
set_option maxRecDepth 100000
namespace L3
open PySem PySem.Spec L2
section
variable {m k mb me : MS} {τ : DS} {G : DH} {e : DS → M D} {c : XD} {x : Str} {ml : DS → M (List D)} {d : D}
theorem L7 {f : D → M D} : NN f e τ G = (e τ G).bd f := bR
noncomputable def Res.tr (r : Res) (mh : XD → MS) (me : MS) : Res := match r with
 | .nx τ' G' => me τ' G'
 | .xn c τ' G' => mh c τ' G'
 | r => r
end
end L3
end
section
set_option Elab.async false
set_option linter.all false
set_option maxRecDepth 100000
namespace L3
open PySem PySem.Spec L2
mutual
noncomputable def D.closed : D → Bool
 | .tup ds => bx ds
 | .con ds => bx ds
 | .obj _ => false
 | .zM _ _ => false
 | _ => true
noncomputable def bx : List D → Bool
 | [] => true
 | d :: r => d.closed && bx r
end
mutual
noncomputable def D.beq : D → D → Bool
 | .kr, .kr => true
 | .bl a, .bl b => a == b
 | .int a, .int b => a == b
 | .str a, .str b => a == b
 | .tup a, .tup b => vc a b
 | .con a, .con b => vc a b
 | .obj a, .obj b => a == b
 | .fn a, .fn b => a == b
 | .zM a x, .zM b y => a == b && vc x y
 | _, _ => false
noncomputable def vc : List D → List D → Bool
 | [], [] => true
 | a :: r, b :: q => a.beq b && vc r q
 | _, _ => false
end
noncomputable def AZ : List (Key × D) → List (Key × D) → Bool
 | [], [] => true
 | a :: r, b :: q => decide (a.1 = b.1) && a.2.beq b.2 && AZ r q
 | _, _ => false
noncomputable def DO.beq : DO → DO → Bool
 | .lst a, .lst b => vc a b
 | .dead, .dead => true
 | .dct a, .dct b => AZ a b
 | _, _ => false
noncomputable def oW : DH → DH → Bool
 | [], [] => true
 | a :: r, b :: q => a.beq b && oW r q
 | _, _ => false
mutual
theorem D.beq_eq : ∀ (a b : D), a.beq b = true → a = b
 | .kr, b, h => by cases b <;> simp_all [D.beq]
 | .bl a, b, h => by cases b <;> simp_all [D.beq]
 | .int a, b, h => by cases b <;> simp_all [D.beq]
 | .str a, b, h => by cases b <;> simp_all [D.beq]
 | .tup a, b, h => by
  cases b <;> try (simp [D.beq] at h; done)
  rename_i y
  rw [tR a y (by simpa [D.beq] using h)]
 | .con a, b, h => by
  cases b <;> try (simp [D.beq] at h; done)
  rename_i y
  rw [tR a y (by simpa [D.beq] using h)]
 | .obj a, b, h => by cases b <;> simp_all [D.beq]
 | .fn a, b, h => by cases b <;> simp_all [D.beq]
 | .zM c x, b, h => by
  cases b <;> try (simp [D.beq] at h; done)
  rename_i d y
  have h' : c = d ∧ vc x y = true := by simpa [D.beq] using h
  rw [h'.1, tR x y h'.2]
theorem tR : ∀ (a b : List D), vc a b = true → a = b
 | [], b, h => by cases b <;> simp_all [vc]
 | x :: r, b, h => by
  cases b with
  | nil => simp [vc] at h
  | cons y q =>
   have h' : x.beq y = true ∧ vc r q = true := by simpa [vc] using h
   rw [D.beq_eq x y h'.1, tR r q h'.2]
end
mutual
theorem D.Cq : ∀ (a : D), a.beq a = true
 | .kr => rfl
 | .bl a => by simp [D.beq]
 | .int a => by simp [D.beq]
 | .str a => by simp [D.beq]
 | .tup a => by simp [D.beq, mW a]
 | .con a => by simp [D.beq, mW a]
 | .obj a => by simp [D.beq]
 | .fn a => by simp [D.beq]
 | .zM c x => by simp [D.beq, mW x]
theorem mW : ∀ (a : List D), vc a a = true
 | [] => rfl
 | x :: r => by simp [vc, D.Cq x, mW r]
end
theorem zW : ∀ (a : List (Key × D)), AZ a a = true
 | [] => rfl
 | x :: r => by simp [AZ, D.Cq x.2, zW r]
theorem Fj : ∀ (a b : List (Key × D)), AZ a b = true → a = b
 | [], b, h => by cases b <;> simp_all [AZ]
 | x :: r, b, h => by
  cases b with
  | nil => simp [AZ] at h
  | cons y q =>
   have h' : (x.1 = y.1 ∧ x.2.beq y.2 = true) ∧ AZ r q = true := by simpa [AZ] using h
   rw [Fj r q h'.2, Prod.ext h'.1.1 (D.beq_eq _ _ h'.1.2)]
theorem mX : ∀ (a : DH), oW a a = true
 | [] => rfl
 | x :: r => by
  cases x with
  | lst a => simp [oW, DO.beq, mW a, mX r]
  | dead => simp [oW, DO.beq, mX r]
  | dct kv => simp [oW, DO.beq, zW kv, mX r]
theorem tS : ∀ (a b : DH), oW a b = true → a = b
 | [], b, h => by cases b <;> simp_all [oW]
 | x :: r, b, h => by
  cases b with
  | nil => simp [oW] at h
  | cons y q =>
   have h' : x.beq y = true ∧ oW r q = true := by simpa [oW] using h
   rw [tS r q h'.2]
   congr 1
   cases x with
   | lst u =>
    cases y with
    | lst v => rw [tR u v (by simpa [DO.beq] using h'.1)]
    | dead => simp [DO.beq] at h'
    | dct kv => simp [DO.beq] at h'
   | dead =>
    cases y with
    | lst v => simp [DO.beq] at h'
    | dead => rfl
    | dct kv => simp [DO.beq] at h'
   | dct kv =>
    cases y with
    | lst v => simp [DO.beq] at h'
    | dead => simp [DO.beq] at h'
    | dct v => rw [Fj kv v (by simpa [DO.beq] using h'.1)]
section
variable {K : PySem.W.Frag} {mg : Str → Option Value} {H H' : Hp} {ρ ρ' : List Addr} {G G' : DH}
mutual
theorem xX : ∀ (d : D) (v : V), d.closed = true → Rep K mg ρ H d v → Rep K mg ρ' H d v
 | .kr, v, c, h => by unfold Rep at h ⊢; exact h
 | .bl b, v, c, h => by unfold Rep at h ⊢; exact h
 | .int i, v, c, h => by unfold Rep at h ⊢; exact h
 | .str x, v, c, h => by unfold Rep at h ⊢; exact h
 | .tup ds, v, c, h => by
  unfold Rep at h ⊢
  obtain ⟨a, xs, e, s, r⟩ := h
  exact ⟨a, xs, e, s, jW ds xs (by simpa [D.closed] using c) r⟩
 | .con ds, v, c, h => by
  unfold Rep at h ⊢
  obtain ⟨a, xs, e, s, r⟩ := h
  exact ⟨a, xs, e, s, jW ds xs (by simpa [D.closed] using c) r⟩
 | .obj n, v, c, h => by simp [D.closed] at c
 | .fn x, v, c, h => by unfold Rep at h ⊢; exact h
 | .zM _ _, v, c, h => by simp [D.closed] at c
theorem jW : ∀ (ds : List D) (vs : List V), bx ds = true → aG K mg ρ H ds vs → aG K mg ρ' H ds vs
 | [], vs, c, h => by unfold aG at h ⊢; exact h
 | d :: ds, vs, c, h => by
  have c' : d.closed = true ∧ bx ds = true := by simpa [bx] using c
  unfold aG at h ⊢
  obtain ⟨v, r, e, h1, h2⟩ := h
  exact ⟨v, r, e, xX d v c'.1 h1, jW ds r c'.2 h2⟩
end
mutual
theorem Rep.back (p : ∃ r, ρ' = ρ ++ r) : ∀ (d : D) (v0 v : V), Rep K mg ρ H d v0 → Rep K mg ρ' H' d v → Rep K mg ρ H' d v
 | .kr, v0, v, h0, h => by unfold Rep at h ⊢; exact h
 | .bl b, v0, v, h0, h => by unfold Rep at h ⊢; exact h
 | .int i, v0, v, h0, h => by unfold Rep at h ⊢; exact h
 | .str x, v0, v, h0, h => by unfold Rep at h ⊢; exact h
 | .tup ds, v0, v, h0, h => by
  unfold Rep at h0 h ⊢
  obtain ⟨a, xs, e, s, r⟩ := h
  obtain ⟨a0, NP, e0, s0, r0⟩ := h0
  exact ⟨a, xs, e, s, aG.back p ds NP xs r0 r⟩
 | .con ds, v0, v, h0, h => by
  unfold Rep at h0 h ⊢
  obtain ⟨a, xs, e, s, r⟩ := h
  obtain ⟨a0, NP, e0, s0, r0⟩ := h0
  exact ⟨a, xs, e, s, aG.back p ds NP xs r0 r⟩
 | .obj n, v0, v, h0, h => by
  unfold Rep at h0 h ⊢
  obtain ⟨a, e, q⟩ := h
  obtain ⟨a0, e0, q0⟩ := h0
  obtain ⟨r, rfl⟩ := p
  rw [List.getElem?_append_left (List.getElem?_eq_some_iff.mp q0).1] at q
  exact ⟨a, e, q⟩
 | .fn x, v0, v, h0, h => by unfold Rep at h ⊢; exact h
 | .zM c as, v0, v, h0, h => by unfold Rep at h ⊢; exact h
theorem aG.back (p : ∃ r, ρ' = ρ ++ r) : ∀ (ds : List D) (Up vs : List V), aG K mg ρ H ds Up → aG K mg ρ' H' ds vs → aG K mg ρ H' ds vs
 | [], Up, vs, h0, h => by unfold aG at h ⊢; exact h
 | d :: ds, Up, vs, h0, h => by
  unfold aG at h0 h ⊢
  obtain ⟨v, r, e, h1, h2⟩ := h
  obtain ⟨v0, r0, e0, NG, Wi⟩ := h0
  exact ⟨v, r, e, Rep.back p d v0 v NG h1, aG.back p ds r0 r Wi h2⟩
end
theorem lO.cut (h : lO K mg H ρ G) (p : ∃ r, ρ' = ρ ++ r) (h' : lO K mg H' ρ' G') (e : G'.take G.length = G) : lO K mg H' ρ G := by
 refine ⟨h.hl, h.nd, fun n o q => ?_⟩
 have hn : n < G.length := (List.getElem?_eq_some_iff.mp q).1
 have q' : G'[n]? = some o := by
  rw [← e, List.getElem?_take] at q
  rw [if_pos hn] at q; exact q
 obtain ⟨a0, e0, r0⟩ := h.ob n o q
 obtain ⟨a, e1, r1⟩ := h'.ob n o q'
 have ea : a = a0 := by
  obtain ⟨r, rfl⟩ := p
  rw [List.getElem?_append_left (by rw [h.hl]; exact hn), e0] at e1
  exact (Option.some.inj e1).symm
 subst ea
 refine ⟨a, e0, ?_⟩
 cases o with
 | dead => exact r1
 | dct kv =>
  obtain ⟨xs, e2, rs⟩ := r1
  obtain ⟨NP, _, Uq⟩ := r0
  exact ⟨xs, e2, aG.back p _ NP xs Uq rs⟩
 | lst ds =>
  obtain ⟨xs, e2, rs⟩ := r1
  obtain ⟨NP, _, Uq⟩ := r0
  exact ⟨xs, e2, aG.back p ds NP xs Uq rs⟩
theorem w9 {a : Addr} {o : Obj} {xs : List V} (e : H a = some (.lst xs)) (ρ : List Addr) : fY K H (upd H a (.oE o (.lst xs))) ρ ρ := by
 refine ⟨fun b zs h => ?_, fun b zs h => ?_, ⟨[], by simp⟩, fun b φ h => by rw [bL (mP h e (by intro z; cases z))]; exact h⟩
 ·rcases h with (h | ⟨q, h⟩) | h
  ·exact .inl (.inl (by rw [bL (mP h e (by intro z; cases z))]; exact h))
  ·exact .inl (.inr ⟨q, by rw [bL (mP h e (by intro z; cases z))]; exact h⟩)
  ·exact .inr h
 ·rcases h with ⟨q, h⟩ | h
  ·exact .inl ⟨q, by rw [bL (mP h e (by intro z; cases z))]; exact h⟩
  ·exact .inr h
theorem lO.oE {n : Nat} {a : Addr} {o : Obj} {xs : List V} (h : lO K mg H ρ G) (hn : ρ[n]? = some a) (e : H a = some (.lst xs)) : lO K mg (upd H a (.oE o (.lst xs))) ρ (G.set n .dead) := by
 have f : fY K H (upd H a (.oE o (.lst xs))) ρ ρ := w9 e ρ
 refine ⟨by simp [h.hl], h.nd, fun m ob q => ?_⟩
 by_cases hm : n = m
 ·subst hm
  rw [List.getElem?_set, if_pos rfl] at q
  split at q
  ·cases q
   exact ⟨a, hn, _, gB⟩
  ·cases q
 ·rw [List.getElem?_set_ne hm] at q
  obtain ⟨b, e1, r'⟩ := h.ob m ob q
  have hb : b ≠ a := by
   rintro rfl
   obtain ⟨h1, JY⟩ := List.getElem?_eq_some_iff.mp hn
   obtain ⟨h2, JZ⟩ := List.getElem?_eq_some_iff.mp e1
   exact hm ((List.getElem_inj h.nd).mp (JY.trans JZ.symm))
  exact ⟨b, e1, r'.mono f fun u q => by rw [bL hb]; exact q⟩
end
section
variable {X : Cx} {EE : gK}
theorem Fl {pins : List (Addr × Obj)} {σ : L2.St} {H : Hp} {s : Shared} {a : Addr} {xs : List V} (I : Inv X pins σ H s) (e : H a = some (.lst xs)) : ∃ o, Inv X pins σ (upd H a (.oE o (.lst xs))) s := by
 obtain ⟨z, its, n, r, hg⟩ := I.hok a _ e
 refine ⟨_, I.un (H' := upd H a (.oE { cls := .type "list", data := .seq its.toArray n } (.lst xs))) (h' := s.heap) (t' := s.toks) ⟨fun b o q _ _ _ => q, fun b o q _ _ _ => ⟨o.slots, q⟩, fun b o q hn _ => ?_, fun b o q _ => ⟨o, q⟩, fun b ys q => ?_, fun b o u q => ?_, fun b ps q => ⟨#[], ?_⟩⟩ fun b u q => ?_⟩
 ·rw [bL (by rintro rfl; rw [e] at hn; cases hn)]; exact hn
 ·rw [bL (mP q e (by intro z; cases z))]; exact q
 ·rw [bL (mP q e (by intro z; cases z))]; exact q
 ·rw [bL (mP q e (by intro z; cases z)), q]; simp
 ·have ho : ∀ c y, H c = some (.own y) → upd H a (.oE { cls := .type "list", data := .seq its.toArray n } (.lst xs)) c = some (.own y) := fun c y w => by rw [bL (mP w e (by intro z; cases z))]; exact w
  have ht : ∀ c ys, H c = some (.tup ys) → upd H a (.oE { cls := .type "list", data := .seq its.toArray n } (.lst xs)) c = some (.tup ys) := fun c ys w => by rw [bL (mP w e (by intro z; cases z))]; exact w
  by_cases hb : b = a
  ·subst hb
   rw [gB] at q; cases q
   exact ⟨hg, (I.hok b _ e).stay (fun _ _ _ w => w) (fun c w => ho c b w) ht⟩
  ·rw [bL hb] at q
   exact (I.hok b u q).stay (fun _ _ _ w => w) (fun c w => ho c b w) ht
noncomputable def NQ (m : DS → M D) : DS → M D := fun τ G => match m τ G with
 | .ok (.obj n) G' => match G'[n]? with
  | some (.lst ds) => .ok (.con ds) (G'.set n .dead)
  | _ => .stuck
 | r => r
noncomputable def eFn (m : DS → M D) : DS → M D := fun τ G => match m τ G with
 | .ok (.obj n) G' => match G'[n]? with
  | some (.lst ds) => if n = G.length ∧ G'.length = n + 1 ∧ oW (G'.take G.length) G = true ∧ bx ds = true then .ok (.con ds) G else .stuck
  | _ => .stuck
 | r => r
theorem IU {pins : List (Addr × Obj)} {σ : L2.St} {Q Q' : VK} {u : Value} {s : Shared} (h : EP X pins σ Q' u s) (hq : ∀ v H', Q' v H' → Q v H' ∨ ∃ a xs, v = .ref a ∧ H' a = some (.lst xs) ∧ ∀ o, Q v (upd H' a (.oE o (.lst xs)))) : EP X pins σ Q u s := by
 obtain ⟨v, H', I, r, q⟩ := h
 rcases hq v H' q with q | ⟨a, xs, rfl, e, q⟩
 ·exact ⟨v, H', I, r, q⟩
 ·obtain ⟨o, I'⟩ := Fl I e
  exact ⟨_, _, I', r, q o⟩
theorem Fo {e : Expr} {m : DS → M D} (ha : QE X EE e m) : QE X EE e (NQ m) := by
 intro pins s σ H Q I ⟨τ, ρ, G, ab, ok⟩
 dsimp only [NQ] at ok
 cases q : m τ G with
 | stuck => rw [q] at ok; exact ok.elim
 | fR c G' => rw [q] at ok; exact ha pins s σ H Q I ⟨τ, ρ, G, ab, by rw [q]; exact ok⟩
 | ok d G' =>
  rw [q] at ok
  by_cases hd : ∃ n, d = .obj n
  ·obtain ⟨n, rfl⟩ := hd
   dsimp only at ok
   cases g : G'[n]? with
   | none => rw [g] at ok; exact ok.elim
   | some o =>
    rw [g] at ok
    cases o with
    | dead => exact ok.elim
    | dct kv => exact ok.elim
    | lst ds =>
     refine ja (ha pins s σ H (fun v H' => ∃ a xs, v = .ref a ∧ H' a = some (.lst xs) ∧ ∀ o, Q v (upd H' a (.oE o (.lst xs)))) I ⟨τ, ρ, G, ab, ?_⟩) fun u s' h => IU h fun v H' q => .inr q
     rw [q]
     intro v H' ρ' f eu r
     unfold Rep at r
     obtain ⟨a, rfl, hn⟩ := r
     obtain ⟨a', xs, e1, e2, rs⟩ := eu.hp.lst g
     rw [hn] at e1; cases e1
     refine ⟨a, xs, rfl, e2, fun ob => ?_⟩
     have f2 : fY X.K H' (upd H' a (.oE ob (.lst xs))) ρ' ρ' := w9 e2 ρ'
     refine ok _ _ ρ' (f.trans f2) ⟨eu.st.mono f2, eu.hp.oE hn e2⟩ ?_
     unfold Rep
     exact ⟨a, xs, rfl, .inl ⟨ob, gB⟩, rs.mono f2⟩
  ·have ok' : mO X.K X.mg EE H σ τ ρ (.ok d G') Q := by
    cases d <;> first | exact ok | exact absurd ⟨_, rfl⟩ hd
   exact ha pins s σ H Q I ⟨τ, ρ, G, ab, by rw [q]; exact ok'⟩
theorem cR {e : Expr} {m : DS → M D} (ha : QE X EE e m) : QE X EE e (eFn m) := by
 intro pins s σ H Q I ⟨τ, ρ, G, ab, ok⟩
 dsimp only [eFn] at ok
 cases q : m τ G with
 | stuck => rw [q] at ok; exact ok.elim
 | fR c G' => rw [q] at ok; exact ha pins s σ H Q I ⟨τ, ρ, G, ab, by rw [q]; exact ok⟩
 | ok d G' =>
  rw [q] at ok
  by_cases hd : ∃ n, d = .obj n
  ·obtain ⟨n, rfl⟩ := hd
   dsimp only at ok
   cases g : G'[n]? with
   | none => rw [g] at ok; exact ok.elim
   | some o =>
    rw [g] at ok
    cases o with
    | dead => exact ok.elim
    | dct kv => exact ok.elim
    | lst ds =>
     dsimp only at ok
     by_cases hc : n = G.length ∧ G'.length = n + 1 ∧ oW (G'.take G.length) G = true ∧ bx ds = true
     ·rw [if_pos hc] at ok
      obtain ⟨hn0, hl, hb, hcl⟩ := hc
      refine ja (ha pins s σ H (fun v H' => ∃ a xs, v = .ref a ∧ H' a = some (.lst xs) ∧ ∀ o, Q v (upd H' a (.oE o (.lst xs)))) I ⟨τ, ρ, G, ab, ?_⟩) fun u s' h => IU h fun v H' q => .inr q
      rw [q]
      intro v H' ρ' f eu r
      unfold Rep at r
      obtain ⟨a, rfl, hn⟩ := r
      obtain ⟨a', xs, e1, e2, rs⟩ := eu.hp.lst g
      rw [hn] at e1; cases e1
      refine ⟨a, xs, rfl, e2, fun ob => ?_⟩
      have f2 : fY X.K H' (upd H' a (.oE ob (.lst xs))) ρ' ρ' := w9 e2 ρ'
      have f3 : fY X.K H (upd H' a (.oE ob (.lst xs))) ρ ρ := ⟨fun b ys w => f2.tup b ys (f.tup b ys w), fun b ys w => f2.con b ys (f.con b ys w), ⟨[], by simp⟩, fun b φ w => f2.ext b φ (f.ext b φ w)⟩
      have hp2 := eu.hp.oE (o := ob) hn e2
      have NR : lO X.K X.mg (upd H' a (.oE ob (.lst xs))) ρ G := ab.hp.cut f.pre hp2 (by
       rw [List.take_set_of_le (by omega)]
       exact tS _ _ hb)
      refine ok _ _ ρ f3 ⟨ab.st.mono f3, NR⟩ ?_
      unfold Rep
      exact ⟨a, xs, rfl, .inl ⟨ob, gB⟩, jW ds xs hcl (rs.mono f2)⟩
     ·rw [if_neg hc] at ok; exact ok.elim
  ·have ok' : mO X.K X.mg EE H σ τ ρ (.ok d G') Q := by
    cases d <;> first | exact ok | exact absurd ⟨_, rfl⟩ hd
   exact ha pins s σ H Q I ⟨τ, ρ, G, ab, by rw [q]; exact ok'⟩
end
noncomputable def eW (m : List D → M D) : List D → M D := fun ds G => match m ds G with
 | .ok d G' => if oW (G'.take G.length) G = true ∧ d.closed = true then .ok d G else .stuck
 | .fR c G' => if oW (G'.take G.length) G = true then .fR c G else .stuck
 | .stuck => .stuck
section
variable {K : PySem.W.Frag} {mg : Str → Option Value} {n : Nat} {m : List D → M D}
theorem Cr {H H' : Hp} {ρ ρ' : List Addr} (f : fY K H H' ρ ρ') : fY K H H' ρ ρ := ⟨f.tup, f.con, ⟨[], by simp⟩, f.ext⟩
theorem dg (vs : List V) (H : Hp) (Q : VK) (E : XK) (h : aQ K mg n (eW m) vs H Q E) : aQ K mg n m vs H Q E := by
 obtain ⟨ds, ρ, G, hl, hp, rs, ok⟩ := h
 refine ⟨ds, ρ, G, hl, hp, rs, ?_⟩
 dsimp only [eW] at ok
 cases q : m ds G with
 | stuck => rw [q] at ok; exact ok
 | ok d G' =>
  rw [q] at ok
  dsimp only at ok
  by_cases hc : oW (G'.take G.length) G = true ∧ d.closed = true
  ·rw [if_pos hc] at ok
   intro v H' ρ' f Ht r
   exact ok v H' ρ (Cr f) (hp.cut f.pre Ht (tS _ _ hc.1)) (xX d v hc.2 r)
  ·rw [if_neg hc] at ok; exact ok.elim
 | fR c G' =>
  rw [q] at ok
  dsimp only at ok
  by_cases hc : oW (G'.take G.length) G = true
  ·rw [if_pos hc] at ok
   intro cls H' ρ' hcl f Ht
   exact ok cls H' ρ hcl (Cr f) (hp.cut f.pre Ht (tS _ _ hc))
  ·rw [if_neg hc] at ok; exact ok.elim
end
end L3
end
section
set_option Elab.async false
set_option linter.all false
set_option maxRecDepth 100000
namespace L3
open PySem PySem.Spec L2
noncomputable def AA (K : PySem.W.Frag) (a : Addr) (n : Nat) : It :=
 ⟨fun i H => ∃ xs x, pD K H a xs ∧ xs.length = n ∧ i < n ∧ xs[n - 1 - i]? = some x, fun i H y H' => H' = H ∧ ∀ xs, pD K H a xs → xs[n - 1 - i]? = some y, fun i H => i = n⟩
theorem IV {P : Program} {w : World} {K : PySem.W.Frag} {tg : Expr} (a it : Addr) (n : Nat) : Turn P w K tg (AA K a n) [it] it (fun i h => h.IsRevIter it a ((n : Int) - 1 - (i : Int))) where
 mem := by simp
 obj := fun i h st b hb => by
  have e : b = it := by simpa using hb
  subst e
  obtain ⟨o, e, c, d⟩ := st
  exact ⟨o, e, fun v z => by rw [d] at z; cases z⟩
 keep := fun i h h' st k => st.at fun o e => k it (by simp) o e
 item := by
  intro X hP hw hK hc i pins s σ H E I hf st hg
  subst hP hw hK
  obtain ⟨xs, x, hq, hn, hi, hx⟩ := hg
  obtain ⟨its, rv, p, hz⟩ := I.list hq
  obtain ⟨u, hu, ru⟩ := rv.get hx
  obtain ⟨f0, f1, f2, f3, f4, f5⟩ := hf it (by simp)
  have e : (n : Int) - 1 - (i : Int) = ((n - 1 - i : Nat) : Int) := by omega
  rw [e] at st
  refine wpAny_pyNext_rev_item st p.isList (x := u) (by simpa using hu) fun h' st' sb => ?_
  have I1 : Inv X pins σ H { s with heap := h' } := I.turned (t' := s.toks) (fun b o hb e => (sb.2 b hb).trans e) f0 f1 f3 f4 f5
  have e2 : ((n - 1 - i : Nat) : Int) - 1 = (n : Int) - 1 - ((i + 1 : Nat) : Int) := by omega
  rw [e2] at st'
  obtain ⟨o, e, c, d⟩ := id st'
  exact ⟨u, rfl, BP (s := { s with heap := h' }) e c d (by decide) ⟨x, H, I1, ru, ⟨rfl, fun ys hy => by rw [I.xr hy hq]; exact hx⟩, st', fun b hb => (hf b hb).1⟩⟩
 done := by
  intro X hP hw hK hc i pins s σ H E I hf st hg
  subst hP hw hK
  have hi : i = n := hg
  subst hi
  obtain ⟨f0, f1, f2, f3, f4, f5⟩ := hf it (by simp)
  rw [show (i : Int) - 1 - (i : Int) = -1 by omega] at st
  exact wpAny_pyNext_rev_end (I.ok.hd hc) st fun h' eb => ⟨rfl, I.turned (t' := s.toks) (fun b o hb e => eb b o hb e) f0 f1 f3 f4 f5⟩
 self := fun _ _ _ _ _ st h => wpAny_pyIter_revIter st h
noncomputable def D5 (d : D) (n : Nat) : View := fun G i => match bE G d with
 | some (.lst xs) => if xs.length = n then (if i = n then some none else if i < n then some xs[n - 1 - i]? else none) else none
 | _ => none
noncomputable def La (m : DS → M (List D)) : MI := fun τ => (m τ).bind fun ds => match ds with
 | [d] => fun G => match bE G d with
  | some (.lst xs) => .ok (xs.length + 1, D5 d xs.length) G
  | _ => .stuck
 | _ => M.stop
section
variable {X : Cx} {EE : gK} {tg iter a b : Expr} {g : tG} {mi : MI} {ms : MS} {pos p pc : Pos} {m : DS → M (List D)}
theorem IW {H : Hp} {ρ ρ' : List Addr} {H' : Hp} {G' : DH} {d : D} {l : Addr} {ws : List D} (f : fY X.K H H' ρ ρ') (rx : Rep X.K X.mg ρ H d (.ref l)) (hp : lO X.K X.mg H' ρ' G') (q : bE G' d = some (.lst ws)) : ∃ xs, pD X.K H' l xs ∧ aG X.K X.mg ρ' H' ws xs := by
 have Sx := rx.mono f
 cases d with
 | con ds =>
  cases q
  unfold Rep at Sx
  obtain ⟨a', xs, e, s, r⟩ := Sx
  cases e
  exact ⟨xs, s.seq, r⟩
 | obj n =>
  unfold Rep at Sx
  obtain ⟨a', e, r⟩ := Sx
  cases e
  dsimp only [bE] at q
  cases g : G'[n]? with
  | none => rw [g] at q; cases q
  | some o =>
   cases o with
   | dead => rw [g] at q; cases q
   | dct kv => rw [g] at q; cases q
   | lst ys =>
    rw [g] at q; cases q
    obtain ⟨a', xs, e1, e2, rs⟩ := hp.lst g
    rw [r] at e1; cases e1
    exact ⟨xs, .inl (.of e2), rs⟩
 | _ => cases q
theorem NS {H : Hp} {ρ : List Addr} {d : D} {l : Addr} {n : Nat} (rx : Rep X.K X.mg ρ H d (.ref l)) : JV X.K X.mg (AA X.K l n) (D5 d n) H ρ := by
 intro i H' ρ' G' f hp
 unfold D5
 cases q : bE G' d with
 | none => exact ⟨fun e => (by cases e), fun x e => (by cases e)⟩
 | some sk =>
  cases sk with
  | tup zs => exact ⟨fun e => (by cases e), fun x e => (by cases e)⟩
  | str z => exact ⟨fun e => (by cases e), fun x e => (by cases e)⟩
  | lst zs =>
   dsimp only
   by_cases hn : zs.length = n
   ·rw [if_pos hn]
    by_cases hi : i = n
    ·rw [if_pos hi]
     exact ⟨fun _ => hi, fun x e => (by cases e)⟩
    ·rw [if_neg hi]
     by_cases hlt : i < n
     ·rw [if_pos hlt]
      obtain ⟨xs, sq, rs⟩ := IW f rx hp q
      refine ⟨fun e => ?_, fun x e => ?_⟩
      ·have := Option.some.inj e
       rw [List.getElem?_eq_none_iff] at this
       omega
      ·have e' := Option.some.inj e
       obtain ⟨v, hv, rv⟩ := rs.get e'
       refine ⟨⟨xs, v, sq, by rw [← rs.length]; exact hn, hlt, hv⟩, fun y H2 hy => ?_⟩
       obtain ⟨rfl, hy⟩ := hy
       have := hy xs sq
       rw [hv] at this; cases this
       exact ⟨⟨.refl, fun _ h => h⟩, rv⟩
     ·rw [if_neg hlt]; exact ⟨fun e => (by cases e), fun x e => (by cases e)⟩
   ·rw [if_neg hn]; exact ⟨fun e => (by cases e), fun x e => (by cases e)⟩
theorem NT (hm : X.mg "reversed" = none) (Hq : Gl X "reversed") (ha : QA X EE [a] m) (h : aH [a] = true := by rfl) : QI X EE tg (.Call (.Name "reversed" p) [a] [] pc) (La m) := by
 have h' : fB a = true ∧ aH [] = true := by simpa [aH] using h
 intro pins s σ H R I hq
 obtain ⟨τ, ρ, G, ab, ok⟩ := hq
 dsimp only [La, M.bind] at ok
 refine wpAny_Call_Name_kw (nv I Hq hm Ce ?_ (by decide) (by decide))
 have hA : vG X.K X.mg EE m σ H fun vs H1 => ∃ ρ1 G1 ds, Ab X.K X.mg σ H1 τ ρ1 G1 ∧ fY X.K H H1 ρ ρ1 ∧ aG X.K X.mg ρ1 H1 ds vs ∧ m τ G = .ok ds G1 := by
  refine ⟨τ, ρ, G, ab, ?_⟩
  cases e : m τ G with
  | stuck => rw [e] at ok; exact ok
  | fR c G' => rw [e] at ok; exact ok
  | ok ds G' => exact fun vs H' ρ' f eu r => ⟨ρ', G', ds, eu, f, r, rfl⟩
 refine PyProof.Rows.callWith_type1 (ja (ha pc pins s σ H _ I hA) fun us s1 Kv => ?_) (cj h'.1 _ _) (cU (es := []) rfl)
 obtain ⟨vs, H1, I1, r1, ρ1, G1, ds, uS, f1, rs, em⟩ := Kv
 rw [em] at ok
 dsimp only at ok
 match ds, rs, ok with
 | [], _, ok => exact ok.elim
 | _ :: _ :: _, _, ok => exact ok.elim
 | [d], rs, ok =>
  obtain ⟨x, rfl, rx⟩ := kU rs
  obtain ⟨u, rfl, ru⟩ := vals1 r1
  dsimp only at ok
  cases q : bE G1 d with
  | none => rw [q] at ok; exact ok.elim
  | some sk =>
   rw [q] at ok
   cases sk with
   | tup zs => exact ok.elim
   | str z => exact ok.elim
   | lst zs =>
    dsimp only at ok
    obtain ⟨l, ys, rfl, sq, rv⟩ := dX (pins := pins) (σ0 := σ) (s := s1) uS.hp rx q
    cases ru
    obtain ⟨its, vv, pl, hz⟩ := I1.list sq
    refine call_reversed_list pl.isList ?_
    have hst : (s1.heap.push (revObj l ((its.toArray.size : Int) - 1))).IsRevIter s1.heap.objs.size l ((its.toArray.size : Int) - 1) := ⟨_, Heap.get?_push_size _ rfl, rfl, rfl⟩
    refine wpAny_pyIter_revIter (s := { s1 with heap := s1.heap.push (revObj l ((its.toArray.size : Int) - 1)) }) hst ?_
    have I2 : Inv X pins σ H1 { s1 with heap := s1.heap.push (revObj l ((its.toArray.size : Int) - 1)) } := I1.kept (t' := s1.toks) fun b o e => Heap.get?_push_of_some _ e
    have hlen : its.toArray.size = zs.length := by rw [List.size_toArray, ← vv.length, rv.length]
    refine ⟨s1.heap.objs.size, [s1.heap.objs.size], _, AA X.K l zs.length, H1, rfl, I2, IV l _ _, ?_, fun b hb => ?_, ok _ H1 ρ1 f1 uS (NS rx)⟩
    ·show (s1.heap.push (revObj l ((its.toArray.size : Int) - 1))).IsRevIter s1.heap.objs.size l ((zs.length : Int) - 1 - ((0 : Nat) : Int))
     rw [← hlen]
     simpa using hst
    ·rw [List.mem_singleton.mp hb]
     exact I1.FP (Nat.le_refl _) (I1.hok.fresh (Nat.le_refl _))
end
end L3
end
section
set_option Elab.async false
set_option linter.all false
set_option maxRecDepth 100000
namespace L3
open PySem PySem.Spec L2
theorem boot_zip : bootBuiltins "zip" = some (.type "zip") := by decide +kernel
section
variable {X : Cx} {EE : gK} {tg iter a b : Expr} {g : tG} {mi : MI} {ms : MS} {pos p pc : Pos} {m : DS → M (List D)}
end
end L3
end
section
set_option Elab.async false
set_option linter.all false
set_option maxRecDepth 100000
namespace L3
open PySem PySem.Spec L2 PyProof.Rows
section
variable {X : Cx} {EE : gK} {a b e : Expr} {ma mb : DS → M D} {pos : Pos}
theorem Lb : pF X (binaryOp .Add) (fun x y H Q => ∃ l b xs zs, x = .ref l ∧ y = .ref b ∧ pD X.K H l xs ∧ pD X.K H b zs ∧ xs.length + zs.length ≤ sizeLine ∧ ∀ p, H p = none → Q (.ref p) (upd H p (.lst (xs ++ zs)))) := by
 intro pins s σ H x y v u Q I rx ry h
 obtain ⟨l, b, xs, zs, rfl, rfl, hH, hB, hz, q⟩ := h
 cases rx
 cases ry
 obtain ⟨its, r, ⟨o, n, e, c, dn, d⟩, hl⟩ := I.list hH
 obtain ⟨its2, r2, ⟨o2, n2, e2, c2, Qj, d2⟩, hl2⟩ := I.list hB
 obtain ⟨cls, dd, data, sl⟩ := o
 obtain ⟨M6, dd2, data2, sl2⟩ := o2
 simp only at c dn d c2 Qj d2
 subst c dn d c2 Qj d2
 have hlen := r.length
 have hlen2 := r2.length
 have ea : its.toArray ++ its2.toArray = (its ++ its2).toArray := by simp
 refine concat_meets ⟨_, e, rfl⟩ ⟨_, e2, rfl⟩ noFill_list_add seq_list_add PySem.F.slot_list_add PySem.F.entry_list_add (PySem.F.args_list_add_2 _ _) (list_addW l b its.toArray its2.toArray n n2 _ _ sl sl2 (by simp only [List.size_toArray]; omega)) ⟨e, e2, ?_⟩
 rw [ea]
 exact ⟨.ref _, _, I.TU (t' := s.toks) (r.append r2) (by rw [List.length_append]; omega), rfl, q _ I.fresh⟩
theorem Lc : pF X (binaryOp .Add) (fun x y H Q => ∃ a b ys, x = .ref a ∧ y = .ref b ∧ qS X.K H a [] ∧ qS X.K H b ys ∧ Q (.ref b) H) := by
 intro pins s σ H x y v u Q I rx ry h
 obtain ⟨a, b, ys, rfl, rfl, ha, hb, q⟩ := h
 cases rx
 cases ry
 obtain ⟨its, r1, p1, _⟩ := I.tuple ha
 obtain ⟨its2, r2, p2, _⟩ := I.tuple hb
 have e0 : its = [] := by cases r1; rfl
 subst e0
 obtain ⟨⟨cls, dd, data, sl⟩, ho, hc, n, hd⟩ := id p1
 obtain ⟨⟨M6, dd2, data2, sl2⟩, ho2, hc2, n2, hd2⟩ := id p2
 simp only at hc hd hc2 hd2
 subst hc hd hc2 hd2
 exact concat_meets ⟨_, ho, rfl⟩ ⟨_, ho2, rfl⟩ noFill_tuple_add seq_tuple_add PySem.F.slot_tuple_add PySem.F.entry_tuple_add (PySem.F.args_tuple_add_2 _ _)
   (tuple_addW0 a b _ _ n n2 dd dd2 sl sl2 (by simp)) ⟨ho, ho2, ⟨.ref b, H, I, rfl, q⟩⟩
noncomputable def tT (G : DH) : D → Option (List D)
 | .con xs => some xs
 | .obj n => match G[n]? with
  | some (.lst xs) => some xs
  | _ => none
 | _ => none
theorem xY {G : DH} {d : D} {xs : List D} (h : tT G d = some xs) : bE G d = some (.lst xs) := by
 cases d with
 | con ys => cases h; rfl
 | obj n =>
  dsimp only [tT] at h
  dsimp only [bE]
  cases g : G[n]? with
  | none => rw [g] at h; cases h
  | some o =>
   cases o with
   | dead => rw [g] at h; cases h
   | dct kv => rw [g] at h; cases h
   | lst ys => rw [g] at h; cases h; rfl
 | _ => cases h
noncomputable def bu (d e : D) : M D := fun G => match d, e with
 | .int i, .int j => .ok (.int (i + j)) G
 | .str i, .str j => if i.length + j.length ≤ sizeLine then .ok (.str (i ++ j)) G else .stuck
 | .tup [], .tup ys => .ok (.tup ys) G
 | .tup (x :: xs), .tup ys => eF (x :: xs ++ ys) G
 | d, e => match tT G d, tT G e with
  | some xs, some ys => bQ (xs ++ ys) G
  | _, _ => .stuck
theorem Ld : pF X (binaryOp .Add) (rD X EE bu) := by
 intro pins s σ0 H x y v u Q I rx ry ⟨σ, τ, ρ, G, d, e, ab, r1, r2, ok⟩
 have lists : ∀ xs ys, tT G d = some xs → tT G e = some ys → mO X.K X.mg EE H σ τ ρ (bQ (xs ++ ys) G) Q → wpAny (model X.prog X.w) X.A (binaryOp .Add v u) (EP X pins σ0 Q) X.xe s := fun xs ys h1 h2 ok => by
  obtain ⟨l, vs, rfl, s1, t1⟩ := dX (pins := pins) (σ0 := σ0) (s := s) ab.hp r1 (xY h1)
  obtain ⟨l2, ws, rfl, s2, t2⟩ := dX (pins := pins) (σ0 := σ0) (s := s) ab.hp r2 (xY h2)
  obtain ⟨hl, q1⟩ := rP ab (t1.append t2) ok
  rw [List.length_append] at hl
  exact Lb pins s σ0 H _ _ v u Q I rx ry ⟨l, l2, vs, ws, rfl, rfl, s1, s2, hl, q1⟩
 have rest : (mO X.K X.mg EE H σ τ ρ (match tT G d, tT G e with
  | some xs, some ys => bQ (xs ++ ys) G
  | _, _ => .stuck) Q) → wpAny (model X.prog X.w) X.A (binaryOp .Add v u) (EP X pins σ0 Q) X.xe s := fun ok => by
  cases h1 : tT G d with
  | none => rw [h1] at ok; exact ok.elim
  | some xs =>
   cases h2 : tT G e with
   | none => rw [h1, h2] at ok; exact ok.elim
   | some ys => rw [h1, h2] at ok; exact lists xs ys h1 h2 ok
 cases d with
 | int i =>
  cases e with
  | int j =>
   unfold Rep at r1 r2; subst r1 r2
   exact MQ pins s σ0 H _ _ v u Q I rx ry ⟨i, j, rfl, rfl, ok _ H ρ .refl ab (by unfold Rep; rfl)⟩
  | _ => exact rest ok
 | str i =>
  cases e with
  | str j =>
   unfold Rep at r1 r2; subst r1 r2
   dsimp only [bu] at ok
   by_cases h : i.length + j.length ≤ sizeLine
   ·rw [if_pos h] at ok
    exact Dy pins s σ0 H _ _ v u Q I rx ry ⟨i, j, rfl, rfl, h, ok _ H ρ .refl ab (by unfold Rep; rfl)⟩
   ·rw [if_neg h] at ok; exact ok.elim
  | _ => exact rest ok
 | tup xs =>
  cases e with
  | tup ys =>
   have r2' := r2
   unfold Rep at r1 r2
   obtain ⟨p, vs, rfl, s1, t1⟩ := r1
   obtain ⟨q, ws, rfl, s2, t2⟩ := r2
   cases xs with
   | nil =>
    have hv : vs = [] := by have := t1.length; cases vs with | nil => rfl | cons _ _ => simp at this
    subst hv
    exact Lc pins s σ0 H _ _ v u Q I rx ry ⟨p, q, ws, rfl, rfl, s1, s2, ok _ H ρ .refl ab r2'⟩
   | cons x xs =>
    have ok' : mO X.K X.mg EE H σ τ ρ (eF (x :: xs ++ ys) G) Q := ok
    have Yz := t1.append t2
    obtain ⟨hl, q1⟩ := AK ab Yz ok'
    rw [List.length_append] at hl
    have hv : vs ≠ [] := by
     intro z; subst z
     have := t1.length
     simp at this
    refine Kn pins s σ0 H _ _ v u Q I rx ry ⟨p, q, vs, ws, rfl, rfl, s1, s2, hv, hl, fun z => ?_, fun z p hp => q1 p hp⟩
    subst z
    have hy : ys = [] := by
     have := t2.length
     cases ys with
     | nil => rfl
     | cons _ _ => simp at this
    subst hy
    unfold eF at ok'
    split at ok'
    ·exact ok' _ H ρ .refl ab (by rw [List.append_nil]; unfold Rep; exact ⟨p, vs, rfl, s1, t1⟩)
    ·exact ok'.elim
  | _ => cases xs <;> exact rest ok
 | _ => exact rest (by cases e <;> exact ok)
theorem bX (ha : QE X EE a ma) (hb : QE X EE b mb) : QE X EE (.BinOp a .Add b pos) (aC bu ma mb) := zO Ld pH ha hb
theorem NU {pins : List (Addr × Obj)} {Dd D' : Ends} {f : Flow} {s : Shared} (h : SP X pins D' f s) (hb : D'.bk = Dd.bk) (hc : D'.ct = Dd.ct) (hr : D'.rt = Dd.rt)
  (hq : ∀ σ H, D'.nx σ H → Dd.nx σ H ∨ ∃ a xs, H a = some (.lst xs) ∧ ∀ o, Dd.nx σ (upd H a (.oE o (.lst xs)))) : SP X pins Dd f s := by
 obtain ⟨nx, bk, ct, rt⟩ := D'
 subst hb hc hr
 cases f with
 | next =>
  obtain ⟨σ', H', I, q⟩ := h
  rcases hq σ' H' q with q | ⟨a, xs, e, q⟩
  ·exact ⟨σ', H', I, q⟩
  ·obtain ⟨o, I'⟩ := Fl I e
   exact ⟨σ', _, I', q o⟩
 | _ => exact h
theorem Qk {st : Stmt} {i : Nat} {m : DS → M D} (hs : QS X EE st (bT i m)) : QS X EE st (bT i (eFn m)) := by
 intro pins s σ H Dd I ⟨τ, ρ, G, ab, ok⟩
 dsimp only [bT, fu, eFn] at ok
 cases q : m τ G with
 | stuck => rw [q] at ok; exact ok.elim
 | fR c G' => rw [q] at ok; exact hs pins s σ H Dd I ⟨τ, ρ, G, ab, by dsimp only [bT, fu]; rw [q]; exact ok⟩
 | ok d G' =>
  rw [q] at ok
  by_cases hd : ∃ n, d = .obj n
  ·obtain ⟨n, rfl⟩ := hd
   dsimp only at ok
   cases g : G'[n]? with
   | none => rw [g] at ok; exact ok.elim
   | some o =>
    rw [g] at ok
    cases o with
    | dead => exact ok.elim
    | dct kv => exact ok.elim
    | lst ds =>
     dsimp only at ok
     by_cases hc : n = G.length ∧ G'.length = n + 1 ∧ oW (G'.take G.length) G = true ∧ bx ds = true
     ·rw [if_pos hc] at ok
      obtain ⟨hn0, hl, hb, hcl⟩ := hc
      refine ja (hs pins s σ H { Dd with nx := fun σ' H' => ∃ a xs, H' a = some (.lst xs) ∧ ∀ o, Dd.nx σ' (upd H' a (.oE o (.lst xs))) } I ⟨τ, ρ, G, ab, ?_⟩) fun u s' h => NU h rfl rfl rfl fun σ' H' q => .inr q
      dsimp only [bT, fu]
      rw [q]
      intro σ' H' ρ' f eu
      obtain ⟨a, xs, e1, e2, rs⟩ := eu.hp.lst g
      refine ⟨a, xs, e2, fun ob => ?_⟩
      have f2 : fY X.K H' (upd H' a (.oE ob (.lst xs))) ρ' ρ' := w9 e2 ρ'
      have f3 : fY X.K H (upd H' a (.oE ob (.lst xs))) ρ ρ := ⟨fun b ys w => f2.tup b ys (f.tup b ys w), fun b ys w => f2.con b ys (f.con b ys w), ⟨[], by simp⟩, fun b φ w => f2.ext b φ (f.ext b φ w)⟩
      have NR : lO X.K X.mg (upd H' a (.oE ob (.lst xs))) ρ G := ab.hp.cut f.pre (eu.hp.oE (o := ob) e1 e2) (by
       rw [List.take_set_of_le (by omega)]
       exact tS _ _ hb)
      refine ok σ' _ ρ f3 ⟨⟨by rw [eu.st.1]; simp, fun j dj ej => ?_⟩, NR⟩
      by_cases hij : i = j
      ·subst hij
       by_cases hi : i < τ.length
       ·rw [List.getElem?_set, if_pos rfl, if_pos hi] at ej
        cases ej
        obtain ⟨vv, ev, rv⟩ := eu.st.2 i (.obj n) (by rw [List.getElem?_set, if_pos rfl, if_pos hi])
        unfold Rep at rv
        obtain ⟨a', rfl, hn'⟩ := rv
        rw [e1] at hn'; cases hn'
        refine ⟨_, ev, ?_⟩
        unfold Rep
        exact ⟨a, xs, rfl, .inl ⟨ob, gB⟩, jW ds xs hcl (rs.mono f2)⟩
       ·rw [List.getElem?_set, if_pos rfl, if_neg hi] at ej; cases ej
      ·have ej0 := ej
       rw [List.getElem?_set_ne hij] at ej
       obtain ⟨v', ev', YA⟩ := eu.st.2 j dj (by rw [List.getElem?_set_ne hij]; exact ej)
       obtain ⟨v0, ev0, YB⟩ := ab.st.2 j dj ej
       exact ⟨v', ev', Rep.back f.pre dj v0 v' YB (YA.mono f2)⟩
     ·rw [if_neg hc] at ok; exact ok.elim
  ·have ok' : yX X.K X.mg EE H ρ Dd (.nx (τ.set i (some d)) G') := by
    cases d <;> first | exact ok | exact absurd ⟨_, rfl⟩ hd
   exact hs pins s σ H Dd I ⟨τ, ρ, G, ab, by dsimp only [bT, fu]; rw [q]; exact ok'⟩
theorem D6 (l : Addr) (items : Array Value) (n : Nat) (b : Addr) (items2 : Array Value) (n2 : Nat) (sl2 : Array (Option Value)) (hc0 : ¬(!items.isEmpty && Builtin.List.listTooLong (items.size + items2.size)) = true) (hc1 : items.size ≤ sizeLine) (hs2 : items.size + items2.size ≤ sizeLine + 1) :
  Meets (Builtin.«list.extend» ⟨[.ref l, .ref b], []⟩) (fun _ R s => s.heap.get? l = some { cls := .type "list", dict := none, data := .seq items n, slots := #[] } ∧ s.heap.get? b = some { cls := .type "list", dict := none, data := .seq items2 n2, slots := sl2 } ∧ R (.ok (.ret Value.none)) { s with heap := s.heap.update l (Obj.mapSeq fun x => x ++ items2), toks := s.toks }) :=
 .of_wp fun prog w A R s h => by
  obtain ⟨hp, g, d, tk, os⟩ := s; obtain ⟨hl, hb, h⟩ := h; have f1 := AutoSeq1.idx_int; have f2 := AutoSeq1.sub_tuple_tuple; have f3 := AutoSeq1.sub_list_list; have f4 := AutoSeq1.sub_tuple_list; have f5 := AutoSeq1.sub_list_tuple;
  have hz' : (items ++ items2).size ≤ sizeLine + 1 := by rw [Array.size_append]; exact hs2
  wp_walk using (wpAny_updateSeq hl rfl (hz := hc1) (_hz' := hz')), wpAny_loadPart' hl, wpAny_loadPart' hb; exact ⟨_, rfl, h⟩
theorem D7 : DE X "list.extend" (fun x vs H Q => ∃ l b xs zs, x = .ref l ∧ vs = [.ref b] ∧ H l = some (.lst xs) ∧ pD X.K H b zs ∧ xs.length + zs.length ≤ sizeLine ∧ Q .kr (upd H l (.lst (xs ++ zs)))) := by
 intro pins s σ H x vs v us Q I rx rv h
 obtain ⟨l, b, xs, zs, rfl, rfl, hH, hB, hz, q⟩ := h
 cases rx
 obtain ⟨u, rfl, ru⟩ := rv.one
 cases ru
 obtain ⟨z, its, n, r, hl, e⟩ := I.Ks hH
 obtain ⟨its2, r2, ⟨o2, n2, e2, c2, Qj, d2⟩, _⟩ := I.list hB
 obtain ⟨M6, dd2, data2, sl2⟩ := o2
 simp only at c2 Qj d2
 subst c2 Qj d2
 have hl2 := r2.length
 have hsz : its.toArray.size + its2.toArray.size ≤ sizeLine := by rw [List.size_toArray, List.size_toArray]; omega
 have Ql : ¬ (!its.toArray.isEmpty && Builtin.List.listTooLong (its.toArray.size + its2.toArray.size)) = true := by
  rw [HJ hsz, Bool.and_false]
  exact Bool.false_ne_true
 refine call_meets F.slot_list_extend ⟨_, e, rfl⟩ F.entry_list_extend (F.args_list_extend_2 _ _)
  (D6 l its.toArray n b its2.toArray n2 sl2 Ql (by rw [List.size_toArray]; omega) (by omega)) ⟨e, e2, ?_⟩
 refine ⟨.kr, _, I.Kr (its' := its ++ its2) hH e (by simp) (r.append r2) ?_, rfl, q⟩
 rw [List.length_append]
 omega
noncomputable def Cs : D → List D → M D
 | .obj n, [y] => fun G => match G[n]?, tT G y with
  | some (.lst xs), some ys => if xs.length + ys.length ≤ sizeLine then .ok .kr (G.set n (.lst (xs ++ ys))) else .stuck
  | _, _ => .stuck
 | _, _ => M.stop
theorem Le : DE X "list.extend" (LW X EE Cs) := by
 intro pins s σ0 H x xs v us Q I rx Ih ⟨σ, τ, ρ, G, d, ds, ab, rd, BJ, ok⟩
 cases d <;> try exact ok.elim
 rename_i n
 match ds, ok with
 | [], ok => exact ok.elim
 | a :: _ :: _, ok => exact ok.elim
 | [y], ok =>
  obtain ⟨yv, rfl, ry⟩ := kU BJ
  unfold Rep at rd
  obtain ⟨p, rfl, e1⟩ := rd
  dsimp only [Cs] at ok
  cases g : G[n]? with
  | none => rw [g] at ok; exact ok.elim
  | some o =>
   cases g2 : tT G y with
   | none => rw [g, g2] at ok; cases o <;> exact ok.elim
   | some ys =>
    rw [g, g2] at ok
    cases o with
    | dead => exact ok.elim
    | dct kv => exact ok.elim
    | lst zs =>
     dsimp only at ok
     obtain ⟨p', vs, e3, hp, rs⟩ := ab.hp.lst g
     rw [e1] at e3; cases e3
     obtain ⟨p2, ws, rfl, s2, Qm⟩ := dX (pins := pins) (σ0 := σ0) (s := s) ab.hp ry (xY g2)
     by_cases hz : zs.length + ys.length ≤ sizeLine
     ·rw [if_pos hz] at ok
      exact D7 pins s σ0 H _ _ v us Q I rx Ih ⟨p, p2, vs, ws, rfl, rfl, hp, s2, by rw [← rs.length, ← Qm.length]; exact hz, AQ (xs := zs) ab e1 hp (rs.append Qm) (fun _ _ => by unfold Rep; rfl) ok⟩
     ·rw [if_neg hz] at ok; exact ok.elim
theorem Lf {o : Expr} {apos cpos : Pos} {mo : DS → M D} {m : DS → M (List D)} (ho : QE X EE o mo) (ha : QA X EE [e] m) (hb : nE o = true := by rfl) (h : aH [e] = true := by rfl) (hline : (apos.endLine == cpos.line) = true := by rfl) : QE X EE (.Call (.Attribute o "extend" apos) [e] [] cpos) (ck "list" Cs mo m) := by
 have h' : fB e = true ∧ aH [] = true := by simpa [aH] using h
 exact B3 F.plainAttrs_list F.slot_list_extend F.type_list_extend Le ho ha (jd hb _ _) (rY h (by simp)) hline (cj h'.1 _ _) (cU (es := []) rfl)
end
end L3
end
section
set_option Elab.async false
set_option linter.all false
set_option maxRecDepth 100000
namespace L3
open PySem PySem.Spec L2 PyProof.Rows
section
variable {X : Cx} {EE : gK} {tg iter a b c : Expr} {pos p pc : Pos} {m : DS → M (List D)}
end
end L3
end
section
set_option Elab.async false
set_option linter.all false
set_option maxRecDepth 100000
namespace L3
open PySem PySem.Spec L2
section
variable {K : PySem.W.Frag} {mg : Str → Option Value} {H : Hp} {ρ : List Addr} {G : DH}
theorem lO.dct {n : Nat} {kvs : List (Key × D)} (h : lO K mg H ρ G) (e : G[n]? = some (.dct kvs)) : ∃ a xs, ρ[n]? = some a ∧ H a = some (.dK ((kvs.map (·.1)).zip xs)) ∧ aG K mg ρ H (kvs.map (·.2)) xs := by
 obtain ⟨a, e1, xs, e2, r⟩ := h.ob n _ e
 exact ⟨a, xs, e1, e2, r⟩
end
section
variable {X : Cx} {EE : gK} {e f o i a : Expr} {pos apos cpos tpos : Pos} {mo me mf mv mi : DS → M D}
end
end L3
end
section
set_option Elab.async false
set_option linter.all false
set_option maxRecDepth 100000
namespace L3
open PySem PySem.Spec L2 PyProof.Rows
section
variable {X : Cx} {EE : gK} {e : Expr} {m : DS → M (List D)} {p p2 pos pos2 : Pos}
end
end L3
end
section
set_option Elab.async false
set_option linter.all false
set_option maxRecDepth 100000
namespace L3
open PySem PySem.Spec L2
section
variable {prog : Program} {w : World} {A : Around} {E : Value → Shared → Prop} {s : Shared}
theorem wG {it t : Addr} {i : Nat} {items : Array Value} {x : Value} {Q : Value → Shared → Prop} (hit : s.heap.IsTupleIter it t i)
  (ht : s.heap.IsTuple t items) (hx : items[i]? = some x)
  (hQ : ∀ h', h'.IsTupleIter it t (i + 1) → Heap.SameBut it s.heap h' → Q x { s with heap := h' }) :
  wpAny (model prog w) A (Builtin.SmallTypes.nextOf (.ref it)) Q E s := by
 obtain ⟨o, ho, hc, hd⟩ := id hit
 obtain ⟨ol, ON, _, nl, hdl⟩ := ht
 unfold Builtin.SmallTypes.nextOf
 refine wpAny_bind (wpAny_callSpecial?_slot (name := Str.ofString "__next__") hit.typeIs F.slot_tuple_iterator_next
  (wpAny_call_entry F.slot_tuple_iterator_next hit.typeIs F.entry_tuple_iterator_next ?_ (F.args_tuple_iterator_next_1 _)))
 show wpAny _ _ (field (.ref it) 0 >>= _) _ _ s
 refine wpAny_bind (wpAny_field ho hd (x := .ref t) rfl ?_)
 show wpAny _ _ (if (Value.ref t == Value.none) = true then _ else _) _ _ s
 rw [if_neg (show ¬ ((Value.ref t == Value.none) = true) from Bool.false_ne_true)]
 show wpAny _ _ (field (.ref it) 1 >>= _) _ _ s
 refine wpAny_bind (wpAny_field ho hd (x := .int i 0) rfl ?_)
 show wpAny _ _ (seqItems? (.ref t) >>= _) _ _ s
 refine wpAny_bind (wpAny_seqItems ON hdl ?_)
 simp only [Int.toNat_natCast, hx]
 refine wpAny_bind (wpAny_setField ho hd (by simp) (wpAny_pure ⟨x, rfl, wpAny_pure (hQ _ ?_ (Heap.SameBut.update ..))⟩))
 exact ⟨_, Heap.get?_update_self _ ho (Obj.isFreed_of_fields (Obj.data_mapFields hd _)), (Obj.cls_mapFields ..).trans hc, by
  rw [Obj.data_mapFields hd]; simp [rawInt]⟩
theorem xZ {it t : Addr} {i : Nat} {items : Array Value} {Q : Value → Shared → Prop} (hh : A.handled = none)
  (hit : s.heap.IsTupleIter it t i) (ht : s.heap.IsTuple t items) (hx : items[i]? = none)
  (hE : ∀ h' e, Heap.ExtBut it s.heap h' → (∃ o, h'.get? e = some o ∧ o.cls = .type "StopIteration") → E (.ref e) { s with heap := h' }) :
  wpAny (model prog w) A (Builtin.SmallTypes.nextOf (.ref it)) Q E s := by
 obtain ⟨o, ho, hc, hd⟩ := id hit
 obtain ⟨ol, ON, _, nl, hdl⟩ := ht
 unfold Builtin.SmallTypes.nextOf
 refine wpAny_bind (wpAny_callSpecial?_slot (name := Str.ofString "__next__") hit.typeIs F.slot_tuple_iterator_next
  (wpAny_call_entry F.slot_tuple_iterator_next hit.typeIs F.entry_tuple_iterator_next ?_ (F.args_tuple_iterator_next_1 _)))
 show wpAny _ _ (field (.ref it) 0 >>= _) _ _ s
 refine wpAny_bind (wpAny_field ho hd (x := .ref t) rfl ?_)
 show wpAny _ _ (if (Value.ref t == Value.none) = true then _ else _) _ _ s
 rw [if_neg (show ¬ ((Value.ref t == Value.none) = true) from Bool.false_ne_true)]
 show wpAny _ _ (field (.ref it) 1 >>= _) _ _ s
 refine wpAny_bind (wpAny_field ho hd (x := .int i 0) rfl ?_)
 show wpAny _ _ (seqItems? (.ref t) >>= _) _ _ s
 refine wpAny_bind (wpAny_seqItems ON hdl ?_)
 simp only [Int.toNat_natCast, hx]
 refine wpAny_bind (wpAny_rule (wpAny_bind (wpAny_setField ho hd (by simp) ?_)))
 show wpAny _ _ (newExc (.type "StopIteration") [] >>= _) _ _ _
 refine wpAny_bind ?_
 simp only [newExc, newTuple]
 refine wpAny_bind (wpAny_newObj_type ?_ (by size_fits))
 refine wpAny_bind (m := firstArgMember _ _) (wpAny_of_eq (a := Value.none) (by first | rfl | (simp only [firstArgMember]; rfl)) ?_)
 refine wpAny_newObj_type ?_ (by size_fits)
 simp only [raiseNew]
 refine wpAny_bind (wpAny_handled ?_)
 first | rw [show A.in1.handled = none from hh] | rw [hh]
 refine wpAny_bind (wpAny_pure (wpAny_throw ?_))
 exact hE _ _ (((Heap.SameBut.update ..).extBut.push _).push _) ⟨_, Heap.get?_push_size _ rfl, rfl⟩
end
section
variable {X : Cx} {EE : gK} {a : Expr} {p pc : Pos} {m : DS → M (List D)}
end
noncomputable abbrev DN (s : Str) : Prop := (s == ("__debug__" : Str)) = false ∧ (s == ("__classdict__" : Str)) = false
noncomputable abbrev LK (f : Scope) (s : Str) (k : NameKind) : Prop := f.names.lookup s = some k
end L3
end
section
set_option Elab.async false
set_option linter.all false
set_option maxRecDepth 100000
namespace L3
open PySem PySem.Spec L2
noncomputable def Out.fw (r : Out D) (G : DH) : Out D := match r with
 | .ok (.obj n) G' => match G'[n]? with
  | some (.lst ds) => if n = G.length ∧ G'.length = n + 1 ∧ oW (G'.take G.length) G = true ∧ bx ds = true then .ok (.con ds) G else .stuck
  | _ => .stuck
 | r => r
noncomputable def Out.fz (r : Out D) : Out D := match r with
 | .ok (.obj n) G' => match G'[n]? with
  | some (.lst ds) => .ok (.con ds) (G'.set n .dead)
  | _ => .stuck
 | r => r
section
variable {τ : DS} {G G' A B R : DH} {e ma mb mc : DS → M D} {n i : Nat} {d : D} {c : XD} {ml : DS → M (List D)} {ds xs ys : List D} {m : List D → M D}
theorem dQ : eFn e τ G = (e τ G).fw G := Eq.trans rfl rfl
theorem L8 : NQ e τ G = (e τ G).fz := Eq.trans rfl rfl
theorem IX : (Out.ok (.tup xs) G').fw G = .ok (.tup xs) G' := Eq.trans rfl rfl
theorem mD (h : bx ds = true) : (Out.ok (.obj G.length) (G ++ [.lst ds])).fw G = .ok (.con ds) G := by
 simp [Out.fw, h, mX]
theorem eG (hz : ds.length ≤ sizeLine) (h : bx ds = true) : (bQ ds G).fw G = .ok (.con ds) G := by
 rw [bQ, if_pos hz, mD h]
theorem Fp : (Out.ok (.obj A.length) (A ++ .lst ds :: B)).fz = .ok (.con ds) (A ++ .dead :: B) := by
 simp [Out.fz, E6]
theorem qG {d : D} (h : m ds G = .ok d (G ++ R)) (hc : d.closed = true) : eW m ds G = .ok d G := by
 simp [eW, h, hc, mX]
theorem bK {d : D} (h : m ds G = .ok d G) (hc : d.closed = true) : eW m ds G = .ok d G := qG (R := []) (by simpa using h) hc
theorem IY : La ml τ G = (ml τ G).bd fun ds => match ds with
 | [d] => fun G => match bE G d with
  | some (.lst xs) => .ok (xs.length + 1, D5 d xs.length) G
  | _ => .stuck
 | _ => M.stop := bR
theorem x9 {g : tG} {body : MS} {vw : View} (hv : ∀ G i, i ≤ xs.length → vw G i = some xs[i]?) : ∀ (fuel i : Nat) (τ : DS) (G : DH), i ≤ xs.length → xs.length < fuel + i → xS g body vw fuel i τ G = fq g body (xs.drop i) τ G
 | 0, i, τ, G, h1, h2 => by omega
 | fuel + 1, i, τ, G, h1, h2 => by
  rw [xS]
  dsimp only
  rw [hv G i h1]
  by_cases hi : i < xs.length
  ·rw [List.getElem?_eq_getElem hi, List.drop_eq_getElem_cons hi, fq]
   dsimp only
   cases g xs[i] τ with
   | none => rfl
   | some τ1 =>
    dsimp only
    cases body τ1 G with
    | nx τ2 G2 => exact x9 hv fuel (i + 1) τ2 G2 (by omega) (by omega)
    | ct τ2 G2 => exact x9 hv fuel (i + 1) τ2 G2 (by omega) (by omega)
    | _ => rfl
  ·rw [List.getElem?_eq_none (by omega), List.drop_eq_nil_of_le (by omega), fq]
theorem zX {gO : D → Option (List D)} {ks : List Bool} {tt : DS → M Bool} {te : DS → M D} {vw : View} (hv : ∀ G i, i ≤ xs.length → vw G i = some xs[i]?) : ∀ (fuel i : Nat) (τ : DS) (G : DH), i ≤ xs.length → xs.length < fuel + i → rB gO ks tt te n vw fuel i τ G = e9 gO ks tt te n (xs.drop i) τ G
 | 0, i, τ, G, h1, h2 => by omega
 | fuel + 1, i, τ, G, h1, h2 => by
  rw [rB]
  rw [hv G i h1]
  by_cases hi : i < xs.length
  ·rw [List.getElem?_eq_getElem hi, List.drop_eq_getElem_cons hi, e9]
   dsimp only
   cases fH gO ks tt te n xs[i] τ G with
   | ok u G2 => exact zX hv fuel (i + 1) τ G2 (by omega) (by omega)
   | _ => rfl
  ·rw [List.getElem?_eq_none (by omega), List.drop_eq_nil_of_le (by omega), e9]
theorem Lg {g : tG} {body : MS} : xS g body (D5 (.con xs) xs.length) (xs.length + 1) 0 τ G = fq g body xs.reverse τ G := by
 have := x9 (g := g) (body := body) (xs := xs.reverse) (vw := D5 (.con xs) xs.length) (fun G i h => by
  simp only [List.length_reverse] at h
  simp only [D5, bE, if_true]
  by_cases hi : i = xs.length
  ·rw [if_pos hi, List.getElem?_eq_none (by simp; omega)]
  ·rw [if_neg hi, if_pos (by omega), List.getElem?_reverse (by omega)]) (xs.length + 1) 0 τ G (by simp) (by simp)
 simpa using this
theorem D8 {gO : D → Option (List D)} {ks : List Bool} {te : DS → M D} {x v : D} {os acc : List D} (h1 : gO x = some os) (h2 : te (os.map some ++ mask ks τ) (G ++ [.lst acc]) = .ok v (G ++ [.lst acc])) (hz : acc.length < sizeLine) :
  fH gO ks kc te G.length x τ (G ++ [.lst acc]) = .ok () (G ++ [.lst (acc ++ [v])]) := by
 simp only [fH, h1, kc, M.ret, h2, zb, if_pos hz, E6]
theorem vd {gO : D → Option (List D)} {ks : List Bool} {te : DS → M D} {own : D → List D} {f : D → D} : ∀ (xs acc : List D), acc.length + xs.length ≤ 1000000 → (∀ x ∈ xs, gO x = some (own x)) → (∀ x ∈ xs, ∀ acc, te ((own x).map some ++ mask ks τ) (G ++ [.lst acc]) = .ok (f x) (G ++ [.lst acc])) →
  e9 gO ks kc te G.length xs τ (G ++ [.lst acc]) = .ok (.obj G.length) (G ++ [.lst (acc ++ xs.map f)])
 | [], acc, _, _, _ => by simp [e9]
 | x :: xs, acc, hl, h1, h2 => by
  have hz : acc.length < sizeLine := Nat.lt_of_lt_of_le (by simp at hl; omega) (lz (n := 1000001) (by omega))
  rw [e9, D8 (h1 x (by simp)) (h2 x (by simp) acc) hz]
  dsimp only
  rw [vd xs (acc ++ [f x]) (by simp at hl ⊢; omega) (fun y hy => h1 y (by simp [hy])) (fun y hy => h2 y (by simp [hy]))]
  simp
end
theorem nG : ∀ {xs : List D}, (∀ x ∈ xs, x.closed = true) → bx xs = true
 | [], _ => rfl
 | x :: xs, h => by rw [bx, h x (by simp), nG fun y hy => h y (by simp [hy])]; rfl
theorem dB {α : Type} {f : α → D} {l : List α} (h : ∀ x, (f x).closed = true) : bx (l.map f) = true := nG (by
 intro x hx
 obtain ⟨a, _, rfl⟩ := List.mem_map.mp hx
 exact h a)
theorem nH {xs : List D} : (D.con xs).closed = bx xs := by rw [D.closed]
theorem ya {i : Int} : (D.int i).closed = true := by rw [D.closed] <;> simp
theorem aN {i : Str} : (D.str i).closed = true := by rw [D.closed] <;> simp
theorem cy : bx [] = true := rfl
theorem bI {x : D} {xs : List D} : bx (x :: xs) = (x.closed && bx xs) := by rw [bx]
mutual
noncomputable def D.pd : D → PyData
 | .bl b => .bool b
 | .int i => .int i
 | .str x => .str x
 | .tup ds => .tuple (Dq ds)
 | .con ds => .list (Dq ds)
 | _ => .none
noncomputable def Dq : List D → List PyData
 | [] => []
 | d :: r => d.pd :: Dq r
end
mutual
noncomputable def D.plain : D → Bool
 | .tup ds => fC ds
 | .con ds => fC ds
 | .str x => PyData.strOk x
 | .obj _ => false
 | .zM _ _ => false
 | .fn _ => false
 | _ => true
noncomputable def fC : List D → Bool
 | [] => true
 | d :: r => d.plain && fC r
end
mutual
noncomputable def D.dp : D → Nat
 | .tup ds => zY ds + 1
 | .con ds => zY ds + 1
 | _ => 0
noncomputable def zY : List D → Nat
 | [] => 0
 | d :: r => max d.dp (zY r)
end
mutual
theorem A0 (G : DH) : ∀ (d : D) (n : Nat), d.plain = true → d.dp < n → oV G n d = some d.pd
 | .kr, n + 1, _, _ => by simp [oV, D.pd]
 | .bl b, n + 1, _, _ => by simp [oV, D.pd]
 | .int b, n + 1, _, _ => by simp [oV, D.pd]
 | .str b, n + 1, _, _ => by simp [oV, D.pd]
 | .tup ds, n + 1, h, hn => by
  rw [oV, A1 G ds n (by simpa [D.plain] using h) (by rw [D.dp] at hn; omega), D.pd]; rfl
 | .con ds, n + 1, h, hn => by
  rw [oV, A1 G ds n (by simpa [D.plain] using h) (by rw [D.dp] at hn; omega), D.pd]; rfl
 | .obj k, n + 1, h, _ => by simp [D.plain] at h
 | .zM _ _, n + 1, h, _ => by simp [D.plain] at h
 | .fn _, n + 1, h, _ => by simp [D.plain] at h
theorem A1 (G : DH) : ∀ (ds : List D) (n : Nat), fC ds = true → zY ds < n → fT (oV G n) ds = some (Dq ds)
 | [], n, _, _ => by simp [fT, Dq]
 | d :: ds, n, h, hn => by
  have h' : d.plain = true ∧ fC ds = true := by simpa [fC] using h
  rw [zY] at hn
  rw [fT, A0 G d n h'.1 (by omega), A1 G ds n h'.2 (by omega), Dq]
end
mutual
theorem lay_of : ∀ (d : D), d.plain = true → d.pd.canLay0 = true
 | .kr, _ => by simp [D.pd, PyData.canLay0]
 | .bl b, _ => by simp [D.pd, PyData.canLay0]
 | .int b, _ => by simp [D.pd, PyData.canLay0]
 | .str b, h => by simpa [D.pd, PyData.canLay0, D.plain] using h
 | .tup ds, h => by
  rw [D.pd, PyData.canLay0]; exact A2 ds (by simpa [D.plain] using h)
 | .con ds, h => by
  rw [D.pd, PyData.canLay0]; exact A2 ds (by simpa [D.plain] using h)
 | .obj k, h => by simp [D.plain] at h
 | .zM _ _, h => by simp [D.plain] at h
 | .fn _, h => by simp [D.plain] at h
theorem A2 : ∀ (ds : List D), fC ds = true → PyData.canLayAll0 (Dq ds) = true
 | [], _ => by simp [Dq, PyData.canLayAll0]
 | d :: ds, h => by
  have h' : d.plain = true ∧ fC ds = true := by simpa [fC] using h
  rw [Dq, PyData.canLayAll0, lay_of d h'.1, A2 ds h'.2]; rfl
end
mutual
theorem IZ : ∀ (d : D), d.pd.depth ≤ d.dp
 | .kr => by simp [D.pd, PyData.depth]
 | .bl b => by simp [D.pd, PyData.depth]
 | .int b => by simp [D.pd, PyData.depth]
 | .str b => by simp [D.pd, PyData.depth]
 | .tup ds => by rw [D.pd, PyData.depth, D.dp]; exact Nat.succ_le_succ (D9 ds)
 | .con ds => by rw [D.pd, PyData.depth, D.dp]; exact Nat.succ_le_succ (D9 ds)
 | .obj k => by simp [D.pd, PyData.depth]
 | .zM _ _ => by simp [D.pd, PyData.depth]
 | .fn _ => by simp [D.pd, PyData.depth]
theorem D9 : ∀ (ds : List D), PyData.depthAll (Dq ds) ≤ zY ds
 | [] => by simp [Dq, PyData.depthAll]
 | d :: ds => by
  rw [Dq, PyData.depthAll, zY]
  have := IZ d
  have := D9 ds
  omega
end
mutual
theorem Ct : ∀ (d : D), PyData.eqv d.pd d.pd = true
 | .kr => by simp [D.pd, PyData.eqv]
 | .bl b => by simp [D.pd, PyData.eqv]
 | .int b => by simp [D.pd, PyData.eqv]
 | .str b => by simp [D.pd, PyData.eqv]
 | .tup ds => by rw [D.pd, PyData.eqv]; exact ve ds
 | .con ds => by rw [D.pd, PyData.eqv]; exact ve ds
 | .obj k => by simp [D.pd, PyData.eqv]
 | .zM _ _ => by simp [D.pd, PyData.eqv]
 | .fn _ => by simp [D.pd, PyData.eqv]
theorem ve : ∀ (ds : List D), PyData.eqvAll (Dq ds) (Dq ds) = true
 | [] => by simp [Dq, PyData.eqvAll]
 | d :: ds => by rw [Dq, PyData.eqvAll, Ct d, ve ds]; rfl
end
theorem I8 (g : Bool) (d : D) (G : DH) (h : d.plain = true) (hn : d.dp ≤ 580) : g7 g d d G = .ok (.bl (g ^^ true)) G := by
 have hd := IZ d
 unfold g7 BU
 rw [A0 G d deep h (by show d.dp < 600; omega)]
 dsimp only
 rw [if_pos (by rw [lay_of d h]; simp; omega), Ct]
end L3
end
section
set_option Elab.async false
set_option linter.all false
set_option maxRecDepth 100000
namespace L3
open PySem PySem.Spec L2
section
variable {prog : Program} {w : World} {A : Around} {E : Value → Shared → Prop} {s : Shared}
end
end L3
end
section
set_option Elab.async false
set_option linter.all false
set_option maxRecDepth 100000
namespace L3
open PySem PySem.Spec L2
noncomputable def vL (tp : Bool) (h : Heap) (it l : Addr) (i : Nat) : Prop := if tp = true then h.IsTupleIter it l i else h.IsListIter it l i
noncomputable def yU (tp : Bool) (h : Heap) (l : Addr) (xs : Array Value) : Prop := if tp = true then h.IsTuple l xs else h.IsList l xs
theorem vL.at {tp : Bool} {h h' : Heap} {it l : Addr} {i : Nat} (x : vL tp h it l i) (k : ∀ o, h.get? it = some o → h'.get? it = some o) : vL tp h' it l i := by
 cases tp
 ·exact Heap.IsListIter.at (show h.IsListIter it l i from x) k
 ·exact Heap.IsTupleIter.at (show h.IsTupleIter it l i from x) k
theorem yU.at {tp : Bool} {h h' : Heap} {l : Addr} {xs : Array Value} (x : yU tp h l xs) (k : ∀ o, h.get? l = some o → h'.get? l = some o) : yU tp h' l xs := by
 cases tp
 ·obtain ⟨o, e, r⟩ := (show h.IsList l xs from x)
  exact (⟨o, k o e, r⟩ : h'.IsList l xs)
 ·exact Heap.IsTuple.at (show h.IsTuple l xs from x) k
theorem vL.get {tp : Bool} {h : Heap} {it l : Addr} {i : Nat} (x : vL tp h it l i) : ∃ o, h.get? it = some o ∧ ∀ v, o.data ≠ .cell v := by
 cases tp
 ·obtain ⟨o, e, c, d⟩ := (show h.IsListIter it l i from x)
  exact ⟨o, e, fun v q => by rw [d] at q; cases q⟩
 ·obtain ⟨o, e, c, d⟩ := (show h.IsTupleIter it l i from x)
  exact ⟨o, e, fun v q => by rw [d] at q; cases q⟩
section
variable {prog : Program} {w : World} {A : Around} {E : Value → Shared → Prop} {s : Shared}
theorem se {tp : Bool} {it l : Addr} {i : Nat} {items : Array Value} {x : Value} {Q : Value → Shared → Prop} (hit : vL tp s.heap it l i)
  (ht : yU tp s.heap l items) (hx : items[i]? = some x)
  (hQ : ∀ h', vL tp h' it l (i + 1) → Heap.SameBut it s.heap h' → Q x { s with heap := h' }) :
  wpAny (model prog w) A (Builtin.SmallTypes.nextOf (.ref it)) Q E s := by
 cases tp
 ·exact wpAny_nextOf_list_item (show s.heap.IsListIter it l i from hit) (show s.heap.IsList l items from ht) hx hQ
 ·exact wG (show s.heap.IsTupleIter it l i from hit) (show s.heap.IsTuple l items from ht) hx hQ
theorem GI {t1 t2 : Bool} {z TI TO i1 i2 l1 l2 : Addr} {k : Nat} {a b x y : Value} {xs ys : Array Value} {Q : Value → Shared → Prop} (D : ZipApart z TI TO i1 i2 l1 l2) (hz : IsZip s.heap z TI TO Value.none) (hTI : IsPair s.heap TI (.ref i1) (.ref i2)) (hTO : IsPair s.heap TO a b)
  (h1 : vL t1 s.heap i1 l1 k) (h2 : vL t2 s.heap i2 l2 k) (p1 : yU t1 s.heap l1 xs) (p2 : yU t2 s.heap l2 ys) (hx : xs[k]? = some x) (hy : ys[k]? = some y)
  (hQ : ∀ h', IsZip h' z TI TO (rawInt s.heap.objs.size) → IsPair h' TO x y → vL t1 h' i1 l1 (k + 1) → vL t2 h' i2 l2 (k + 1) → IsPair h' s.heap.objs.size x y → h'.objs.size = s.heap.objs.size + 1 →
   (∀ c o, c ≠ z → c ≠ TO → c ≠ i1 → c ≠ i2 → s.heap.get? c = some o → h'.get? c = some o) → Q (.ref s.heap.objs.size) { s with heap := h' }) :
  wpAny (model prog w) A (Builtin.«zip.__next__» { pos := [Value.ref z] }) (fun fin s' => ∃ v, fin = Fin.done (Flow.ret v) ∧ Q v s') E s := by
 unfold «Builtin».«zip.__next__»
 refine wpAny_bind (wpAny_pure ?_)
 dsimp only
 refine wpAny_bind (wpAny_field hz rfl (x := .bool false) rfl ?_)
 refine wpAny_bind (wpAny_field hz rfl (x := .ref TI) rfl ?_)
 refine wpAny_bind (wpAny_seqItems hTI rfl ?_)
 dsimp only
 rw [if_neg (by simp)]
 refine wpAny_bind ?_
 unfold Builtin.SmallTypes.ownedTupleIsFree
 refine wpAny_bind (wpAny_field hz rfl (x := .none) rfl ?_)
 dsimp only
 refine wpAny_pure ?_
 rw [if_pos rfl]
 refine wpAny_bind (wpAny_rule ?_)
 refine wpAny_bind (wpAny_field hz rfl (x := .ref TO) rfl ?_)
 dsimp only
 refine wpAny_bind (wpAny_setField_rec hz (by simp) fun Ur z1 s1 => ?_)
 have k1 : ∀ c o, c ≠ z → s.heap.get? c = some o → Ur.get? c = some o := fun c o hc q => (s1.2 c hc).trans q
 refine wpAny_bind ?_
 rw [show [Value.ref i1, Value.ref i2].zipIdx = [(.ref i1, 0), (.ref i2, 1)] from rfl, List.forIn_cons]
 refine wpAny_bind ?_
 dsimp only
 refine wpAny_bind (wpAny_onRaise ?_)
 refine wpAny_bind (se (h1.at fun o q => k1 _ _ D.i1z q) (p1.at fun o q => k1 _ _ D.l1z q) hx fun h2' m1 s2 => wpAny_pure ?_)
 have k2 : ∀ c o, c ≠ z → c ≠ i1 → s.heap.get? c = some o → h2'.get? c = some o := fun c o hc hd q => (s2.2 c hd).trans (k1 c o hc q)
 dsimp only
 have Qn : IsPair h2' TO a b := k2 _ _ D.TOz D.TOi1 hTO
 refine wpAny_bind (wpAny_seqItems Qn rfl ?_)
 dsimp only
 refine wpAny_bind (wpAny_updateSeq_pair Qn fun h3' e3 s3 => ?_)
 refine wpAny_bind (wpAny_letGo (wpAny_pure ?_))
 have k3 : ∀ c o, c ≠ z → c ≠ i1 → c ≠ TO → s.heap.get? c = some o → h3'.get? c = some o := fun c o hc hd he q => (s3.2 c he).trans (k2 c o hc hd q)
 have YC : IsPair h3' TO x b := e3
 dsimp only
 rw [List.forIn_cons]
 refine wpAny_bind ?_
 dsimp only
 refine wpAny_bind (wpAny_onRaise ?_)
 refine wpAny_bind (se (h2.at fun o q => k3 _ _ D.i2z D.i12.symm D.TOi2.symm q) (p2.at fun o q => k3 _ _ D.l2z D.l2i1 D.l2TO q) hy fun Wj m2 s4 => wpAny_pure ?_)
 dsimp only
 have Wl : IsPair Wj TO x b := (s4.2 _ D.TOi2).trans YC
 refine wpAny_bind (wpAny_seqItems Wl rfl ?_)
 dsimp only
 refine wpAny_bind (wpAny_updateSeq_pair Wl fun NV e5 s5 => ?_)
 refine wpAny_bind (wpAny_letGo (wpAny_pure ?_))
 have k5 : ∀ c o, c ≠ z → c ≠ i1 → c ≠ TO → c ≠ i2 → s.heap.get? c = some o → NV.get? c = some o := fun c o hc hd he hf q => (s5.2 c he).trans ((s4.2 c hf).trans (k3 c o hc hd he q))
 have Wm : IsPair NV TO x y := e5
 dsimp only
 rw [List.forIn_nil]
 refine wpAny_pure ?_
 dsimp only
 refine wpAny_bind (wpAny_seqItems Wm rfl ?_)
 dsimp only
 refine wpAny_bind (wpAny_newTuple ?_)
 refine wpAny_bind ?_
 unfold Builtin.SmallTypes.ownedTupleHandOut
 dsimp only
 have hsz : NV.objs.size = s.heap.objs.size := by
  have a1 := s1.1; have a2 := s2.1; have a3 := s3.1; have a4 := s4.1; have a5 := s5.1
  dsimp only at a2 a3 a4 a5
  omega
 have z5 := (s5.2 z D.TOz.symm).trans ((s4.2 z D.i2z.symm).trans ((s3.2 z D.TOz.symm).trans ((s2.2 z D.i1z.symm).trans z1)))
 have zn : z ≠ s.heap.objs.size := Nat.ne_of_lt (Heap.lt_size hz)
 rw [hsz]
 refine wpAny_bind (wpAny_setField_rec (Heap.get?_push_of_some _ z5) (by simp) fun h6' z6 s6 => ?_)
 refine wpAny_setField_rec z6 (by simp) fun Us z7 s7 => ?_
 refine wpAny_pure ⟨_, rfl, ?_⟩
 have k7 : ∀ c, c ≠ z → Us.get? c = (NV.push { cls := .type "tuple", data := .seq #[x, y] }).get? c := fun c hc => (s7.2 c hc).trans (s6.2 c hc)
 have k8 : ∀ c o, c ≠ z → NV.get? c = some o → Us.get? c = some o := fun c o hc q => (k7 c hc).trans (Heap.get?_push_of_some _ q)
 refine hQ Us z7 (k8 _ _ D.TOz Wm) (m1.at fun o q => ?_) (m2.at fun o q => ?_) ?_ ?_ (fun c o c1 c2 c3 c4 q => k8 c o c1 (k5 c o c1 c3 c2 c4 q))
 ·exact k8 _ _ D.i1z ((s5.2 _ D.TOi1.symm).trans ((s4.2 _ D.i12).trans ((s3.2 _ D.TOi1.symm).trans q)))
 ·exact k8 _ _ D.i2z ((s5.2 _ D.TOi2.symm).trans q)
 ·refine (k7 _ zn.symm).trans ?_
  rw [← hsz]; exact Heap.get?_push_size _ rfl
 ·have a6 := s6.1; have a7 := s7.1
  have a8 := Heap.size_push NV { cls := .type "tuple", data := .seq #[x, y] }
  dsimp only at a6 a7
  omega
end
end L3
namespace L3
open PySem PySem.Spec L2
section
variable {prog : Program} {w : World} {A : Around} {E : Value → Shared → Prop} {s : Shared}
theorem zZ {tp : Bool} {it l : Addr} {i : Nat} {items : Array Value} {Q : Value → Shared → Prop} (hh : A.handled = none) (hit : vL tp s.heap it l i)
  (ht : yU tp s.heap l items) (hx : items[i]? = none)
  (hE : ∀ h' e, Heap.ExtBut it s.heap h' → (∃ o, h'.get? e = some o ∧ o.cls = .type "StopIteration") → E (.ref e) { s with heap := h' }) :
  wpAny (model prog w) A (Builtin.SmallTypes.nextOf (.ref it)) Q E s := by
 cases tp
 ·exact wpAny_nextOf_list_end hh (show s.heap.IsListIter it l i from hit) (show s.heap.IsList l items from ht) hx hE
 ·exact xZ hh (show s.heap.IsTupleIter it l i from hit) (show s.heap.IsTuple l items from ht) hx hE
theorem Ja {t1 t2 : Bool} {z TI TO i1 i2 l1 l2 : Addr} {k : Nat} {a b : Value} {xs ys : Array Value} {Q : PySem.Fin → Shared → Prop} (hh : A.handled = none) (D : ZipApart z TI TO i1 i2 l1 l2) (hz : IsZip s.heap z TI TO Value.none) (hTI : IsPair s.heap TI (.ref i1) (.ref i2)) (hTO : IsPair s.heap TO a b)
  (h1 : vL t1 s.heap i1 l1 k) (h2 : vL t2 s.heap i2 l2 k) (p1 : yU t1 s.heap l1 xs) (p2 : yU t2 s.heap l2 ys) (hx : xs[k]? = none ∨ ys[k]? = none)
  (hE : ∀ h' e, (∀ c o, c ≠ z → c ≠ TO → c ≠ i1 → c ≠ i2 → s.heap.get? c = some o → h'.get? c = some o) → (∃ o, h'.get? e = some o ∧ o.cls = .type "StopIteration") → E (.ref e) { s with heap := h' }) :
  wpAny (model prog w) A (Builtin.«zip.__next__» { pos := [Value.ref z] }) Q E s := by
 unfold «Builtin».«zip.__next__»
 refine wpAny_bind (wpAny_pure ?_)
 dsimp only
 refine wpAny_bind (wpAny_field hz rfl (x := .bool false) rfl ?_)
 refine wpAny_bind (wpAny_field hz rfl (x := .ref TI) rfl ?_)
 refine wpAny_bind (wpAny_seqItems hTI rfl ?_)
 dsimp only
 rw [if_neg (by simp)]
 refine wpAny_bind ?_
 unfold Builtin.SmallTypes.ownedTupleIsFree
 refine wpAny_bind (wpAny_field hz rfl (x := .none) rfl ?_)
 dsimp only
 refine wpAny_pure ?_
 rw [if_pos rfl]
 refine wpAny_bind (wpAny_rule ?_)
 refine wpAny_bind (wpAny_field hz rfl (x := .ref TO) rfl ?_)
 dsimp only
 refine wpAny_bind (wpAny_setField_rec hz (by simp) fun Ur z1 s1 => ?_)
 have k1 : ∀ c o, c ≠ z → s.heap.get? c = some o → Ur.get? c = some o := fun c o hc q => (s1.2 c hc).trans q
 refine wpAny_bind ?_
 rw [show [Value.ref i1, Value.ref i2].zipIdx = [(.ref i1, 0), (.ref i2, 1)] from rfl, List.forIn_cons]
 refine wpAny_bind ?_
 dsimp only
 refine wpAny_bind (wpAny_onRaise ?_)
 cases Ut : xs[k]? with
 | none =>
  refine wpAny_bind (zZ hh (h1.at fun o q => k1 _ _ D.i1z q) (p1.at fun o q => k1 _ _ D.l1z q) Ut fun h2' e s2 he => ?_)
  obtain ⟨oe, ge, ce⟩ := he
  have z2 := s2 _ _ D.i1z.symm z1
  have Uu : e ≠ z := by
   rintro rfl
   rw [z2] at ge; cases ge; exact absurd (show Value.type "zip" = Value.type "StopIteration" from ce) (by decide)
  refine wpAny_setField_rec z2 (by simp) fun h3' z3 s3 => ?_
  exact hE _ _ (fun c o c1 c2 c3 c4 q => (s3.2 c c1).trans (s2 _ _ c3 (k1 c o c1 q))) ⟨oe, (s3.2 e Uu).trans ge, ce⟩
 | some x =>
 refine wpAny_bind (se (h1.at fun o q => k1 _ _ D.i1z q) (p1.at fun o q => k1 _ _ D.l1z q) Ut fun h2' m1 s2 => wpAny_pure ?_)
 have hy : ys[k]? = none := by
  rcases hx with hx | hx
  ·rw [Ut] at hx; cases hx
  ·exact hx
 have k2 : ∀ c o, c ≠ z → c ≠ i1 → s.heap.get? c = some o → h2'.get? c = some o := fun c o hc hd q => (s2.2 c hd).trans (k1 c o hc q)
 dsimp only
 have Qn : IsPair h2' TO a b := k2 _ _ D.TOz D.TOi1 hTO
 refine wpAny_bind (wpAny_seqItems Qn rfl ?_)
 dsimp only
 refine wpAny_bind (wpAny_updateSeq_pair Qn fun h3' e3 s3 => ?_)
 refine wpAny_bind (wpAny_letGo (wpAny_pure ?_))
 have k3 : ∀ c o, c ≠ z → c ≠ i1 → c ≠ TO → s.heap.get? c = some o → h3'.get? c = some o := fun c o hc hd he q => (s3.2 c he).trans (k2 c o hc hd q)
 dsimp only
 rw [List.forIn_cons]
 refine wpAny_bind ?_
 dsimp only
 refine wpAny_bind (wpAny_onRaise ?_)
 refine wpAny_bind (zZ hh (h2.at fun o q => k3 _ _ D.i2z D.i12.symm D.TOi2.symm q) (p2.at fun o q => k3 _ _ D.l2z D.l2i1 D.l2TO q) hy fun Wj e s4 he => ?_)
 obtain ⟨oe, ge, ce⟩ := he
 have z4 := s4 _ _ D.i2z.symm ((s3.2 z D.TOz.symm).trans ((s2.2 z D.i1z.symm).trans z1))
 have Uu : e ≠ z := by
  rintro rfl
  rw [z4] at ge; cases ge; exact absurd (show Value.type "zip" = Value.type "StopIteration" from ce) (by decide)
 refine wpAny_setField_rec z4 (by simp) fun NV z5 s5 => ?_
 exact hE _ _ (fun c o c1 c2 c3 c4 q => (s5.2 c c1).trans (s4 _ _ c4 (k3 c o c1 c3 c2 q))) ⟨oe, (s5.2 e Uu).trans ge, ce⟩
end
end L3
end
section
set_option Elab.async false
set_option linter.all false
set_option maxRecDepth 100000
namespace L3
open PySem PySem.Spec L2
section
variable {prog : Program} {w : World} {A : Around} {E : Value → Shared → Prop} {s : Shared}
theorem zd {t1 t2 : Bool} {z TI TO i1 i2 l1 l2 : Addr} {k : Nat} {a b x y : Value} {xs ys : Array Value} {Q : Option Value → Shared → Prop} (D : ZipApart z TI TO i1 i2 l1 l2) (hz : IsZip s.heap z TI TO Value.none) (hTI : IsPair s.heap TI (.ref i1) (.ref i2)) (hTO : IsPair s.heap TO a b)
  (h1 : vL t1 s.heap i1 l1 k) (h2 : vL t2 s.heap i2 l2 k) (p1 : yU t1 s.heap l1 xs) (p2 : yU t2 s.heap l2 ys) (hx : xs[k]? = some x) (hy : ys[k]? = some y)
  (hQ : ∀ h', IsZip h' z TI TO (rawInt s.heap.objs.size) → IsPair h' TO x y → vL t1 h' i1 l1 (k + 1) → vL t2 h' i2 l2 (k + 1) → IsPair h' s.heap.objs.size x y → h'.objs.size = s.heap.objs.size + 1 →
   (∀ c o, c ≠ z → c ≠ TO → c ≠ i1 → c ≠ i2 → s.heap.get? c = some o → h'.get? c = some o) → Q (some (.ref s.heap.objs.size)) { s with heap := h' }) :
  wpAny (model prog w) A (pyNext (.ref z)) Q E s := by
 have ht : s.TypeIs (.ref z) "zip" := ⟨_, hz, rfl⟩
 unfold pyNext
 refine wpAny_bind (wpAny_attempt (wpAny_callSpecial?_slot (name := Str.ofString "__next__") ht F.slot_zip_next (wpAny_call_entry F.slot_zip_next ht F.entry_zip_next ?_ (F.args_zip_next_1 _))))
 exact GI D hz hTI hTO h1 h2 p1 p2 hx hy fun h' a1 a2 a3 a4 a5 a6 a7 => wpAny_pure (hQ h' a1 a2 a3 a4 a5 a6 a7)
theorem A3 {t1 t2 : Bool} {z TI TO i1 i2 l1 l2 : Addr} {k : Nat} {a b : Value} {xs ys : Array Value} {Q : Option Value → Shared → Prop} (hh : A.handled = none) (D : ZipApart z TI TO i1 i2 l1 l2) (hz : IsZip s.heap z TI TO Value.none) (hTI : IsPair s.heap TI (.ref i1) (.ref i2)) (hTO : IsPair s.heap TO a b)
  (h1 : vL t1 s.heap i1 l1 k) (h2 : vL t2 s.heap i2 l2 k) (p1 : yU t1 s.heap l1 xs) (p2 : yU t2 s.heap l2 ys) (hx : xs[k]? = none ∨ ys[k]? = none)
  (hQ : ∀ h', (∀ c o, c ≠ z → c ≠ TO → c ≠ i1 → c ≠ i2 → s.heap.get? c = some o → h'.get? c = some o) → Q none { s with heap := h' }) :
  wpAny (model prog w) A (pyNext (.ref z)) Q E s := by
 have ht : s.TypeIs (.ref z) "zip" := ⟨_, hz, rfl⟩
 unfold pyNext
 refine wpAny_bind (wpAny_attempt (wpAny_callSpecial?_slot (name := Str.ofString "__next__") ht F.slot_zip_next (wpAny_call_entry F.slot_zip_next ht F.entry_zip_next ?_ (F.args_zip_next_1 _))))
 refine Ja hh D hz hTI hTO h1 h2 p1 p2 hx fun h' e hk he => ?_
 refine wpAny_bind (wpAny_isInstance (T := "StopIteration") (v := .ref e) he isSubtype_stop ?_)
 rw [if_pos rfl]
 exact wpAny_pure (hQ _ hk)
noncomputable def OP (tp : Bool) (l : Addr) : Obj := { cls := .type (if tp = true then "tuple_iterator" else "list_iterator"), data := .fields #[.ref l, .int 0 0] }
theorem Ma {tp : Bool} {l : Addr} {xs : Array Value} {Q : Value → Shared → Prop} (h : yU tp s.heap l xs) (hQ : Q (.ref s.heap.objs.size) { s with heap := s.heap.push (OP tp l) }) : wpAny (model prog w) A (pyIter (.ref l)) Q E s := by
 cases tp
 ·exact wpAny_pyIter_list (show s.heap.IsList l xs from h) hQ
 ·exact wpAny_pyIter_tuple (show s.heap.IsTuple l xs from h) hQ
end
noncomputable abbrev OQ (t1 : Bool) (h : Heap) (l1 : Addr) : Heap := h.push (OP t1 l1)
noncomputable abbrev NW (t1 t2 : Bool) (h : Heap) (l1 l2 : Addr) : Heap := (OQ t1 h l1).push (OP t2 l2)
noncomputable abbrev NX (t1 t2 : Bool) (h : Heap) (l1 l2 : Addr) : Heap := (NW t1 t2 h l1 l2).push { cls := .type "tuple", data := .seq #[.ref h.objs.size, .ref (OQ t1 h l1).objs.size] }
noncomputable abbrev OR (t1 t2 : Bool) (h : Heap) (l1 l2 : Addr) : Heap := (NX t1 t2 h l1 l2).push { cls := .type "tuple", data := .seq #[.none, .none] }
noncomputable abbrev Sy (t1 t2 : Bool) (h : Heap) (l1 l2 : Addr) : Heap := (OR t1 t2 h l1 l2).push { cls := .type "zip", data := .fields #[.none, .bool false, .bool false, .ref (NW t1 t2 h l1 l2).objs.size, .ref (NX t1 t2 h l1 l2).objs.size] }
theorem Ea (t1 t2 : Bool) (l1 l2 : Addr) (xs ys : Array Value) :
  Meets (Builtin.«zip.__new__» ⟨[.type "zip", .ref l1, .ref l2], []⟩) (fun _ R s => yU t1 s.heap l1 xs ∧ yU t2 s.heap l2 ys ∧
   R (.ok (.ret (.ref (OR t1 t2 s.heap l1 l2).objs.size))) { s with heap := Sy t1 t2 s.heap l1 l2 }) :=
 .of_wp fun prog w A R s h => by
  obtain ⟨h1, h2, h⟩ := h
  have hsub := sub_zip
  have h2' : yU t2 (s.heap.push (OP t1 l1)) l2 ys := h2.at fun o q => Heap.get?_push_of_some _ q
  unfold «Builtin».«zip.__new__»
  refine wpAny_bind ?_
  unfold Builtin.SmallTypes.newClass
  dsimp only
  refine wpAny_bind (wpAny_pure ?_)
  rw [if_neg (by decide), hsub]
  refine wpAny_bind (wpAny_pure ?_)
  rw [if_neg (by decide)]
  refine wpAny_pure ?_
  dsimp only
  rw [if_neg (by simp)]
  refine wpAny_bind ?_
  unfold Builtin.SmallTypes.iterAll
  dsimp only
  refine wpAny_bind ?_
  rw [List.forIn_cons]
  refine wpAny_bind (wpAny_bind (wpAny_holding (Ma h1 (wpAny_pure ?_))))
  dsimp only
  rw [List.forIn_cons]
  refine wpAny_bind (wpAny_bind (wpAny_holding (Ma h2' (wpAny_pure ?_))))
  dsimp only
  rw [List.forIn_nil]
  refine wpAny_pure (wpAny_pure ?_)
  refine wpAny_bind (wpAny_newTuple ?_ (by simp [sizeLine_eq]))
  refine wpAny_bind (wpAny_newTuple ?_ (by simp [sizeLine_eq]))
  refine wpAny_bind ?_
  unfold Builtin.SmallTypes.newRecord
  dsimp only
  exact wpAny_newObj_type (wpAny_pure ⟨_, rfl, h⟩) (by simp [sizeOk, sizeLine_eq, Builtin.SmallTypes.ownedTupleFields])
theorem GJ {prog : Program} {w : World} {A : Around} {E : Value → Shared → Prop} {s : Shared} {t1 t2 : Bool} {l1 l2 : Addr} {xs ys : Array Value} {Q : Value → Shared → Prop} (h1 : yU t1 s.heap l1 xs) (h2 : yU t2 s.heap l2 ys)
  (h : ∀ h', IsZip h' (s.heap.objs.size + 4) (s.heap.objs.size + 2) (s.heap.objs.size + 3) .none → IsPair h' (s.heap.objs.size + 2) (.ref s.heap.objs.size) (.ref (s.heap.objs.size + 1)) → IsPair h' (s.heap.objs.size + 3) .none .none →
   vL t1 h' s.heap.objs.size l1 0 → vL t2 h' (s.heap.objs.size + 1) l2 0 → h'.objs.size = s.heap.objs.size + 5 → (∀ c o, s.heap.get? c = some o → h'.get? c = some o) → Q (.ref (s.heap.objs.size + 4)) { s with heap := h' }) :
  wpAny (model prog w) A (call (.type "zip") [.ref l1, .ref l2]) Q E s := by
 refine callType_new F.called_zip (by decide) (F.typeCall_zip_2 _ _) (F.newCall_zip_2 _ _) (fun obj => F.args_object_init_3 obj _ _) F.entry_zip_new
  (Ea t1 t2 l1 l2 xs ys) ⟨h1, h2, ?_⟩
 have n1 : (OQ t1 s.heap l1).objs.size = s.heap.objs.size + 1 := Heap.size_push ..
 have n2 : (NW t1 t2 s.heap l1 l2).objs.size = s.heap.objs.size + 2 := by rw [NW, Heap.size_push, n1]
 have n3 : (NX t1 t2 s.heap l1 l2).objs.size = s.heap.objs.size + 3 := by rw [NX, Heap.size_push, n2]
 have n4 : (OR t1 t2 s.heap l1 l2).objs.size = s.heap.objs.size + 4 := by rw [OR, Heap.size_push, n3]
 have n5 : (Sy t1 t2 s.heap l1 l2).objs.size = s.heap.objs.size + 5 := by rw [Sy, Heap.size_push, n4]
 have gz := Heap.get?_push_size (OR t1 t2 s.heap l1 l2) (o := { cls := .type "zip", data := .fields #[.none, .bool false, .bool false, .ref (NW t1 t2 s.heap l1 l2).objs.size, .ref (NX t1 t2 s.heap l1 l2).objs.size] }) rfl
 have gO := Heap.get?_push_size (NX t1 t2 s.heap l1 l2) (o := { cls := .type "tuple", data := .seq #[.none, .none] }) rfl
 have gI := Heap.get?_push_size (NW t1 t2 s.heap l1 l2) (o := { cls := .type "tuple", data := .seq #[.ref s.heap.objs.size, .ref (OQ t1 s.heap l1).objs.size] }) rfl
 have g2 : vL t2 (NW t1 t2 s.heap l1 l2) (s.heap.objs.size + 1) l2 0 := by
  have := Heap.get?_push_size (OQ t1 s.heap l1) (o := OP t2 l2) rfl
  rw [n1] at this
  cases t2 <;> exact ⟨_, this, rfl, rfl⟩
 have g1 : vL t1 (OQ t1 s.heap l1) s.heap.objs.size l1 0 := by
  have := Heap.get?_push_size s.heap (o := OP t1 l1) rfl
  cases t1 <;> exact ⟨_, this, rfl, rfl⟩
 replace gz : IsZip (Sy t1 t2 s.heap l1 l2) (s.heap.objs.size + 4) (s.heap.objs.size + 2) (s.heap.objs.size + 3) .none := by rw [IsZip, ← n4, ← n2, ← n3]; exact gz
 replace gO : IsPair (OR t1 t2 s.heap l1 l2) (s.heap.objs.size + 3) .none .none := by rw [IsPair, ← n3]; exact gO
 replace gI : IsPair (NX t1 t2 s.heap l1 l2) (s.heap.objs.size + 2) (.ref s.heap.objs.size) (.ref (s.heap.objs.size + 1)) := by rw [IsPair, ← n2, ← n1]; exact gI
 have kp : ∀ {h : Heap} {o' : Obj} {c : Addr} {o : Obj}, h.get? c = some o → (h.push o').get? c = some o := fun q => Heap.get?_push_of_some _ q
 refine ⟨?_, ?_⟩
 ·rw [n4]; exact ⟨_, gz, rfl⟩
 ·rw [n4]
  exact h _ gz (kp (kp gI)) (kp gO) (g1.at fun o q => kp (kp (kp (kp q)))) (g2.at fun o q => kp (kp (kp q))) n5 fun c o q => kp (kp (kp (kp (kp q))))
end L3
end
section
set_option Elab.async false
set_option linter.all false
set_option maxRecDepth 100000
namespace L3
open PySem PySem.Spec L2
noncomputable def Jb (t : Bool) (K : PySem.W.Frag) (H : Hp) (a : Addr) (xs : List V) : Prop := if t = true then qS K H a xs else pD K H a xs
section
variable {X : Cx} {pins : List (Addr × Obj)} {σ : L2.St} {H : Hp} {s : Shared} {a : Addr} {xs ys : List V} {t : Bool}
theorem _root_.L2.Inv.GK (I : Inv X pins σ H s) (h : Jb t X.K H a xs) : ∃ its : List Value, Vals xs its ∧ yU t s.heap a its.toArray := by
 cases t
 ·obtain ⟨its, r, p, _⟩ := I.list (show pD X.K H a xs from h)
  exact ⟨its, r, p.isList⟩
 ·obtain ⟨its, r, p, _⟩ := I.tuple (show qS X.K H a xs from h)
  exact ⟨its, r, p⟩
theorem _root_.L2.Inv.Cu (I : Inv X pins σ H s) (h : Jb t X.K H a xs) (h' : Jb t X.K H a ys) : xs = ys := by
 cases t
 ·exact I.xr (show pD X.K H a xs from h) (show pD X.K H a ys from h')
 ·exact I.zA (show qS X.K H a xs from h) (show qS X.K H a ys from h')
theorem yU.lt {h : Heap} {its : Array Value} (p : yU t h a its) : a < h.objs.size := by
 cases t
 ·obtain ⟨o, e, _⟩ := (show h.IsList a its from p); exact Heap.lt_size e
 ·obtain ⟨o, e, _⟩ := (show h.IsTuple a its from p); exact Heap.lt_size e
end
noncomputable def NY (K : PySem.W.Frag) (t1 t2 : Bool) (a b : Addr) : It :=
 ⟨fun i H => ∃ xs ys x y, Jb t1 K H a xs ∧ Jb t2 K H b ys ∧ xs[i]? = some x ∧ ys[i]? = some y, fun i H v H' => ∃ x y p, (∀ xs, Jb t1 K H a xs → xs[i]? = some x) ∧ (∀ ys, Jb t2 K H b ys → ys[i]? = some y) ∧ H p = none ∧ v = .ref p ∧ H' = upd H p (.tup [x, y]), fun i H => ∃ xs ys, Jb t1 K H a xs ∧ Jb t2 K H b ys ∧ (xs.length ≤ i ∨ ys.length ≤ i)⟩
theorem GL {P : Program} {w : World} {K : PySem.W.Frag} {es : List Expr} {k : Nat} {pt : Pos} (t1 t2 : Bool) (l1 l2 z TI TO i1 i2 : Addr) (D : ZipApart z TI TO i1 i2 l1 l2) : Turn P w K (.Tuple es k pt) (NY K t1 t2 l1 l2) [z, TI, TO, i1, i2] z
  (fun i h => IsZip h z TI TO .none ∧ IsPair h TI (.ref i1) (.ref i2) ∧ (∃ a b, IsPair h TO a b) ∧ vL t1 h i1 l1 i ∧ vL t2 h i2 l2 i) where
 mem := by simp
 obj := fun i h ⟨hz, hTI, ⟨a, b, hTO⟩, h1, h2⟩ c hc => by
  simp only [List.mem_cons, List.not_mem_nil, or_false] at hc
  rcases hc with rfl | rfl | rfl | rfl | rfl
  ·exact ⟨_, hz, fun v e => by cases e⟩
  ·exact ⟨_, hTI, fun v e => by cases e⟩
  ·exact ⟨_, hTO, fun v e => by cases e⟩
  ·exact h1.get
  ·exact h2.get
 keep := fun i h h' ⟨hz, hTI, ⟨a, b, hTO⟩, h1, h2⟩ kp => ⟨kp z (by simp) _ hz, kp TI (by simp) _ hTI, ⟨a, b, kp TO (by simp) _ hTO⟩, h1.at fun o q => kp i1 (by simp) o q, h2.at fun o q => kp i2 (by simp) o q⟩
 item := by
  intro X hP hw hK hc i pins s σ H E I hf ⟨hz, hTI, ⟨a, b, hTO⟩, h1, h2⟩ hg
  subst hP hw hK
  obtain ⟨xs, ys, x, y, hq1, hq2, hx, hy⟩ := hg
  obtain ⟨Uv, Qo, p1⟩ := I.GK hq1
  obtain ⟨its2, OS, p2⟩ := I.GK hq2
  obtain ⟨u1, hu1, YD⟩ := Qo.get hx
  obtain ⟨u2, OT, Uw⟩ := OS.get hy
  have lt : ∀ {c o}, s.heap.get? c = some o → c ≠ s.heap.objs.size := fun e => Nat.ne_of_lt (Heap.lt_size e)
  have Ux : i1 ≠ s.heap.objs.size := by obtain ⟨o, q, _⟩ := h1.get; exact lt q
  have Uy : i2 ≠ s.heap.objs.size := by obtain ⟨o, q, _⟩ := h2.get; exact lt q
  refine zd D hz hTI hTO h1 h2 p1 p2 (x := u1) (y := u2) (by simpa using hu1) (by simpa using OT) fun h' a1 a2 a3 a4 a5 a6 hk => ?_
  refine ⟨.ref s.heap.objs.size, rfl, ?_⟩
  have I1 : Inv X pins σ (upd H s.heap.objs.size (.tup [x, y])) { s with heap := s.heap.push { cls := .type "tuple", data := .seq #[u1, u2] } } :=
   I.laid (t' := s.toks) (fun b o q => Heap.get?_push_of_some _ q) (Nat.le_refl _) ⟨by simp [sizeLine_eq], [u1, u2], .cons YD (.cons Uw .nil), PyProof.Rows.IsTup.new _ _⟩
  have hfree := I.hok.fresh (Nat.le_refl s.heap.objs.size)
  have hne : ∀ c ∈ [z, TI, TO, i1, i2], c ≠ s.heap.objs.size := fun c hc => by
   simp only [List.mem_cons, List.not_mem_nil, or_false] at hc
   rcases hc with rfl | rfl | rfl | rfl | rfl
   ·exact lt hz
   ·exact lt hTI
   ·exact lt hTO
   ·exact Ux
   ·exact Uy
  have hf1 : ∀ c ∈ [z, TI, TO, i1, i2], uL X pins (upd H s.heap.objs.size (.tup [x, y])) c := fun c hc => ⟨by rw [bL (hne c hc)]; exact (hf c hc).1, (hf c hc).2⟩
  refine wpAny_letOwnedTupleGo_zip (s := { s with heap := h' }) a1 fun h2' hz' hs' => ?_
  have Uz : IsPair h' TI (.ref i1) (.ref i2) := hk _ _ D.TIz D.TITO D.TIi1 D.TIi2 hTI
  refine ⟨.ref s.heap.objs.size, _, E5 (t' := s.toks) (s := { s with heap := s.heap.push { cls := .type "tuple", data := .seq #[u1, u2] } }) (ch := [z, TI, TO, i1, i2]) I1 (fun c o hc q => ?_) hf1, rfl, ⟨x, y, s.heap.objs.size, fun zs hz => by rw [I.Cu hz hq1]; exact hx, fun zs hz => by rw [I.Cu hz hq2]; exact hy, hfree, rfl, rfl⟩, ⟨hz', hs'.extBut _ _ D.TIz Uz, ⟨_, _, hs'.extBut _ _ D.TOz a2⟩, a3.at fun o q => hs'.extBut _ _ D.i1z q, a4.at fun o q => hs'.extBut _ _ D.i2z q⟩, fun c hc => (hf1 c hc).1⟩
  have c1 : c ≠ z := fun q => hc (by simp [q])
  have c2 : c ≠ TO := fun q => hc (by simp [q])
  have c3 : c ≠ i1 := fun q => hc (by simp [q])
  have c4 : c ≠ i2 := fun q => hc (by simp [q])
  refine hs'.extBut _ _ c1 ?_
  by_cases hcs : c = s.heap.objs.size
  ·subst hcs
   have := Heap.get?_push_size (o := { cls := .type "tuple", data := .seq #[u1, u2] }) s.heap rfl
   rw [this] at q; cases q
   exact a5
  ·have q' : (s.heap.push { cls := .type "tuple", data := .seq #[u1, u2] }).get? c = some o := q
   refine hk c o c1 c2 c3 c4 ?_
   rwa [Heap.get?_push_ne _ _ _ hcs] at q'
 done := by
  intro X hP hw hK hc i pins s σ H E I hf ⟨hz, hTI, ⟨a, b, hTO⟩, h1, h2⟩ hg
  subst hP hw hK
  obtain ⟨xs, ys, hq1, hq2, hx⟩ := hg
  obtain ⟨Uv, Qo, p1⟩ := I.GK hq1
  obtain ⟨its2, OS, p2⟩ := I.GK hq2
  have hl1 := Qo.length
  have hl2 := OS.length
  refine A3 (I.ok.hd hc) D hz hTI hTO h1 h2 p1 p2 (by
   rcases hx with hx | hx
   ·left; simp; omega
   ·right; simp; omega) fun h' hk => ⟨rfl, E5 (t' := s.toks) (ch := [z, TI, TO, i1, i2]) I (fun c o hc q => hk c o (fun e => hc (by simp [e])) (fun e => hc (by simp [e])) (fun e => hc (by simp [e])) (fun e => hc (by simp [e])) q) hf⟩
 self := fun _ _ _ _ _ ⟨hz, _⟩ h => wpAny_pyIter_zip hz h
noncomputable def fh (G : DH) (d : D) : Option (Bool × List D) := match bE G d with
 | some (.lst xs) => some (false, xs)
 | some (.tup xs) => some (true, xs)
 | _ => none
noncomputable def vM (d e : D) : View := fun G i => match fh G d, fh G e with
 | some (_, xs), some (_, ys) => some (match xs[i]?, ys[i]? with
  | some x, some y => some (.tup [x, y])
  | _, _ => none)
 | _, _ => none
noncomputable def vN (m : DS → M (List D)) : MI := fun τ => (m τ).bind fun ds => match ds with
 | [d, e] => fun G => match fh G d, fh G e with
  | some (_, xs), some (_, ys) => .ok (min xs.length ys.length + 1, vM d e) G
  | _, _ => .stuck
 | _ => M.stop
section
variable {X : Cx} {EE : gK} {tg iter a b : Expr} {g : tG} {mi : MI} {ms : MS} {pos p pc : Pos} {m : DS → M (List D)}
theorem Cv {pins : List (Addr × Obj)} {σ0 : L2.St} {H : Hp} {s : Shared} {ρ : List Addr} {G : DH} {d : D} {ds : List D} {x : V} {t : Bool} (h : lO X.K X.mg H ρ G) (r : Rep X.K X.mg ρ H d x) (e : fh G d = some (t, ds)) :
  ∃ p xs, x = .ref p ∧ Jb t X.K H p xs ∧ aG X.K X.mg ρ H ds xs := by
 unfold fh at e
 cases q : bE G d with
 | none => rw [q] at e; cases e
 | some k =>
  rw [q] at e
  cases k with
  | lst zs =>
   cases e
   obtain ⟨p, xs, h1, h2, h3⟩ := dX (pins := pins) (σ0 := σ0) (s := s) h r q
   exact ⟨p, xs, h1, h2, h3⟩
  | tup zs =>
   cases e
   obtain ⟨p, xs, h1, h2, h3⟩ := iV r q
   exact ⟨p, xs, h1, h2, h3⟩
  | str z => cases e
theorem Fq {H : Hp} {ρ : List Addr} {G : DH} {d : D} {ds : List D} {x : V} {t : Bool} (r : Rep X.K X.mg ρ H d x) (h : lO X.K X.mg H ρ G) (e : fh G d = some (t, ds)) :
  ∃ p xs, x = .ref p ∧ Jb t X.K H p xs ∧ aG X.K X.mg ρ H ds xs := by
 unfold fh at e
 cases q : bE G d with
 | none => rw [q] at e; cases e
 | some k =>
  rw [q] at e
  cases k with
  | lst zs =>
   cases e
   cases d with
   | con ds =>
    cases q
    unfold Rep at r
    obtain ⟨a', xs, e, s, r⟩ := r
    exact ⟨a', xs, e, s.seq, r⟩
   | obj n =>
    obtain ⟨a', rfl, e⟩ := (show ∃ a, x = .ref a ∧ ρ[n]? = some a by unfold Rep at r; exact r)
    obtain ⟨xs, h1, h2⟩ := IW fY.refl r h q
    exact ⟨a', xs, rfl, h1, h2⟩
   | _ => cases q
  | tup zs =>
   cases e
   obtain ⟨p, xs, h1, h2, h3⟩ := iV r q
   exact ⟨p, xs, h1, h2, h3⟩
  | str z => cases e
theorem Aa {H H' : Hp} {ρ ρ' : List Addr} {G G' : DH} {d : D} {l : Addr} {t t' : Bool} {ds ds' : List D} (q : fh G d = some (t, ds)) (q' : fh G' d = some (t', ds')) : t = t' := by
 unfold fh at q q'
 cases d with
 | tup xs => cases q; cases q'; rfl
 | con xs => cases q; cases q'; rfl
 | obj n =>
  dsimp only [bE] at q q'
  have f : ∀ {G : DH} {t : Bool} {ds : List D}, (match (match G[n]? with | some (.lst xs) => some (PM.lst xs) | _ => none) with | some (.lst xs) => some (false, xs) | some (.tup xs) => some (true, xs) | _ => none) = some (t, ds) → t = false := by
   intro G t ds h
   cases g : G[n]? with
   | none => rw [g] at h; cases h
   | some o => cases o <;> (rw [g] at h; cases h) <;> rfl
  exact (f q).trans (f q').symm
 | _ => cases q
theorem Lh {H : Hp} {ρ : List Addr} {G : DH} {d e : D} {l1 l2 : Addr} {t1 t2 : Bool} {ds es : List D} (r1 : Rep X.K X.mg ρ H d (.ref l1)) (r2 : Rep X.K X.mg ρ H e (.ref l2)) (k1 : fh G d = some (t1, ds)) (k2 : fh G e = some (t2, es)) : JV X.K X.mg (NY X.K t1 t2 l1 l2) (vM d e) H ρ := by
 intro i H' ρ' G' f hp
 unfold vM
 cases q1 : fh G' d with
 | none => exact ⟨fun e => (by cases e), fun x e => (by cases e)⟩
 | some s1 =>
  cases q2 : fh G' e with
  | none => exact ⟨fun e => (by cases e), fun x e => (by cases e)⟩
  | some s2 =>
     obtain ⟨u1, zs⟩ := s1
     obtain ⟨u2, ws⟩ := s2
     have e1 := Aa (H := H) (H' := H') (ρ := ρ) (ρ' := ρ') (l := l1) k1 q1
     have e2 := Aa (H := H) (H' := H') (ρ := ρ) (ρ' := ρ') (l := l2) k2 q2
     subst e1 e2
     dsimp only
     obtain ⟨p1, xs, y1, Sz, Wn⟩ := Fq (r1.mono f) hp q1
     obtain ⟨p2, ys, y2, OU, Qm⟩ := Fq (r2.mono f) hp q2
     cases y1; cases y2
     have l1e := Wn.length
     have l2e := Qm.length
     cases h1 : zs[i]? with
     | none =>
      refine ⟨fun _ => ⟨xs, ys, Sz, OU, .inl ?_⟩, fun x e => (by cases e)⟩
      rw [List.getElem?_eq_none_iff] at h1; omega
     | some x =>
      cases h2 : ws[i]? with
      | none =>
       refine ⟨fun _ => ⟨xs, ys, Sz, OU, .inr ?_⟩, fun x e => (by cases e)⟩
       rw [List.getElem?_eq_none_iff] at h2; omega
      | some y =>
       refine ⟨fun e => (by cases e), fun t e => ?_⟩
       cases e
       obtain ⟨v1, hv1, Qo⟩ := Wn.get h1
       obtain ⟨v2, hv2, OS⟩ := Qm.get h2
       refine ⟨⟨xs, ys, v1, v2, Sz, OU, hv1, hv2⟩, fun v H2 hy => ?_⟩
       obtain ⟨x', y', pp, hx', hy', hfree, rfl, rfl⟩ := hy
       have e1 := hx' xs Sz
       rw [hv1] at e1; cases e1
       have e2 := hy' ys OU
       rw [hv2] at e2; cases e2
       have ff : fY X.K H' (upd H' pp (.tup [v1, v2])) ρ' ρ' := lT hfree ρ'
       refine ⟨⟨ff, fun G hG => hG.new hfree⟩, ?_⟩
       unfold Rep
       exact ⟨pp, [v1, v2], rfl, .of gB, .cons (Qo.mono ff) (.cons (OS.mono ff) .nil)⟩
theorem Li {es : List Expr} {k : Nat} {pt : Pos} (hm : X.mg "zip" = none) (Hq : Gl X "zip") (ha : QA X EE [a, b] m) (h : aH [a, b] = true := by rfl) : QI X EE (.Tuple es k pt) (.Call (.Name "zip" p) [a, b] [] pc) (vN m) := by
 have h' : fB a = true ∧ aH [b] = true := by simpa [aH] using h
 intro pins s σ H R I hq
 obtain ⟨τ, ρ, G, ab, ok⟩ := hq
 dsimp only [vN, M.bind] at ok
 refine wpAny_Call_Name_kw (nv I Hq hm boot_zip ?_ (by decide) (by decide))
 have hA : vG X.K X.mg EE m σ H fun vs H1 => ∃ ρ1 G1 ds, Ab X.K X.mg σ H1 τ ρ1 G1 ∧ fY X.K H H1 ρ ρ1 ∧ aG X.K X.mg ρ1 H1 ds vs ∧ m τ G = .ok ds G1 := by
  refine ⟨τ, ρ, G, ab, ?_⟩
  cases e : m τ G with
  | stuck => rw [e] at ok; exact ok
  | fR c G' => rw [e] at ok; exact ok
  | ok ds G' => exact fun vs H' ρ' f eu r => ⟨ρ', G', ds, eu, f, r, rfl⟩
 refine PyProof.Rows.callWith_type1 (ja (ha pc pins s σ H _ I hA) fun us s1 Kv => ?_) (cj h'.1 _ _) (cU h'.2)
 obtain ⟨vs, H1, I1, r1, ρ1, G1, ds, uS, f1, rs, em⟩ := Kv
 rw [em] at ok
 dsimp only at ok
 match ds, rs, ok with
 | [], _, ok => exact ok.elim
 | [_], _, ok => exact ok.elim
 | _ :: _ :: _ :: _, _, ok => exact ok.elim
 | [d, e], rs, ok =>
  unfold aG at rs
  obtain ⟨x, rest, rfl, rx, rs⟩ := rs
  obtain ⟨y, rfl, ry⟩ := kU rs
  cases r1 with
  | cons ru rr =>
  rename_i u us'
  obtain ⟨u2, rfl, Uw⟩ := vals1 rr
  dsimp only at ok
  cases q : fh G1 d with
  | none => rw [q] at ok; exact ok.elim
  | some sk =>
   cases q2 : fh G1 e with
   | none => rw [q, q2] at ok; exact ok.elim
   | some YE =>
      rw [q, q2] at ok
      dsimp only at ok
      obtain ⟨t1, zs⟩ := sk
      obtain ⟨t2, ws⟩ := YE
      obtain ⟨l, ys, rfl, sq, rv⟩ := Cv (pins := pins) (σ0 := σ) (s := s1) uS.hp rx q
      obtain ⟨l2, ys2, rfl, OU, OS⟩ := Cv (pins := pins) (σ0 := σ) (s := s1) uS.hp ry q2
      cases ru
      cases Uw
      obtain ⟨its, vv, pl⟩ := I1.GK sq
      obtain ⟨its2, vv2, Wq⟩ := I1.GK OU
      refine GJ pl Wq fun h2 b1 b2 b3 b4 b5 hsz kp => ?_
      refine wpAny_pyIter_zip (s := { s1 with heap := h2 }) b1 ?_
      have I2 : Inv X pins σ H1 { s1 with heap := h2 } := I1.kept (t' := s1.toks) kp
      have ll : l < s1.heap.objs.size := pl.lt
      have YF : l2 < s1.heap.objs.size := Wq.lt
      have ll' : (l : Nat) < s1.heap.objs.size := ll
      have YG : (l2 : Nat) < s1.heap.objs.size := YF
      have D : ZipApart (s1.heap.objs.size + 4) (s1.heap.objs.size + 2) (s1.heap.objs.size + 3) s1.heap.objs.size (s1.heap.objs.size + 1) l l2 := by
       constructor <;> (intro q; simp only [Addr] at *; omega)
      refine ⟨s1.heap.objs.size + 4, _, _, NY X.K t1 t2 l l2, H1, rfl, I2, GL t1 t2 l l2 _ _ _ _ _ D, ⟨b1, b2, ⟨_, _, b3⟩, b4, b5⟩, fun c hc => ?_, ok _ H1 ρ1 f1 uS (Lh rx ry q q2)⟩
      have hge : s1.heap.objs.size ≤ c := by
       simp only [List.mem_cons, List.not_mem_nil, or_false] at hc
       rcases hc with rfl | rfl | rfl | rfl | rfl <;> omega
      exact I1.FP hge (I1.hok.fresh hge)
end
end L3
end
section
set_option Elab.async false
set_option linter.all false
set_option maxRecDepth 100000
namespace L3
open PySem PySem.Spec L2 PyProof.Rows
section
variable {X : Cx} {EE : gK} {p pos apos cpos : Pos} {e o : Expr} {m : DS → M (List D)} {mo : DS → M D}
end
section
variable {X : Cx} {pos : Pos}
end
noncomputable def UA (K : PySem.W.Frag) : Prop := ∀ h, K.In h → NoneBooked h
theorem NZ {K : PySem.W.Frag} (h1 : PySem.W.nsOkIn K cStatics = true) (h2 : PySem.W.nsIn K cStatics sharingNotToldKey = some none) : UA K := fun h X => ⟨_, .of_isNs (PySem.W.isNs_of_in X h1), PySem.W.nsMap_none_of_in X h1 h2⟩
section
variable {X : Cx} {EE : gK} {o i : Expr} {mo mi : DS → M D} {y : Str} {j1 : Nat} {p1 lp sp apos cpos : Pos}
noncomputable def Cw : List Expr → Option (List Str)
 | [] => some []
 | .Constant (.str x) _ _ :: es => (Cw es).map (x :: ·)
 | _ :: _ => none
noncomputable def Cy : Nat → List Str → List Value
 | _, [] => []
 | t, x :: xs => .str x t :: Cy (t + 1) xs
theorem Cz : ∀ {zs : List Str} {t n : Nat} {z : Str}, zs[n]? = some z → (Cy t zs)[n]? = some (.str z (t + n))
 | [], _, _, _, h => by simp at h
 | x :: xs, t, 0, z, h => by cases h; rfl
 | x :: xs, t, n + 1, z, h => by
  show (Cy (t + 1) xs)[n]? = _
  rw [Cz (zs := xs) (t := t + 1) (n := n) (z := z) (by simpa using h)]
  rw [show t + 1 + n = t + (n + 1) by omega]
theorem CA : ∀ {zs : List Str} {t : Nat}, (Cy t zs).length = zs.length
 | [], _ => rfl
 | x :: xs, t => congrArg (· + 1) (CA (zs := xs) (t := t + 1))
theorem Ac {M : Model} {A : Around} {E : Value → Shared → Prop} {env : Env} {pos : Pos} : ∀ {es : List Expr} {zs : List Str} {s : Shared} {Q : List Value → Shared → Prop}, Cw es = some zs → Q (Cy s.toks zs) { s with toks := s.toks + zs.length } → wpAny M A (spliced (backTo pos (starEach es env))) Q E s
 | [], zs, s, Q, h, q => by
  cases h
  exact Calls.spliced_nil q
 | e :: es, zs, s, Q, h, q => by
  match e, h, q with
  | .Constant (.str x) j p, h, q =>
   dsimp only [Cw] at h
   cases h' : Cw es with
   | none => rw [h'] at h; cases h
   | some ws =>
    rw [h'] at h; cases h
    rw [cj (e := .Constant (.str x) j p) rfl]
    show wpAny _ _ (spliced ((false, eval (.Constant (.str x) j p) env) :: backTo pos (starEach es env))) _ _ s
    refine Calls.spliced_cons (Calls.Constant_str ?_)
    refine Ac (es := es) h' ?_
    have e1 : s.toks + 1 + ws.length = s.toks + (x :: ws).length := by simp; omega
    show Q (.str x s.toks :: Cy (s.toks + 1) ws) { s with toks := s.toks + 1 + ws.length }
    rw [e1]; exact q
noncomputable def kY (y : Str) (zs : List Str) (x : Str) : D → M D
 | .int k => if 0 ≤ k ∧ k < 1000 then (match zs[k.toNat]? with
  | some z => if x.length + (x.length + 1) * z.length ≤ 16777216 then M.ret (.str (Txt.replace x y z)) else M.stop
  | none => M.stop) else M.stop
 | _ => M.stop
noncomputable def Lj (y : Str) (zs : List Str) (m : M D) : D → M D
 | .str x => m.bind (kY y zs x)
 | _ => M.stop
noncomputable def kZ (y : Str) (zs : List Str) (mo mi : DS → M D) : DS → M D := fun τ => (mo τ).bind (Lj y zs (mi τ))
theorem yb {es : List Expr} {zs : List Str} (hnb : UA X.K) (ho : QE X EE o mo) (hi : QE X EE i mi) (hes : Cw es = some zs) (YH : zs.length ≤ 1000) (YI : AS i = true) (hb : nE o = true) (hline : (apos.endLine == cpos.line) = true) : QE X EE (.Call (.Attribute o "replace" apos) [.Constant (.str y) j1 p1, .Subscript (.List es lp) i sp] [] cpos) (kZ y zs mo mi) := by
 intro pins s σ H Q I h
 have h2 := mw (k := fun τ => Lj y zs (mi τ)) h
 have hst : starEach [.Constant (.str y) j1 p1, .Subscript (.List es lp) i sp] X.env = [(false, eval (.Constant (.str y) j1 p1) X.env), (false, eval (.Subscript (.List es lp) i sp) X.env)] := by
  rw [cj rfl, cj rfl]; rfl
 refine wpAny_Call_method_late (jd hb _ _) (rY (es := [.Constant (.str y) j1 p1, .Subscript (.List es lp) i sp]) rfl (by simp)) hline rfl (ja (ho pins s σ H _ I h2) fun v s1 hv => ?_)
 obtain ⟨xv, H1, I1, r1, τ, ρ, G, d, ab, rd, ok⟩ := hv
 cases d <;> try exact ok.elim
 rename_i x
 have h3 : eV X.K X.mg EE (fun τ => (mi τ).bind (kY y zs x)) σ H1 Q := ⟨τ, ρ, G, ab, ok⟩
 have h4 := mw (k := fun _ => kY y zs x) h3
 unfold Rep at rd; subst rd
 obtain ⟨t, rfl⟩ := r1
 obtain ⟨g1, g2⟩ := AH I1 (x := .str x) (v := .str x t) ⟨t, rfl⟩ (T := "str") rfl
 refine ⟨"str", "str.replace", F.plainAttrs_str, F.slot_str_replace, F.type_str_replace, g1, g2, ?_⟩
 rw [hst]
 refine Calls.callWith_builtin (by rfl) (Calls.evalArgs_plain ?_)
 refine Calls.spliced_cons (Calls.Constant_str (k := j1) (pos := p1) (Calls.spliced_cons ?_))
 refine Subscript_ (wpAny_List_spliced (Ac hes ⟨by rw [CA]; exact Nat.le_trans YH (by decide), ?_⟩))
 let ob : Obj := { cls := .type "list", data := .seq (Cy (s1.toks + 1) zs).toArray }
 have I2 : Inv X pins σ H1 { s1 with heap := s1.heap.push ob, toks := s1.toks + 1 + zs.length } := I1.kept (t' := s1.toks + 1 + zs.length) (fun b u e => Heap.get?_push_of_some _ e) (by omega)
 have I3 : Inv X ((s1.heap.objs.size, ob) :: pins) σ H1 { s1 with heap := s1.heap.push ob, toks := s1.toks + 1 + zs.length } := I2.sZ fun p hp => by
  rcases List.mem_cons.mp hp with rfl | hp
  ·exact ⟨Heap.get?_push_size _ rfl, I1.hok.fresh (Nat.le_refl _), Nat.ne_of_gt I1.lt, I1.O1 (Nat.le_refl _), fun v z => nomatch z⟩
  ·exact I2.pin p (List.mem_append_right _ hp)
 refine ja (hi _ _ σ H1 _ I3 h4) fun u s3 hu => ?_
 obtain ⟨kv, H3, I4, r3, τ', ρ', G', d', eu, Wr, ok'⟩ := hu
 cases d' <;> try exact ok'.elim
 rename_i k
 dsimp only [kY] at ok'
 by_cases hk : 0 ≤ k ∧ k < 1000
 ·rw [if_pos hk] at ok'
  cases hz : zs[k.toNat]? with
  | none => rw [hz] at ok'; exact ok'.elim
  | some z =>
   rw [hz] at ok'
   dsimp only at ok'
   by_cases hc : x.length + (x.length + 1) * z.length ≤ 16777216
   ·rw [if_pos hc] at ok'
    unfold Rep at Wr; subst Wr
    obtain ⟨t', rfl⟩ := r3
    have hq := ok' (.str (Txt.replace x y z)) H3 ρ' .refl eu (by unfold Rep; rfl)
    have hp := (I4.pin (s1.heap.objs.size, ob) (List.mem_append_right _ (List.mem_cons_self ..))).1
    have hl : s3.heap.IsList s1.heap.objs.size (Cy (s1.toks + 1) zs).toArray := ⟨ob, hp, rfl, _, rfl⟩
    refine item_listR hl hk.1 (by omega) (x := .str z (s1.toks + 1 + k.toNat)) (by rw [List.getElem?_toArray]; exact Cz hz) ?_ (L1 YI _ _)
    refine Calls.spliced_nil ?_
    show wpAny _ _ (call (.builtin "str.replace") [.str x t, .str y s1.toks, .str z (s1.toks + 1 + k.toNat)]) _ _ _
    have h0 := I1.os.2
    have t1 : s1.toks ≠ 0 := Nat.ne_of_gt h0
    have t2 : s1.toks + 1 + k.toNat ≠ 0 := by omega
    have t3 : s1.toks ≠ s1.toks + 1 + k.toNat := by omega
    exact oF I4.os.2 (SC.replaceA t1 t2 t3 hc (fun t' k => fun ht => ⟨.str _, H3, (I4.tok k (ht := ht)).sZ (fun p hp => I4.pin p (by simp at hp ⊢; exact .inr (.inr hp))), ⟨_, rfl⟩, hq⟩) (hnb _ I4.Dp))
   ·rw [if_neg hc] at ok'; exact ok'.elim
 ·rw [if_neg hk] at ok'; exact ok'.elim
end
section
variable {X : Cx} {EE : gK}
noncomputable def Qp (X : Cx) (EE : gK) (st : List Stmt) (m : MS) : Prop := Pu X st (kT X.K X.mg EE m)
theorem UB {CX : yR} {k : Nat} {f : Addr} {fd : FuncData} {ps : List Str} {mf : List D → M D} {g x y : Str} {i j jc : Nat} {n : Int} {px py pc pg cpos pos : Pos} {rest : List Stmt} {mt : MS} (F : aW X.prog X.w X.K X.mg X.base CX k f fd ps (aQ X.K X.mg 2 mf)) (hr : iK k X.A) (hm : X.mg g = some (.ref f)) (hk : PySem.W.keepIn X.K (.ref f) = true) (hb : Binds X.K fd ps []) (hx : OM CX X EE) (hg : Gl X g)
  (hdg : (g == ("__debug__" : Str)) = false ∧ (g == ("__classdict__" : Str)) = false) (hN : X.N.Nodup) (YJ : Loc X.env.scope x) (hf : X.fn x = true ∨ X.env.scope.names.lookup x = some .local) (hv : X.env.scope.names.lookup y = some .local) (YK : (y == ("__debug__" : Str)) = false ∧ (y == ("__classdict__" : Str)) = false) (h2 : ER X EE rest mt) (hi : X.N[i]? = some x := by rfl) (hj : X.N[j]? = some y := by rfl) :
  Qp X EE (.Assign [.Name x px] (.Call (.Name g pg) [.Name y py, .Constant (.int n) jc pc] [] cpos) pos :: rest) (bq (bT i (aV 2 mf (af (ai j) (af (eC (.int n)) aq)))) mt) := by
 intro s σ H Dd I h
 have h1 := BY h
 have h3 := xD (m := aV 2 mf (af (ai j) (af (eC (.int n)) aq))) (k := fun τ d G => .nx (τ.set i (some d)) G) h1
 obtain ⟨τ, ρ, G, ab, ok⟩ := h3
 have hst : starEach [.Name y py, .Constant (.int n) jc pc] X.env = (false, eval (.Name y py) X.env) :: starEach [.Constant (.int n) jc pc] X.env := cj rfl _ _
 have UC : starEach [.Constant (.int n) jc pc] X.env = (false, eval (.Constant (.int n) jc pc) X.env) :: starEach [] X.env := cj rfl _ _
 unfold aV aA af ai eC aq at ok
 dsimp only [M.bind, M.ret] at ok
 cases e : τ[j]? with
 | none => rw [e] at ok; exact ok.elim
 | some o =>
  cases o with
  | none => rw [e] at ok; exact ok.elim
  | some d =>
   rw [e] at ok
   obtain ⟨v, e1, r⟩ := ab.st.2 j d e
   obtain ⟨m, hn, hl⟩ := I.loc
   obtain ⟨u, ru, l⟩ := hl j y v hj e1 (.inl hv)
   refine wpAny_execs_cons (wpAny_Assign_Name ?_ (AU (e := .Call (.Name g pg) [.Name y py, .Constant (.int n) jc pc] [] cpos) rfl _ _ _))
   refine wpAny_Call_Name_kw (Calls.Name_function_global I.ok.kind hg (Calls.loadGlobal_global (by rw [I.ok.glob]; exact I.mod.glob.keeps I.bk) hm ?_) hdg.1)
   refine PySem.W.callWith_K (h₀ := X.base) I.ok.mod.Mv hk ?_ hst (cU (es := [.Constant (.int n) jc pc]) rfl)
   rw [hst]
   show wpAny _ _ (spliced ((false, eval (.Name y py) X.env) :: backTo cpos (starEach [.Constant (.int n) jc pc] X.env))) _ _ s
   refine Calls.spliced_cons ?_
   rcases l with ⟨OO, hml⟩ | ⟨OO, c, hc, hcell⟩
   ·refine wpAny_Name (wpAny_loadName_local I.ok.kind OO hn hml ?_) YK.1
    rw [UC]
    show wpAny _ _ (spliced ((false, eval (.Constant (.int n) jc pc) X.env) :: backTo cpos (starEach [] X.env))) _ _ s
    refine Calls.spliced_cons (wpAny_Constant_int ?_)
    refine Calls.spliced_nil ⟨I.Dp, ?_⟩
    have hn2 : [d, D.int n].length = 2 := rfl
    have ok : mO X.K X.mg EE H σ τ ρ ((if [d, D.int n].length = 2 then mf [d, .int n] else M.stop) G) _ := ok
    rw [if_pos hn2] at ok
    have hrs : aG X.K X.mg ρ H [d, .int n] [v, .int n] := .cons r (.cons (by unfold Rep; rfl) .nil)
    have YL : Vals [v, .int n] [u, .int n s.toks] := .cons ru (.cons ⟨_, rfl⟩ .nil)
    refine ja (AO F hr hb hx I YL ab hrs hn2 ok) fun w s1 ⟨z, H1, I1, r1, τ1, ρ1, G1, d1, uS, YM, J1⟩ => ?_
    refine xq I1 hN hi YJ r1 (fun s2 I2 => ?_) hf
    exact h2 [] s2 _ H1 Dd I2 (J1 _ H1 ρ1 .refl (Ab.set uS YM))
   ·rcases OO with z | z <;> (have z' := hv.symm.trans z; cases z')
theorem UD {P : Program} {w : World} {K : PySem.W.Frag} {mg : Str → Option Value} {base : Heap} {f : Addr} {fd : FuncData} {x qual : Str} {st : Stmt} {N ps : List Str} {k n nn : Nat} {ms : MS} {m : List D → M D} (F : sX K x qual st f fd) (S : bW N ps (aa st)) (hps : ps.length = n) (hN : N.length = nn) (hm : ∀ ds, m ds = cH nn ms ds)
  (hbody : ∀ (X : Cx) (EE : gK) (cdv : Value) (A : Around) (outer : List Env) (s : Shared) (H : Hp) (E : XK), X = gR (cu P w) P w K mg base N qual (aa st) f cdv A outer s H E → iK k (A.deeper (PyProof.Rows.envOfC qual (aa st) s.heap.objs.size f cdv)) →
   mS X EE → PassesOwn (model P w) X.A X.env X.xe → Qp X EE (aD st) ms) :
  rm P w K mg base (cu P w) (k + 1) f fd ps (aQ K mg n m) := by
 subst hps hN
 have e : m = fun ds => cH N.length ms ds := funext hm
 subst e
 obtain ⟨oc, od, kV, doc, pm, an, cdv, ct, osl, rfl, lk, hcd⟩ := F.ex
 refine M5 lk hcd S (fun vs H Q E h => h.len) fun A outer s H vs Q E hr h => ?_
 obtain ⟨ds, ρ, G, hn, hp, rs, ok⟩ := h
 refine ⟨_, hbody _ (fun c σ H' => ∀ cls, EW mg c cls → E cls none H') cdv A outer s H E rfl hr ?_ PassesOwn.leaving, ds.map some ++ List.replicate (N.length - ds.length) none, ρ, G, ⟨xE rs, hp⟩, ?_⟩
 ·intro pins σ H' s' e cls c I fx hc ee
  obtain ⟨B, fb, hok, Gq⟩ := fx
  refine B4 (L := s.heap.objs.size) I.ok.frames rfl fb fun h' a0 fl u => ?_
  have I' : Inv _ [] σ H' { s' with heap := h' } := Inv.LX (t := s'.toks) I Gq hok fl.1 u
  have EL : ∀ b o, s.heap.get? b = some o → b ∉ frs outer → b ∉ frs (PyProof.Rows.envOfC qual (aa st) s.heap.objs.size f cdv :: outer) := fun b o e hb z => by
   rcases List.mem_cons.mp (I.nt b z) with z | z
   ·exact absurd (Heap.lt_size e) (by rw [show b = s.heap.objs.size from z]; exact Nat.lt_irrefl _)
   ·exact hb z
  refine ⟨e, cls, a0, B, H', rfl, fl, ⟨I'.os, I'.bare, fun b o eb nb hb => Gq.keep b o eb nb (EL b o eb hb) (by intro z; exact absurd (show b ∈ ([] : List Addr) from z) (by simp)), fun b o eb hb => Gq.there b o eb (EL b o eb hb) (by intro z; exact absurd (show b ∈ ([] : List Addr) from z) (by simp)),
   fun b o eb nb hb => I'.base.slot b o eb nb hb (by intro z; exact absurd (show b ∈ ([] : List Addr) from z) (by simp)), fun b o eb nb => I'.base.free b o eb nb (by intro z; exact absurd (show b ∈ ([] : List Addr) from z) (by simp)), I'.base.tups, I'.base.qR, I'.base.rO, hok⟩, ee cls hc⟩
 ·dsimp only [cH] at ok
  cases q : ms (ds.map some ++ List.replicate (N.length - ds.length) none) G with
  | stuck => rw [q] at ok; exact ok
  | nx τ G' => rw [q] at ok; exact fun σ' H' ρ' f ab => ok .kr H' ρ' f ab.hp (by unfold Rep; rfl)
  | rt d G' => rw [q] at ok; exact fun v H' ρ' f hp r => ok v H' ρ' f hp r
  | bk τ G' => rw [q] at ok; exact ok.elim
  | ct τ G' => rw [q] at ok; exact ok.elim
  | xn c τ G' => rw [q] at ok; exact fun σ' H' ρ' f ab cls hc => ok cls H' ρ' hc f ab.hp
end
end L3
end
section
set_option Elab.async false
set_option linter.all false
set_option maxRecDepth 100000
namespace L3
open PySem PySem.Spec L2
theorem Qq {i j : Int} {G : DH} : bu (.int i) (.int j) G = .ok (.int (i + j)) G := Eq.trans rfl rfl
section
variable {τ : DS} {G : DH} {ma mb mo mi : DS → M D}
theorem CB {y : Str} {zs : List Str} : kZ y zs mo mi τ G = (mo τ G).bd (Lj y zs (mi τ)) := bR
theorem Jc {y x : Str} {zs : List Str} {m : M D} : Lj y zs m (.str x) G = (m G).bd (kY y zs x) := bR
theorem Ll {y x z : Str} {zs : List Str} {k : Int} (h0 : 0 ≤ k ∧ k < 1000) (hz : zs[k.toNat]? = some z) (hl : x.length ≤ 1000000) (hz' : z.length ≤ 10) : kY y zs x (.int k) G = .ok (.str (Txt.replace x y z)) G := by
 have : (x.length + 1) * z.length ≤ (1000000 + 1) * 10 := Nat.mul_le_mul (by omega) hz'
 simp only [kY, if_pos h0, hz]
 rw [if_pos (by omega)]; rfl
theorem Ft {y z x : Str} (hne : (y == z) = false) (hl : x.length ≤ 1000000) (hz' : z.length ≤ 10) : y9 y z (.str x) G = .ok (.str (Txt.replace x y z)) G := by
 have : (x.length + 1) * z.length ≤ (1000000 + 1) * 10 := Nat.mul_le_mul (by omega) hz'
 simp only [y9]
 rw [if_pos ⟨hne, by omega⟩]; rfl
theorem Eb {gO : D → Option (List D)} {ks : List Bool} {tt : DS → M Bool} {te : DS → M D} {x : D} {os acc : List D} (h1 : gO x = some os) (h2 : tt (os.map some ++ mask ks τ) (G ++ [.lst acc]) = .ok false (G ++ [.lst acc])) :
  fH gO ks tt te G.length x τ (G ++ [.lst acc]) = .ok () (G ++ [.lst acc]) := by
 simp only [fH, h1, h2]
theorem CC {gO : D → Option (List D)} {ks : List Bool} {tt : DS → M Bool} {te : DS → M D} {x v : D} {os acc : List D} (h1 : gO x = some os) (h2 : tt (os.map some ++ mask ks τ) (G ++ [.lst acc]) = .ok true (G ++ [.lst acc])) (h3 : te (os.map some ++ mask ks τ) (G ++ [.lst acc]) = .ok v (G ++ [.lst acc])) (hz : acc.length < sizeLine) :
  fH gO ks tt te G.length x τ (G ++ [.lst acc]) = .ok () (G ++ [.lst (acc ++ [v])]) := by
 simp only [fH, h1, h2, h3, zb, if_pos hz, E6]
theorem fJ {gO : D → Option (List D)} {ks : List Bool} {tt : DS → M Bool} {te : DS → M D} {α : Type} {own : α → List D} {dat f : α → D} {c : α → Bool} : ∀ (as : List α) (acc : List D), acc.length + as.length ≤ 1000000 → (∀ x ∈ as, gO (dat x) = some (own x)) →
  (∀ x ∈ as, ∀ acc, tt ((own x).map some ++ mask ks τ) (G ++ [.lst acc]) = .ok (c x) (G ++ [.lst acc])) → (∀ x ∈ as, ∀ acc, te ((own x).map some ++ mask ks τ) (G ++ [.lst acc]) = .ok (f x) (G ++ [.lst acc])) →
  e9 gO ks tt te G.length (as.map dat) τ (G ++ [.lst acc]) = .ok (.obj G.length) (G ++ [.lst (acc ++ (as.filter c).map f)])
 | [], acc, _, _, _, _ => by simp [e9]
 | x :: as, acc, hl, h1, h2, h3 => by
  have hz : acc.length < sizeLine := Nat.lt_of_lt_of_le (by simp at hl; omega) (lz (n := 1000001) (by omega))
  rw [List.map_cons, e9]
  have hp := h2 x (by simp) acc
  cases hc : c x with
  | false =>
   rw [hc] at hp
   rw [Eb (h1 x (by simp)) hp]
   dsimp only
   rw [fJ as acc (by simp at hl; omega) (fun q hq => h1 q (by simp [hq])) (fun q hq => h2 q (by simp [hq])) (fun q hq => h3 q (by simp [hq])), List.filter_cons_of_neg (by rw [hc]; decide)]
  | true =>
   rw [hc] at hp
   rw [CC (h1 x (by simp)) hp (h3 x (by simp) acc) hz]
   dsimp only
   rw [fJ as (acc ++ [f x]) (by simp at hl ⊢; omega) (fun q hq => h1 q (by simp [hq])) (fun q hq => h2 q (by simp [hq])) (fun q hq => h3 q (by simp [hq])), List.filter_cons_of_pos hc]
   simp
end
noncomputable def GN (cur : List Nat) : List (List Nat) := if cur.isEmpty then [] else [cur]
noncomputable def bY : List Nat → List Nat → List (List Nat)
 | cur, [] => GN cur
 | cur, c :: r => if c = 32 then GN cur ++ bY [] r else if c = 10 then GN cur ++ bY [] r else if c = 40 then GN cur ++ [40] :: bY [] r else if c = 41 then GN cur ++ [41] :: bY [] r else bY (cur ++ [c]) r
noncomputable def A4 (x : List Nat) : List Nat := rp 41 [32, 41, 32] (rp 40 [32, 40, 32] (rp 10 [32] x))
theorem mY {cur : List Nat} (h : 32 ∉ cur) : (bV 32 cur).filter (fun l => !l.isEmpty) = GN cur := by
 rw [pO 32 cur h]
 unfold GN
 cases cur <;> rfl
theorem jO : GN [] = [] := rfl
theorem wl : ∀ (x cur : List Nat), 32 ∉ cur → (bV 32 (cur ++ A4 x)).filter (fun l => !l.isEmpty) = bY cur x
 | [], cur, h => by
  show (bV 32 (cur ++ [])).filter _ = _
  rw [List.append_nil, mY h]; rfl
 | c :: r, cur, h => by
  have one : ∀ {s : List Nat}, (A4 (c :: r)) = s ++ 32 :: A4 r → 32 ∉ s → (bV 32 (cur ++ A4 (c :: r))).filter (fun l => !l.isEmpty) = (bV 32 (cur ++ s)).filter (fun l => !l.isEmpty) ++ bY [] r := fun {s} e hs => by
   rw [e, ← List.append_assoc, iT, List.filter_append]
   have := wl r [] (by simp)
   rw [List.nil_append] at this
   rw [this]
  by_cases UE : c = 32
  ·subst UE
   rw [one (s := []) rfl (by simp), List.append_nil, mY h]; rfl
  ·by_cases NG : c = 10
   ·subst NG
    rw [one (s := []) rfl (by simp), List.append_nil, mY h]; rfl
   ·by_cases UG : c = 40
    ·subst UG
     have e : A4 (40 :: r) = [32, 40] ++ 32 :: A4 r := rfl
     rw [e, ← List.append_assoc, iT, List.filter_append, show cur ++ [32, 40] = cur ++ 32 :: [40] from rfl, iT, List.filter_append, mY h]
     have := wl r [] (by simp)
     rw [List.nil_append] at this
     rw [this]
     show (GN cur ++ [[40]]) ++ bY [] r = GN cur ++ [40] :: bY [] r
     simp
    ·by_cases UH : c = 41
     ·subst UH
      have e : A4 (41 :: r) = [32, 41] ++ 32 :: A4 r := rfl
      rw [e, ← List.append_assoc, iT, List.filter_append, show cur ++ [32, 41] = cur ++ 32 :: [41] from rfl, iT, List.filter_append, mY h]
      have := wl r [] (by simp)
      rw [List.nil_append] at this
      rw [this]
      show (GN cur ++ [[41]]) ++ bY [] r = GN cur ++ [41] :: bY [] r
      simp
     ·have e : A4 (c :: r) = [c] ++ A4 r := by simp [A4, rp, NG, UG, UH]
      rw [e, ← List.append_assoc, wl r (cur ++ [c]) (by simp [h]; exact fun z => UE z.symm)]
      rw [bY, if_neg UE, if_neg NG, if_neg UG, if_neg UH]
theorem A5 (c : Nat) (b : List Nat) (h : ∀ cur r, bY cur (b ++ r) = bY cur (c :: r)) : ∀ (x cur : List Nat), bY cur (rp c b x) = bY cur x
 | [], _ => rfl
 | d :: r, cur => by
  have ih := A5 c b h r
  by_cases e : d = c
  ·subst e
   have : rp d b (d :: r) = b ++ rp d b r := by simp [rp]
   rw [this, h]
   simp only [bY, ih]
  ·have : rp c b (d :: r) = d :: rp c b r := by simp [rp, e]
   rw [this]
   simp only [bY, ih]
theorem Ec (b : List Nat) (hb : b = [32] ∨ b = [32, 32] ∨ b = [10, 32]) (x cur : List Nat) : bY cur (rp 32 b x) = bY cur x :=
 A5 32 b (fun cur r => by rcases hb with rfl | rfl | rfl <;> simp [bY, jO]) x cur
theorem Ed (b : List Nat) (hb : b = [40, 32] ∨ b = [10, 40] ∨ b = [32, 40, 32]) (x cur : List Nat) : bY cur (rp 40 b x) = bY cur x :=
 A5 40 b (fun cur r => by rcases hb with rfl | rfl | rfl <;> simp [bY, jO]) x cur
theorem Ef (b : List Nat) (hb : b = [32, 41] ∨ b = [41, 10] ∨ b = [10, 32, 41, 32]) (x cur : List Nat) : bY cur (rp 41 b x) = bY cur x :=
 A5 41 b (fun cur r => by rcases hb with rfl | rfl | rfl <;> simp [bY, jO]) x cur
theorem CD : ∀ (p cur r r' : List Nat), (∀ cur, bY cur r = bY cur r') → bY cur (p ++ 32 :: 40 :: r) = bY cur (p ++ 40 :: r')
 | [], cur, r, r', h => by simp [bY, jO, h]
 | c :: p, cur, r, r', h => by
  have ih := fun cur => CD p cur r r' h
  simp only [List.cons_append, bY, ih]
theorem Ad : ∀ (ps : List (List Nat)) (cur : List Nat), bY cur (cK [40] ps) = bY cur (cK [32, 40] ps)
 | [], cur => rfl
 | [p], cur => rfl
 | p :: q :: ps, cur => by
  have ih := Ad (q :: ps)
  simp only [cK, List.append_assoc]
  exact (CD p cur _ _ fun cur => (ih cur).symm).symm
theorem vf (x y z : Str) (hy : (y.length == 0) = false) : ∃ ps, x = Str.join y ps ∧ Txt.replace x y z = Str.join z ps := by
 unfold Txt.replace
 rw [hy, Bool.false_and, Bool.or_false]
 cases he : (Builtin.Str.occurrences x y 0 x.length (x.length + 1)).isEmpty
 ·refine ⟨Builtin.Str.partsBetween x (Builtin.Str.occurrences x y 0 x.length (x.length + 1)) y.length, ?_, ?_⟩
  ·rw [← StrLaws.glued_eq_join, StrLaws.glued_between_self]
  ·rw [if_neg Bool.false_ne_true, StrLaws.glued_eq_join]
 ·exact ⟨[x], by rw [← StrLaws.glued_eq_join]; simp [Builtin.Str.glued], by rw [if_pos rfl, ← StrLaws.glued_eq_join]; simp [Builtin.Str.glued]⟩
theorem Lm (x : Str) (cur : List Nat) : bY cur (Txt.replace x " (" "(").cps.toList = bY cur x.cps.toList := by
 obtain ⟨ps, e1, e2⟩ := vf x " (" "(" rfl
 rw [e2, mC]
 conv => rhs; rw [e1, mC]
 exact Ad _ cur
theorem Ae (a b : List Nat) (h : a.length ≤ b.length) : ∀ ps, (cK a ps).length ≤ (cK b ps).length
 | [] => Nat.le_refl _
 | [p] => Nat.le_refl _
 | p :: q :: ps => by
  have := Ae a b h (q :: ps)
  simp only [cK, List.length_append]
  omega
theorem Ln (x : Str) : (Txt.replace x " (" "(").length ≤ x.length := by
 obtain ⟨ps, e1, e2⟩ := vf x " (" "(" rfl
 have h1 : (Txt.replace x " (" "(").cps.toList.length ≤ x.cps.toList.length := by
  rw [e2, mC]
  conv => rhs; rw [e1, mC]
  exact Ae _ _ (by decide) _
 simpa [Str.length] using h1
theorem yc (c k : Nat) (b : List Nat) (hb : b.length ≤ k) (hk : 1 ≤ k) : ∀ x : List Nat, (rp c b x).length ≤ k * x.length
 | [] => by simp [rp]
 | d :: r => by
  have ih := yc c k b hb hk r
  have e : rp c b (d :: r) = (if d = c then b else [d]) ++ rp c b r := by simp [rp]
  rw [e, List.length_append, List.length_cons, Nat.mul_add]
  split <;> simp <;> omega
end L3
end
section
set_option Elab.async false
set_option linter.all false
set_option maxRecDepth 100000
namespace L3
open PySem PySem.Spec L2 PyProof.Rows
section
variable {prog : Program} {w : World} {A : Around} {E : Value → Shared → Prop} {s : Shared}
end
section
variable {X : Cx} {EE : gK} {tg a : Expr} {p p2 pc pc2 : Pos} {m : DS → M (List D)}
end
end L3
end
section
set_option Elab.async false
set_option linter.all false
set_option maxRecDepth 100000
namespace L3
open PySem PySem.Spec L2
section
variable {X : Cx} {EE : gK} {a b : Expr} {pos : Pos} {ma mb m : DS → M D}
end
section
variable {τ : DS} {G : DH} {e : DS → M D} {ml : DS → M (List D)} {d : D}
section
variable {mv mo mi : DS → M D} {g : tG}
end
end
end L3
end
section
set_option Elab.async false
set_option linter.all false
set_option maxRecDepth 100000
namespace L3
open PySem PySem.Spec L2
section
variable {X : Cx} {EE : gK}
theorem GO {k n : Nat} (h : k < n) : seqIndex? (k : Int) n = some k := by
 unfold seqIndex?
 simp
 omega
noncomputable def lg : D → List D → M D
 | .obj n, [.int k] => fun G => match G[n]? with
  | some (.lst xs) => if 0 ≤ k ∧ k < 1000 then match xs[k.toNat]? with
   | some y => .ok y (G.set n (.lst (xs.eraseIdx k.toNat)))
   | none => .stuck
   else .stuck
  | _ => .stuck
 | _, _ => M.stop
theorem aG.eraseIdx {K : PySem.W.Frag} {mg : Str → Option Value} {ρ : List Addr} {H : Hp} : ∀ (n : Nat) {ds : List D} {vs : List V}, aG K mg ρ H ds vs → aG K mg ρ H (ds.eraseIdx n) (vs.eraseIdx n)
 | _, [], vs, h => by unfold aG at h; subst h; exact .nil
 | 0, d :: ds, vs, h => by
  unfold aG at h
  obtain ⟨v, r, rfl, h1, h2⟩ := h
  exact h2
 | n + 1, d :: ds, vs, h => by
  unfold aG at h
  obtain ⟨v, r, rfl, h1, h2⟩ := h
  exact .cons h1 (aG.eraseIdx n h2)
theorem GP : DE X "list.pop" (LW X EE lg) := by
 intro pins s σ0 H x xs v us Q I rx Ih ⟨σ, τ, ρ, G, d, ds, ab, rd, BJ, ok⟩
 cases d <;> try exact ok.elim
 rename_i n
 match ds, ok with
 | [], ok => exact ok.elim
 | y :: _ :: _, ok => cases y <;> exact ok.elim
 | [y], ok =>
  cases y <;> try exact ok.elim
  rename_i k
  obtain ⟨yv, rfl, ry⟩ := kU BJ
  unfold Rep at ry
  subst ry
  unfold Rep at rd
  obtain ⟨p, rfl, e1⟩ := rd
  dsimp only [lg] at ok
  cases g : G[n]? with
  | none => rw [g] at ok; exact ok.elim
  | some o =>
   cases o with
   | lst zs =>
    rw [g] at ok
    dsimp only at ok
    obtain ⟨p', vs, e2, hp, rs⟩ := ab.hp.lst g
    rw [e1] at e2; cases e2
    by_cases hk : 0 ≤ k ∧ k < 1000
    ·rw [if_pos hk] at ok
     cases qz : zs[k.toNat]? with
     | none => rw [qz] at ok; exact ok.elim
     | some y =>
      rw [qz] at ok
      obtain ⟨yv, ey, ry⟩ := rs.get qz
      have hl : k.toNat < vs.length := (List.getElem?_eq_some_iff.mp ey).1
      refine HK pins s σ0 H _ _ v us Q I rx Ih ⟨p, vs, k, k.toNat, yv, rfl, rfl, hp, by omega, by omega, ?_, ey, AQ (xs := zs) ab e1 hp (rs.eraseIdx _) (fun _ f => ry.mono f) ok⟩
      have := GO hl
      rwa [show ((k.toNat : Nat) : Int) = k by omega] at this
    ·rw [if_neg hk] at ok; exact ok.elim
   | _ => rw [g] at ok; exact ok.elim
end
section
variable {X : Cx} {EE : gK}  {o e e2 : Expr} {apos cpos : Pos} {mo : DS → M D} {m : DS → M (List D)}
theorem CF (ho : QE X EE o mo) (ha : QA X EE [e] m) (hb : nE o = true := by rfl) (h : aH [e] = true := by rfl) (hline : (apos.endLine == cpos.line) = true := by rfl) : QE X EE (.Call (.Attribute o "pop" apos) [e] [] cpos) (ck "list" lg mo m) := by
 have h' : fB e = true ∧ aH [] = true := by simpa [aH] using h
 exact B3 PySem.F.plainAttrs_list PySem.F.slot_list_pop PySem.F.type_list_pop GP ho ha (jd hb _ _) (rY h (by simp)) hline (cj h'.1 _ _) (cU (es := []) rfl)
end
theorem xg {P : Program} {w : World} {K : PySem.W.Frag} {mg : Str → Option Value} {base : Heap} {CX : yR} {k n : Nat} {f : Addr} {fd : FuncData} {ps : List Str} : aW P w K mg base CX k f fd ps (aQ K mg n (fun _ => M.stop)) :=
 ⟨fun vs H Q E ⟨ds, ρ, G, hn, hp, rs, ok⟩ => ok.elim, fun A outer s H args us vs Q E _ _ _ _ _ ⟨ds, ρ, G, hn, hp, rs, ok⟩ => ok.elim⟩
end L3
end
section
set_option Elab.async false
set_option linter.all false
set_option maxRecDepth 100000
set_option maxHeartbeats 4000000
namespace K14
open PySem PySem.Spec L2 L3
noncomputable def top (i : Nat) : Stmt := PySem.Challenge.pw_pathshape_k14_ways_written.main.body.getD i (.Pass ⟨0, 0, 0, 0⟩)
noncomputable abbrev bZ : Stmt := top 7
noncomputable abbrev dh : Stmt := top 10
noncomputable abbrev cI : Stmt := top 11
noncomputable abbrev aM : Stmt := top 12
noncomputable abbrev cS : Stmt := top 13
noncomputable abbrev cV : Stmt := top 14
noncomputable abbrev eZ : Stmt := top 15
noncomputable abbrev bC : Stmt := top 16
noncomputable abbrev cL : Stmt := top 17
noncomputable abbrev bS : Stmt := top 18
noncomputable abbrev dY : Stmt := top 19
noncomputable abbrev cD : Stmt := top 21
noncomputable abbrev bz : Stmt := top 22
noncomputable abbrev cN : Stmt := top 23
noncomputable abbrev d9 : Stmt := top 25
noncomputable abbrev cM : Stmt := top 26
noncomputable abbrev gh : Stmt := top 27
noncomputable abbrev cz : Stmt := top 28
noncomputable abbrev bA : Stmt := top 30
noncomputable abbrev bM : Stmt := top 31
noncomputable abbrev bB : Stmt := top 32
noncomputable abbrev bG : Stmt := top 33
noncomputable abbrev bf : Stmt := top 34
noncomputable abbrev aS : Stmt := top 35
noncomputable abbrev dI : Stmt := top 36
noncomputable def sf : D := .tup [.str "down", .str "deep", .str "later"]
noncomputable def kC : D := .tup [.str "start", .str "rule", .str "row", .str "mix", .str "many", .str "any", .str "kind", .str "not", .str "both", .str "either", .str "way", .str "mark"]
noncomputable def kP : D := .str "abcdefghijklmnopqrstuvwxyz"
noncomputable def qH : D := .int (8)
noncomputable abbrev vg : List Str := ["text"]
noncomputable abbrev Eg : Nat := 1
noncomputable def qI : MS := bq (jw (rR (EU (nA uQ (DL .str (ai 0)))) (gn (aC (uK false) (ai 0) (eC kC)))) (dF (eC (.bl false))) (bJ)) (bq (jw (rR (gn (aC (g7 false) (aA g8 (af (ai 0) (aq))) (eC (.int 0)))) (gn (aC wF (aA g8 (af (ai 0) (aq))) (eC qH)))) (dF (eC (.bl false))) (bJ)) (dF (aA (Ie false) (af (eFn (oG oN [] (ai 0) (kc) (aC (uK false) (ai 0) (eC kP)))) (aq)))))
noncomputable def mZ (ds : List D) : M D := eW (fun ds => cH 1 qI ds) ds
noncomputable abbrev sj : List Str := ["text", "spaced"]
noncomputable abbrev CG : Nat := 1
noncomputable def nI : MS := bq (jw (EU (nA uQ (DL .str (ai 0)))) (kW "NoText" (af (eC (.str "what is read must be a text")) (aq))) (bJ)) (bq (bT 1 (NN (y9 ")" " ) ") (NN (y9 "(" " ( ") (NN (y9 "\n" " ") (ai 0))))) (dF (eFn (oG oN [] (eFn (ck "str" xQ (ai 1) (af (eC (.str " ")) (aq)))) (gn (aC (g7 true) (ai 0) (eC (.str "")))) (ai 0)))))
noncomputable def lq (ds : List D) : M D := eW (fun ds => cH 2 nI ds) ds
noncomputable abbrev yd : List Str := ["part", "sort"]
noncomputable abbrev pP : Nat := 1
noncomputable def nJ : MS := bq (jw (tF (nA uQ (DL .tup (ai 0))) (gn (aC (g7 false) (aC cX (ai 0) (eC (.int 0))) (ai 1)))) (dF (aC cX (ai 0) (eC (.int 1)))) (bJ)) (kW "NoText" (af (NJ "what must stand here: " (ai 1)) (aq)))
noncomputable def fj (ds : List D) : M D := eW (fun ds => cH 2 nJ ds) ds
noncomputable abbrev nK : List Str := ["look"]
noncomputable def eH : MS := bq (jw (gn (aC (g7 false) (aC cX (ai 0) (eC (.int 0))) (eC (.str "way")))) (dF (eFn (oG (oT 2) [] (aC cX (ai 0) (eC (.int 1))) (kc) (ai 1)))) (bJ)) (bq (jw (gn (aC (uK false) (aC cX (ai 0) (eC (.int 0))) (aA eF (af (eC (.str "not")) (af (eC (.str "both")) (af (eC (.str "either")) (aq))))))) (dF (eFn (aA u0 (af (eFn (DK (ai 0) (iC (eC (.int 1))) (vH))) (aq))))) (bJ)) (dF (eFn (aA bQ (aq)))))
noncomputable def cP (ds : List D) : M D := eW (fun ds => cH 1 eH ds) ds
noncomputable abbrev Af : List Str := ["words"]
noncomputable abbrev nL : Nat := 1
noncomputable def qJ : MS := dF (aC bu (aC bu (eC (.str "(")) (ck "str" pL (eC (.str " ")) (af (ai 0) (aq)))) (eC (.str ")")))
noncomputable def cE (ds : List D) : M D := eW (fun ds => cH 1 qJ ds) ds
noncomputable abbrev tU : List Str := ["_law_script", "_law_many", "_law_found", "_law_k", "_law_cell"]
noncomputable abbrev ze : Nat := 1
noncomputable def iL : MS := bq (bT 4 (eC (.int 0))) (bq (jw (gn (aC wF (aA g8 (af (ai 0) (aq))) (eC (.int 0)))) (bT 4 (aC eB (aC cX (ai 0) (aC eB (ai 3) (aA g8 (af (ai 0) (aq))))) (aC Gf (eC (.int 10)) (eC (.int 18))))) (bJ)) (mQ (ck "list" fZ (ai 2) (af (aC bu (ai 4) (aC HR (eC (.int 7919)) (aC gp (ai 3) (aA (rT fun i j => if j > i then j else i) (af (eC (.int 1)) (af (aA g8 (af (ai 0) (aq))) (aq))))))) (aq)))))
noncomputable def kD : MS := bq (bT 2 (aA bQ (aq))) (bq (jN mR (gN 3) (af (ai 1) (aq)) iL) (dF (NQ (ai 2))))
noncomputable def g9 (ds : List D) : M D := eW (fun ds => cH 5 kD ds) ds
noncomputable abbrev vO : List Str := ["_law_draw", "_law_letters", "_law_name_here", "_law_k", "_law_at", "_law_taken"]
noncomputable abbrev A6 : Nat := 1
noncomputable def jf : MS := bq (bT 4 (aC bu (aC bu (aC gp (ai 0) (eC (.int 208))) (aC HR (aC HR (eC (.int 7)) (ai 3)) (ai 3))) (aC HR (aC eB (aC gp (ai 0) (eC (.int 5408))) (eC (.int 26))) (ai 3)))) (bT 2 (aC bu (ai 2) (aC cX (ai 1) (aC eB (ai 4) (eC (.int 26))))))
noncomputable def nM : MS := bq (bT 5 (eFn (aA bQ (af (eC (.str "start")) (af (eC (.str "rule")) (af (eC (.str "row")) (af (eC (.str "mix")) (af (eC (.str "many")) (af (eC (.str "any")) (af (eC (.str "kind")) (af (eC (.str "not")) (af (eC (.str "both")) (af (eC (.str "either")) (af (eC (.str "way")) (af (eC (.str "mark")) (aq)))))))))))))))) (bq (jw (gn (aC (uK false) (ai 2) (ai 5))) (dF (aC bu (ai 2) (eC (.str "z")))) (bJ)) (dF (ai 2)))
noncomputable def jX : MS := bq (bT 1 (eC (.str "abcdefghijklmnopqrstuvwxyz"))) (bq (bT 2 (aC cX (ai 1) (aC eB (ai 0) (eC (.int 26))))) (bq (jN mR (gN 3) (af (aC eB (aC gp (ai 0) (eC (.int 26))) (eC (.int 8))) (aq)) jf) (nM)))
noncomputable def fK (ds : List D) : M D := eW (fun ds => cH 6 jX ds) ds
noncomputable abbrev pQ : List Str := ["parts", "sort"]
noncomputable abbrev A7 : Nat := 2
noncomputable def lV : MS := dF (aA rZ (af (eFn (oG oN [false, true] (ai 0) (kc) (aV 2 fj (af (ai 0) (af (ai 2) (aq)))))) (aq)))
noncomputable def jY (ds : List D) : M D := eW (fun ds => cH 2 lV ds) ds
noncomputable abbrev Ag : List Str := ["part"]
noncomputable abbrev Eh : Nat := 2
noncomputable def qK : MS := bq (jw (nA uQ (aV 1 mZ (af (ai 0) (aq)))) (dF (ai 0)) (bJ)) (kW "NoText" (af (eC (.str "a name must stand here")) (aq)))
noncomputable def m5 (ds : List D) : M D := eW (fun ds => cH 1 qK ds) ds
noncomputable abbrev Ah : List Str := ["part"]
noncomputable abbrev nN : Nat := 2
noncomputable def kQ : MS := bq (jw (gn (aC (g7 false) (ai 0) (eC (.str "any")))) (dF (aA eF (af (eC (.str "any")) (aq)))) (bJ)) (bq (jw (tF (nA uQ (DL .tup (ai 0))) (gn (aC (g7 false) (aC cX (ai 0) (eC (.int 0))) (eC (.str "way"))))) (dF (aA eF (af (eC (.str "way")) (af (aC cX (ai 0) (eC (.int 1))) (aq))))) (bJ)) (dF (aV 2 fj (af (ai 0) (af (eC (.str "look")) (aq))))))
noncomputable def fE (ds : List D) : M D := eW (fun ds => cH 1 kQ ds) ds
noncomputable abbrev pR : List Str := ["look", "parts"]
noncomputable def dS : MS := bq (jw (gn (aC (uK false) (aC cX (ai 0) (eC (.int 0))) (aA eF (af (eC (.str "any")) (af (eC (.str "mark")) (aq)))))) (dF (aC cX (ai 0) (eC (.int 0)))) (bJ)) (bq (jw (gn (aC (g7 false) (aC cX (ai 0) (eC (.int 0))) (eC (.str "kind")))) (dF (aV 1 cE (af (eFn (aA bQ (af (eC (.str "kind")) (af (aC cX (ai 0) (eC (.int 1))) (aq))))) (aq)))) (bJ)) (bq (jw (gn (aC (g7 false) (aC cX (ai 0) (eC (.int 0))) (eC (.str "way")))) (dF (aV 1 cE (af (eFn (aC bu (eFn (aA bQ (af (eC (.str "way")) (aq)))) (eFn (pM (oT 2) [] (vN (af (aC cX (ai 0) (eC (.int 1))) (af (ai 1) (aq)))) (kc) (aV 1 cE (af (eFn (aA bQ (af (aC cX (ai 0) (eC (.int 0))) (af (ai 1) (aq))))) (aq))))))) (aq)))) (bJ)) (dF (aV 1 cE (af (eFn (aC bu (eFn (aA bQ (af (aC cX (ai 0) (eC (.int 0))) (aq)))) (ai 1))) (aq))))))
noncomputable def gW (ds : List D) : M D := eW (fun ds => cH 2 dS ds) ds
noncomputable abbrev vP : List Str := ["parts"]
noncomputable abbrev A8 : Nat := 3
noncomputable def lW : MS := bq (jw (gn (aC J0 (aA g8 (af (ai 0) (aq))) (eC (.int 2)))) (kW "NoText" (af (eC (.str "a way must have a step")) (aq))) (bJ)) (dF (aV 2 jY (af (eFn (DK (ai 0) (iC (eC (.int 1))) (vH))) (af (eC (.str "step")) (aq)))))
noncomputable def jZ (ds : List D) : M D := eW (fun ds => cH 1 lW ds) ds
noncomputable abbrev tV : List Str := ["parts"]
noncomputable abbrev zf : Nat := 3
noncomputable def ia : MS := bq (jw (tF (gn (aC (g7 false) (aA g8 (af (ai 0) (aq))) (eC (.int 2)))) (gn (aC (g7 false) (aC cX (ai 0) (eC (.int 0))) (eC (.str "kind"))))) (dF (aA eF (af (eC (.str "kind")) (af (aV 1 m5 (af (aC cX (ai 0) (eC (.int 1))) (aq))) (aq))))) (bJ)) (bq (jw (tF (gn (aC (g7 false) (aA g8 (af (ai 0) (aq))) (eC (.int 2)))) (gn (aC (g7 false) (aC cX (ai 0) (eC (.int 0))) (eC (.str "not"))))) (dF (aA eF (af (eC (.str "not")) (af (aV 1 fE (af (aC cX (ai 0) (eC (.int 1))) (aq))) (aq))))) (bJ)) (bq (jw (tF (gn (aC (g7 false) (aA g8 (af (ai 0) (aq))) (eC (.int 3)))) (gn (aC (uK false) (aC cX (ai 0) (eC (.int 0))) (aA eF (af (eC (.str "both")) (af (eC (.str "either")) (aq))))))) (dF (aA eF (af (aC cX (ai 0) (eC (.int 0))) (af (aV 1 fE (af (aC cX (ai 0) (eC (.int 1))) (aq))) (af (aV 1 fE (af (aC cX (ai 0) (eC (.int 2))) (aq))) (aq)))))) (bJ)) (kW "NoText" (af (eC (.str "no step, look or way stands in these brackets")) (aq)))))
noncomputable def eN (ds : List D) : M D := eW (fun ds => cH 1 ia ds) ds
noncomputable abbrev rE : List Str := ["parts"]
noncomputable def eX : MS := bq (jw (gn (aC (g7 false) (eFn (DK (ai 0) (vH) (iC (eC (.int 1))))) (eFn (aA bQ (af (eC (.str "way")) (aq)))))) (dF (aA eF (af (eC (.str "way")) (af (aV 1 jZ (af (ai 0) (aq))) (aq))))) (bJ)) (bq (jw (tF (gn (aC (g7 false) (aA g8 (af (ai 0) (aq))) (eC (.int 2)))) (gn (aC (uK false) (aC cX (ai 0) (eC (.int 0))) (eC sf)))) (dF (aA eF (af (eC (.str "step")) (af (aA eF (af (aC cX (ai 0) (eC (.int 0))) (af (aV 1 fE (af (aC cX (ai 0) (eC (.int 1))) (aq))) (aq)))) (aq))))) (bJ)) (dF (aA eF (af (eC (.str "look")) (af (aV 1 eN (af (ai 0) (aq))) (aq))))))
noncomputable def aJ (ds : List D) : M D := eW (fun ds => cH 1 eX ds) ds
noncomputable abbrev pS : List Str := ["text", "make", "unshut", "word", "parts"]
noncomputable abbrev wH : Nat := 5
noncomputable def oJ : MS := bq (bT 4 (ck "list" rV (ai 2) aq)) (bq (jw (gn (aC (g7 false) (aA g8 (af (ai 2) (aq))) (eC (.int 0)))) (kW "NoText" (af (eC (.str "a bracket is shut that was never begun")) (aq))) (bJ)) (mQ (ck "list" fZ (aC cX (ai 2) (HZ (eC (.int 1)))) (af (r8 1 1 (fun y => List.lookup y [("make_in_way", aJ), ("look_parts", cP)]) (af (NQ (ai 4)) (aq))) (aq)))))
noncomputable def dD : MS := jw (gn (aC (g7 false) (ai 3) (eC (.str "(")))) (mQ (ck "list" fZ (ai 2) (af (aA bQ (aq)) (aq)))) (jw (gn (aC (g7 false) (ai 3) (eC (.str ")")))) (oJ) (mQ (ck "list" fZ (aC cX (ai 2) (HZ (eC (.int 1)))) (af (ai 3) (aq)))))
noncomputable def oK : MS := bq (jw (gn (aC wF (aA g8 (af (ai 2) (aq))) (eC (.int 1)))) (kW "NoText" (af (eC (.str "a bracket is not shut")) (aq))) (bJ)) (bq (jw (gn (aC (g7 true) (aA g8 (af (aC cX (ai 2) (eC (.int 0))) (aq))) (eC (.int 1)))) (kW "NoText" (af (eC (.str "a text must write one thing")) (aq))) (bJ)) (dF (aC cX (aC cX (ai 2) (eC (.int 0))) (eC (.int 0)))))
noncomputable def jh : MS := bq (bT 2 (aA bQ (af (aA bQ (aq)) (aq)))) (bq (uV (gN 3) (aV 1 lq (af (ai 0) (aq))) dD) (oK))
noncomputable def gX (ds : List D) : M D := eW (fun ds => cH 5 jh ds) ds
noncomputable abbrev tW : List Str := ["top", "parts_of", "found", "waiting", "one"]
noncomputable abbrev zg : Nat := 5
noncomputable def jP : MS := bq (bT 4 (ck "list" rV (ai 3) aq)) (bq (mQ (ck "list" fZ (ai 2) (af (ai 4) (aq)))) (mQ (ck "list" Cs (ai 3) (af (eFn (aA Cd (af (r8 1 1 (fun y => List.lookup y [("make_in_way", aJ), ("look_parts", cP)]) (af (ai 4) (aq))) (aq)))) (aq)))))
noncomputable def kE : MS := bq (bT 2 (aA bQ (aq))) (bq (bT 3 (aA bQ (af (ai 0) (aq)))) (bq (je (gn (aC wF (aA g8 (af (ai 3) (aq))) (eC (.int 0)))) jP fuel) (dF (NQ (ai 2)))))
noncomputable def ji (ds : List D) : M D := eW (fun ds => cH 5 kE ds) ds
noncomputable abbrev ye : List Str := ["text"]
noncomputable abbrev pT : Nat := 6
noncomputable def nO : MS := dF (aV 2 fj (af (aV 2 gX (af (ai 0) (af (eC (.fn "make_in_way")) (aq)))) (af (eC (.str "way")) (aq))))
noncomputable def fV (ds : List D) : M D := eW (fun ds => cH 1 nO ds) ds
noncomputable abbrev CH : List Str := ["top", "parts_of", "make", "made", "one", "parts", "number"]
noncomputable abbrev GQ : Nat := 6
noncomputable def qL : MS := mQ (ck "list" fZ (ai 5) (af (ck "list" rV (ai 3) aq) (aq)))
noncomputable def iX : MS := bq (bT 5 (aA bQ (aq))) (bq (jN mR (gN 6) (af (aA g8 (af (r8 1 1 (fun y => List.lookup y [("make_in_way", aJ), ("look_parts", cP)]) (af (ai 4) (aq))) (aq))) (aq)) qL) (mQ (ck "list" fZ (ai 3) (af (r8 2 2 (fun y => List.lookup y [("look_text", gW)]) (af (ai 4) (af (NQ (ai 5)) (aq)))) (aq)))))
noncomputable def tX : MS := bq (bT 3 (aA bQ (aq))) (bq (Cf (gN 4) (La (af (aV 2 ji (af (ai 0) (af (ai 1) (aq)))) (aq))) iX) (dF (aC cX (ai 3) (eC (.int 0)))))
noncomputable def pU (ds : List D) : M D := eW (fun ds => cH 7 tX ds) ds
noncomputable abbrev vQ : List Str := ["look"]
noncomputable abbrev tY : Nat := 7
noncomputable def lX : MS := dF (aV 3 pU (af (ai 0) (af (eC (.fn "look_parts")) (af (eC (.fn "look_text")) (aq)))))
noncomputable def eY (ds : List D) : M D := eW (fun ds => cH 1 lX ds) ds
noncomputable abbrev yf : List Str := ["way"]
noncomputable abbrev CI : Nat := 8
noncomputable def nP : MS := dF (aV 1 eY (af (aA eF (af (eC (.str "way")) (af (ai 0) (aq)))) (aq)))
noncomputable def iU (ds : List D) : M D := eW (fun ds => cH 1 nP ds) ds
noncomputable abbrev vR : List Str := ["_law_draws_here", "_law_pool", "_law_deep", "_law_draw", "_law_way_here", "_law_one"]
noncomputable abbrev tZ : Nat := 0
noncomputable def t6 (bN di : List D → M D) : MS := bq (bT 5 (aV 3 bN (af (ai 0) (af (ai 1) (af (aC DJ (ai 2) (eC (.int 1))) (aq)))))) (dF (aA eF (af (aC cX (eFn (aA bQ (af (eC (.str "both")) (af (eC (.str "either")) (aq))))) (aC DJ (ai 4) (eC (.int 3)))) (af (ai 5) (af (aV 3 bN (af (ai 0) (af (ai 1) (af (aC DJ (ai 2) (eC (.int 1))) (aq))))) (aq))))))
noncomputable def fL (bN di : List D → M D) : MS := bq (bT 3 (eC (.int 0))) (bq (jw (gn (aC wF (aA g8 (af (ai 0) (aq))) (eC (.int 0)))) (bT 3 (ck "list" lg (ai 0) (af (eC (.int 0)) (aq)))) (bJ)) (bq (bT 4 (aC eB (ai 3) (eC (.int 7)))) (bq (jw (rR (gn (aC J0 (ai 2) (eC (.int 2)))) (rR (gn (aC (g7 false) (aA g8 (af (ai 0) (aq))) (eC (.int 0)))) (gn (aC J0 (ai 4) (eC (.int 2)))))) (dF (aC cX (eFn (aA bQ (af (aA eF (af (eC (.str "any")) (aq))) (af (aA eF (af (eC (.str "kind")) (af (aC cX (ai 1) (aC eB (aC gp (ai 3) (eC (.int 21))) (aA g8 (af (ai 1) (aq))))) (aq)))) (aq))))) (aA zU (af (aC wF (aC eB (aC gp (ai 3) (eC (.int 7))) (eC (.int 3))) (eC (.int 0))) (aq))))) (bJ)) (bq (jw (gn (aC (g7 false) (ai 4) (eC (.int 2)))) (dF (aA eF (af (eC (.str "not")) (af (aV 3 bN (af (ai 0) (af (ai 1) (af (aC DJ (ai 2) (eC (.int 1))) (aq))))) (aq))))) (bJ)) (bq (jw (gn (aC J0 (ai 4) (eC (.int 5)))) ((t6 bN di)) (bJ)) (dF (aA eF (af (eC (.str "way")) (af (aV 4 di (af (ai 0) (af (ai 1) (af (aC DJ (ai 2) (eC (.int 1))) (af (aC bu (eC (.int 1)) (aC eB (aC gp (ai 3) (eC (.int 7))) (eC (.int 3)))) (aq)))))) (aq))))))))))
noncomputable abbrev yg : List Str := ["_law_draws_here", "_law_pool", "_law_deep", "_law_many", "_law_steps", "_law_k", "_law_go"]
noncomputable abbrev CJ : Nat := 30
noncomputable def lY (bN di : List D → M D) : MS := bq (bT 6 (eC (.str "down"))) (bq (jw (gn (aC wF (aA g8 (af (ai 0) (aq))) (eC (.int 0)))) (bT 6 (aC cX (eFn (aA bQ (af (eC (.str "down")) (af (eC (.str "deep")) (af (eC (.str "later")) (aq)))))) (aC eB (ck "list" lg (ai 0) (af (eC (.int 0)) (aq))) (eC (.int 3))))) (bJ)) (mQ (ck "list" fZ (ai 4) (af (aA eF (af (ai 6) (af (aV 3 bN (af (ai 0) (af (ai 1) (af (aC DJ (ai 2) (eC (.int 1))) (aq))))) (aq)))) (aq)))))
noncomputable def jE (bN di : List D → M D) : MS := bq (bT 4 (aA bQ (aq))) (bq (jN mR (gN 5) (af (ai 3) (aq)) (lY bN di)) (dF (aA rZ (af (ai 4) (aq)))))
mutual
noncomputable def bO : Nat → List D → M D
  | 0, _ => M.stop
  | n + 1, ds => cH 6 (fL (bO n) (cJ n)) ds
noncomputable def cJ : Nat → List D → M D
  | 0, _ => M.stop
  | n + 1, ds => cH 7 (jE (bO n) (cJ n)) ds
end
noncomputable abbrev nQ : List D → M D := cJ 30
noncomputable abbrev jF : List Str := ["_law_look_here"]
noncomputable abbrev t7 : Nat := 80
noncomputable abbrev lZ : Nat := 0
noncomputable def b8 (aO bh : List D → M D) : MS := bq (jw (gn (aC (g7 false) (aC cX (ai 0) (eC (.int 0))) (eC (.str "way")))) (dF (aV 1 bh (af (aC cX (ai 0) (eC (.int 1))) (aq)))) (bJ)) (bq (jw (gn (aC (g7 false) (aC cX (ai 0) (eC (.int 0))) (eC (.str "any")))) (dF (eC (.str "any"))) (bJ)) (bq (jw (gn (aC (g7 false) (aC cX (ai 0) (eC (.int 0))) (eC (.str "kind")))) (dF (aC bu (aC bu (eC (.str "(kind ")) (aC cX (ai 0) (eC (.int 1)))) (eC (.str ")")))) (bJ)) (dF (aC bu (aC bu (aC bu (aC bu (eC (.str "(")) (aC cX (ai 0) (eC (.int 0)))) (eC (.str " "))) (ck "str" pL (eC (.str " ")) (af (eFn (oG oN [] (eFn (DK (ai 0) (iC (eC (.int 1))) (vH))) (kc) (aV 1 aO (af (ai 0) (aq))))) (aq)))) (eC (.str ")"))))))
noncomputable abbrev oM : List Str := ["_law_way_here", "_law_text", "_law_go", "_law_look_here"]
noncomputable abbrev vh : Nat := 80
noncomputable def gi (aO bh : List D → M D) : MS := bT 1 (aC bu (aC bu (aC bu (aC bu (aC bu (ai 1) (eC (.str " ("))) (ai 2)) (eC (.str " "))) (aV 1 aO (af (ai 3) (aq)))) (eC (.str ")")))
noncomputable def fF (aO bh : List D → M D) : MS := bq (bT 1 (eC (.str "(way"))) (bq (uV (gP 2 3) (ai 0) (gi aO bh)) (dF (aC bu (ai 1) (eC (.str ")")))))
mutual
noncomputable def aB : Nat → List D → M D
  | 0, _ => M.stop
  | n + 1, ds => eW (fun ds => cH 1 (b8 (aB n) (aI n)) ds) ds
noncomputable def aI : Nat → List D → M D
  | 0, _ => M.stop
  | n + 1, ds => eW (fun ds => cH 4 (fF (aB n) (aI n)) ds) ds
end
noncomputable abbrev ic : List D → M D := aB 80
noncomputable abbrev gC : List D → M D := aI 80
noncomputable abbrev Fv : List Str := ["_law_script", "_law_first", "_law_pool", "_law_draws_here", "_law_many", "_law_way_here", "_law_look_here", "_law_k", "_law_text", "_law_loose", "_law_marked"]
noncomputable def A9 : MS := bq (bT 4 (aC bu (eC (.int 6)) (aC eB (aC gp (aC cX (ai 1) (eC (.int 5))) (eC (.int 15))) (eC (.int 12))))) (bT 3 (DK (ai 3) (vH) (iC (aC bu (ai 4) (eC (.int 4))))))
noncomputable def vj : MS := bT 6 (aC cX (eFn (aA bQ (af (aA eF (af (eC (.str "not")) (af (ai 6) (aq)))) (af (aA eF (af (eC (.str "way")) (af (aA eF (af (aA eF (af (aC cX (eFn (aA bQ (af (eC (.str "down")) (af (eC (.str "deep")) (af (eC (.str "later")) (aq)))))) (aC eB (ai 7) (eC (.int 3)))) (af (ai 6) (aq)))) (aq))) (aq)))) (aq))))) (aC eB (aC gp (aC cX (ai 1) (eC (.int 8))) (aC bu (eC (.int 3)) (ai 7))) (eC (.int 2))))
noncomputable def yh : MS := bq (bT 6 (aC cX (aC cX (ai 5) (eC (.int 0))) (eC (.int 1)))) (bq (jN mR (gN 7) (af (aC eB (aC gp (aC cX (ai 1) (eC (.int 6))) (eC (.int 12))) (eC (.int 7))) (aq)) vj) (bT 5 (aC bu (aA eF (af (aA eF (af (aC cX (aC cX (ai 5) (eC (.int 0))) (eC (.int 0))) (af (ai 6) (aq)))) (aq))) (eFn (DK (ai 5) (iC (eC (.int 1))) (vH))))))
noncomputable def Ei : MS := bq (bT 3 (aC bu (eFn (oG oN [] (eFn (DK (ai 0) (iC (eC (.int 4))) (iC (eC (.int 24))))) (kc) (aC eB (ai 0) (aC Gf (eC (.int 10)) (eC (.int 18)))))) (eFn (DK (ai 1) (iC (eC (.int 4))) (iC (eC (.int 8))))))) (bq (bT 4 (aC bu (eC (.int 1)) (aC eB (aC cX (ai 1) (eC (.int 5))) (eC (.int 5))))) (bq (jw (gn (aC (g7 false) (aC eB (aC gp (aC cX (ai 1) (eC (.int 5))) (eC (.int 5))) (eC (.int 3))) (eC (.int 1)))) (A9) (bJ)) (bq (bT 5 (aV 4 nQ (af (ai 3) (af (ai 2) (af (eC (.int 6)) (af (ai 4) (aq))))))) (bq (jw (gn (aC (g7 false) (aC eB (aC gp (aC cX (ai 1) (eC (.int 5))) (eC (.int 5))) (eC (.int 3))) (eC (.int 2)))) (yh) (bJ)) (bq (bT 8 (aV 1 gC (af (ai 5) (aq)))) (bq (bT 9 (kZ " " [" ", "  ", "\n "] (ai 8) (aC eB (aC cX (ai 1) (eC (.int 6))) (eC (.int 3))))) (bq (jw (gn (aC (g7 false) (aC eB (aC gp (aC cX (ai 1) (eC (.int 6))) (eC (.int 3))) (eC (.int 2))) (eC (.int 1)))) (bT 9 (kZ "(" ["( ", "\n(", " ( "] (ai 9) (aC eB (aC cX (ai 1) (eC (.int 7))) (eC (.int 3))))) (bJ)) (bq (jw (gn (aC (g7 false) (aC eB (aC gp (aC cX (ai 1) (eC (.int 6))) (eC (.int 6))) (eC (.int 2))) (eC (.int 1)))) (bT 9 (kZ ")" [" )", ")\n", "\n ) "] (ai 9) (aC eB (aC cX (ai 1) (eC (.int 8))) (eC (.int 3))))) (bJ)) (bq (jw (rR (gn (aC (g7 true) (aV 1 iU (af (ai 5) (aq))) (ai 8))) (rR (gn (aC (g7 true) (aV 1 fV (af (ai 8) (aq))) (ai 5))) (gn (aC (g7 true) (aV 1 fV (af (ai 9) (aq))) (ai 5))))) (dF (eC (.bl false))) (bJ)) (bq (jw (gn (aC (g7 true) (aV 1 fV (af (NN (y9 " (" "(") (ai 8)) (aq))) (ai 5))) (dF (eC (.bl false))) (bJ)) (bq (bT 10 (aA eF (af (eC (.str "both")) (af (aA eF (af (eC (.str "mark")) (aq))) (af (aC cX (aC cX (ai 5) (eC (.int 0))) (eC (.int 1))) (aq)))))) (dF (aC (g7 false) (aV 1 eY (af (ai 10) (aq))) (aC bu (aC bu (eC (.str "(both mark ")) (aV 1 ic (af (aC cX (aC cX (ai 5) (eC (.int 0))) (eC (.int 1))) (aq)))) (eC (.str ")"))))))))))))))))
noncomputable def Fw : MS := bq (bT 1 (aV 2 g9 (af (ai 0) (af (eC (.int 9)) (aq))))) (bq (bT 2 (eFn (xM mR oN [false, true] (af (eC (.int 4)) (aq)) (kc) (aV 1 fK (af (aC cX (ai 2) (ai 0)) (aq)))))) (Ei))
noncomputable def Fx (ds : List D) : M D := eW (fun ds => cH 11 Fw ds) ds
structure UI where
  f : Nat → Addr
  d : Nat → FuncData
  c : Nat → Addr
structure Txt (K : PySem.W.Frag) (mg : Str → Option Value) (t : UI) : Prop where
  Ai : sX K "is_name" "is_name" bZ (t.f 0) (t.d 0)
  GR : Binds K (t.d 0) ["text"] []
  GS : mg "is_name" = some (.ref (t.f 0))
  nR : sX K "read_way" "read_way" dh (t.f 1) (t.d 1)
  sr : Binds K (t.d 1) ["text"] []
  su : mg "read_way" = some (.ref (t.f 1))
  yi : sX K "words_of" "words_of" cI (t.f 2) (t.d 2)
  Ej : Binds K (t.d 2) ["text"] []
  Ek : mg "words_of" = some (.ref (t.f 2))
  pV : sX K "read_bracket" "read_bracket" aM (t.f 3) (t.d 3)
  yj : Binds K (t.d 3) ["text", "make"] []
  yk : mg "read_bracket" = some (.ref (t.f 3))
  nS : sX K "value_of" "value_of" cS (t.f 4) (t.d 4)
  sy : Binds K (t.d 4) ["part", "sort"] []
  sA : mg "value_of" = some (.ref (t.f 4))
  vS : sX K "values_of" "values_of" cV (t.f 5) (t.d 5)
  CK : Binds K (t.d 5) ["parts", "sort"] []
  CL : mg "values_of" = some (.ref (t.f 5))
  Aj : sX K "name_of" "name_of" eZ (t.f 6) (t.d 6)
  GU : Binds K (t.d 6) ["part"] []
  GV : mg "name_of" = some (.ref (t.f 6))
  jQ : sX K "make_in_way" "make_in_way" bC (t.f 7) (t.d 7)
  mE : Binds K (t.d 7) ["parts"] []
  jR : mg "make_in_way" = some (.ref (t.f 7))
  vU : sX K "way_value" "way_value" cL (t.f 8) (t.d 8)
  CM : Binds K (t.d 8) ["parts"] []
  CN : mg "way_value" = some (.ref (t.f 8))
  t8 : sX K "look_value" "look_value" bS (t.f 9) (t.d 9)
  Ba : Binds K (t.d 9) ["parts"] []
  Bb : mg "look_value" = some (.ref (t.f 9))
  m6 : sX K "look_of" "look_of" dY (t.f 10) (t.d 10)
  qM : Binds K (t.d 10) ["part"] []
  qN : mg "look_of" = some (.ref (t.f 10))
  kF : sX K "look_parts" "look_parts" cD (t.f 11) (t.d 11)
  nT : Binds K (t.d 11) ["look"] []
  kG : mg "look_parts" = some (.ref (t.f 11))
  t9 : sX K "all_within" "all_within" bz (t.f 12) (t.d 12)
  Bc : Binds K (t.d 12) ["top", "parts_of"] []
  Bd : mg "all_within" = some (.ref (t.f 12))
  CO : sX K "folded" "folded" cN (t.f 13) (t.d 13)
  Jd : Binds K (t.d 13) ["top", "parts_of", "make"] []
  Je : mg "folded" = some (.ref (t.f 13))
  yl : sX K "show_way" "show_way" d9 (t.f 14) (t.d 14)
  El : Binds K (t.d 14) ["way"] []
  Em : mg "show_way" = some (.ref (t.f 14))
  pW : sX K "show_look" "show_look" cM (t.f 15) (t.d 15)
  vV : Binds K (t.d 15) ["look"] []
  vW : mg "show_look" = some (.ref (t.f 15))
  m7 : sX K "bracket" "bracket" gh (t.f 16) (t.d 16)
  qO : Binds K (t.d 16) ["words"] []
  qP : mg "bracket" = some (.ref (t.f 16))
  vX : sX K "look_text" "look_text" cz (t.f 17) (t.d 17)
  CP : Binds K (t.d 17) ["look", "parts"] []
  vY : mg "look_text" = some (.ref (t.f 17))
  ua : sX K "_law_draws" "_law_draws" bA (t.f 18) (t.d 18)
  Be : Binds K (t.d 18) ["_law_script", "_law_many"] []
  Bf : mg "_law_draws" = some (.ref (t.f 18))
  vZ : sX K "_law_name" "_law_name" bM (t.f 19) (t.d 19)
  CQ : Binds K (t.d 19) ["_law_draw"] []
  CS : mg "_law_name" = some (.ref (t.f 19))
  j0 : sX K "_law_look" "_law_look" bB (t.f 20) (t.d 20)
  mj : Binds K (t.d 20) ["_law_draws_here", "_law_pool", "_law_deep"] []
  bO : mg "_law_look" = some (.ref (t.f 20))
  sC : sX K "_law_way" "_law_way" bG (t.f 21) (t.d 21)
  ym : Binds K (t.d 21) ["_law_draws_here", "_law_pool", "_law_deep", "_law_many"] []
  cJ : mg "_law_way" = some (.ref (t.f 21))
  ie : sX K "_law_look_text" "_law_look_text" bf (t.f 22) (t.d 22)
  jG : Binds K (t.d 22) ["_law_look_here"] []
  aB : mg "_law_look_text" = some (.ref (t.f 22))
  kh : sX K "_law_way_text" "_law_way_text" aS (t.f 23) (t.d 23)
  oO : Binds K (t.d 23) ["_law_way_here"] []
  aI : mg "_law_way_text" = some (.ref (t.f 23))
  Qs : sX K "law" "law" dI (t.f 24) (t.d 24)
  Ws : Binds K (t.d 24) ["_law_script"] []
  M_law : mg "law" = some (.ref (t.f 24))
  Qt : mg "all" = none
  Qu : mg "int" = none
  kH : mg "isinstance" = none
  jj : mg "len" = none
  Jf : mg "list" = none
  Qv : mg "max" = none
  qQ : mg "range" = none
  yo : mg "reversed" = none
  Mb : mg "str" = none
  xh : mg "tuple" = none
  Qw : mg "zip" = none
  N1 : zN K mg "GOES" sf
  Bg : zN K mg "KEPT_WORDS" kC
  GW : zN K mg "LETTERS" kP
  GX : zN K mg "LONGEST" qH
  NB : UA K
  j3 : mg "NoText" = some (.ref (t.c 0))
  j4 : PySem.W.excIn K (t.c 0) DT "ValueError.__new__" = true
theorem Lo : DN "GOES" := by decide +kernel
theorem zh : DN "KEPT_WORDS" := by decide +kernel
theorem En : DN "LETTERS" := by decide +kernel
theorem Eo : DN "LONGEST" := by decide +kernel
theorem iY : DN "NoText" := by decide +kernel
theorem Ep : DN "_law_at" := by decide +kernel
theorem uc : DN "_law_cell" := by decide +kernel
theorem ig : DN "_law_deep" := by decide +kernel
theorem fM : DN "_law_draw" := by decide +kernel
theorem zj : DN "_law_draws" := by decide +kernel
theorem aT : DN "_law_draws_here" := by decide +kernel
theorem b9 : DN "_law_first" := by decide +kernel
theorem rF : DN "_law_found" := by decide +kernel
theorem yp : DN "_law_go" := by decide +kernel
theorem iZ : DN "_law_k" := by decide +kernel
theorem oQ : DN "_law_letters" := by decide +kernel
theorem kI : DN "_law_look" := by decide +kernel
theorem bF : DN "_law_look_here" := by decide +kernel
theorem jk : DN "_law_look_text" := by decide +kernel
theorem mF : DN "_law_loose" := by decide +kernel
theorem kJ : DN "_law_many" := by decide +kernel
theorem yq : DN "_law_marked" := by decide +kernel
theorem Bh : DN "_law_name" := by decide +kernel
theorem gQ : DN "_law_name_here" := by decide +kernel
theorem v9 : DN "_law_one" := by decide +kernel
theorem fO : DN "_law_pool" := by decide +kernel
theorem gj : DN "_law_script" := by decide +kernel
theorem rG : DN "_law_steps" := by decide +kernel
theorem zk : DN "_law_taken" := by decide +kernel
theorem ir : DN "_law_text" := by decide +kernel
theorem wc : DN "_law_way" := by decide +kernel
theorem aP : DN "_law_way_here" := by decide +kernel
theorem m8 : DN "_law_way_text" := by decide +kernel
theorem zl : DN "all_within" := by decide +kernel
theorem nU : DN "bracket" := by decide +kernel
theorem GY : DN "folded" := by decide +kernel
theorem CU : DN "found" := by decide +kernel
theorem Jg : DN "inner" := by decide +kernel
theorem Er : DN "is_name" := by decide +kernel
theorem iO : DN "look" := by decide +kernel
theorem nV : DN "look_of" := by decide +kernel
theorem zm : DN "look_parts" := by decide +kernel
theorem Bj : DN "look_text" := by decide +kernel
theorem zo : DN "look_value" := by decide +kernel
theorem Bk : DN "made" := by decide +kernel
theorem Fy : DN "make" := by decide +kernel
theorem yr : DN "make_in_way" := by decide +kernel
theorem Es : DN "name_of" := by decide +kernel
theorem Bl : DN "one" := by decide +kernel
theorem iP : DN "part" := by decide +kernel
theorem bP : DN "parts" := by decide +kernel
theorem pX : DN "parts_of" := by decide +kernel
theorem wI : DN "read_bracket" := by decide +kernel
theorem pY : DN "read_way" := by decide +kernel
theorem ud : DN "show_look" := by decide +kernel
theorem CV : DN "show_way" := by decide +kernel
theorem Lp : DN "sign" := by decide +kernel
theorem Bm : DN "sort" := by decide +kernel
theorem GZ : DN "spaced" := by decide +kernel
theorem Lq : DN "step" := by decide +kernel
theorem Jh : DN "str" := by decide +kernel
theorem kK : DN "text" := by decide +kernel
theorem Ji : DN "top" := by decide +kernel
theorem CW : DN "tuple" := by decide +kernel
theorem i6 : DN "unshut" := by decide +kernel
theorem pZ : DN "value_of" := by decide +kernel
theorem Bo : DN "values_of" := by decide +kernel
theorem sD : DN "waiting" := by decide +kernel
theorem N2 : DN "way" := by decide +kernel
theorem Bp : DN "way_value" := by decide +kernel
theorem ue : DN "word" := by decide +kernel
theorem Jj : DN "words" := by decide +kernel
theorem CY : DN "words_of" := by decide +kernel
theorem Jk : bootBuiltins "str" = some (.type (Ty.nm .str)) := by decide +kernel
theorem Jl : ("str" : Str) ≠ "__name__" := by decide +kernel
theorem CZ : bootBuiltins "tuple" = some (.type (Ty.nm .tup)) := by decide +kernel
theorem C0 : ("tuple" : Str) ≠ "__name__" := by decide +kernel
noncomputable def uf : Scope := {kind := .function, names := [ (.ofString ".0", .local), (.ofString "sign", .local), (.ofString "LETTERS", .globalImplicit)], isGenerator := false, isCoroutine := false, more := []}
theorem lA : dP (aa bZ) vg uf ["sign"] [] := ⟨by decide +kernel, rfl, by decide +kernel, by decide +kernel, by decide +kernel, by decide +kernel, by decide +kernel⟩
noncomputable def zp : Scope := {kind := .function, names := [(.ofString ".0", .local), (.ofString "word", .local)], isGenerator := false, isCoroutine := false, more := []}
theorem iQ : dP (aa cI) sj zp ["word"] [] := ⟨by decide +kernel, rfl, by decide +kernel, by decide +kernel, by decide +kernel, by decide +kernel, by decide +kernel⟩
noncomputable def lB : Scope := {kind := .function, names := [ (.ofString ".0", .local), (.ofString "part", .local), (.ofString "value_of", .globalImplicit), (.ofString "sort", .free)], isGenerator := false, isCoroutine := false, more := []}
theorem iu : dP (aa cV) pQ lB ["part"] [false, true] := ⟨by decide +kernel, rfl, by decide +kernel, by decide +kernel, by decide +kernel, by decide +kernel, by decide +kernel⟩
noncomputable def wJ : Scope := {kind := .function, names := [ (.ofString ".0", .local), (.ofString "go", .local), (.ofString "inner", .local)], isGenerator := false, isCoroutine := false, more := []}
theorem jl : dP (aa cD) nK wJ ["go", "inner"] [] := ⟨by decide +kernel, rfl, by decide +kernel, by decide +kernel, by decide +kernel, by decide +kernel, by decide +kernel⟩
noncomputable def p5 : Scope := {kind := .function, names := [ (.ofString ".0", .local), (.ofString "step", .local), (.ofString "part", .local), (.ofString "bracket", .globalImplicit)], isGenerator := false, isCoroutine := false, more := []}
theorem iw : dP (aa cz) pR p5 ["step", "part"] [] := ⟨by decide +kernel, rfl, by decide +kernel, by decide +kernel, by decide +kernel, by decide +kernel, by decide +kernel⟩
noncomputable def kq : Scope := {kind := .function, names := [ (.ofString ".0", .local), (.ofString "_law_one", .local), (.ofString "_law_look_text", .globalImplicit)], isGenerator := false, isCoroutine := false, more := []}
theorem gH : dP (aa bf) jF kq ["_law_one"] [] := ⟨by decide +kernel, rfl, by decide +kernel, by decide +kernel, by decide +kernel, by decide +kernel, by decide +kernel⟩
noncomputable def yt : Scope := {kind := .function, names := [ (.ofString ".0", .local), (.ofString "_law_k", .local), (.ofString "_law_name", .globalImplicit), (.ofString "_law_first", .free)], isGenerator := false, isCoroutine := false, more := []}
theorem nW : dP (aa dI) Fv yt ["_law_k"] [false, true] := ⟨by decide +kernel, rfl, by decide +kernel, by decide +kernel, by decide +kernel, by decide +kernel, by decide +kernel⟩
noncomputable def Jm : Scope := {kind := .function, names := [(.ofString ".0", .local), (.ofString "_law_cell", .local)], isGenerator := false, isCoroutine := false, more := []}
theorem sE : dP (aa dI) Fv Jm ["_law_cell"] [] := ⟨by decide +kernel, rfl, by decide +kernel, by decide +kernel, by decide +kernel, by decide +kernel, by decide +kernel⟩
theorem gk : LK (aa bA) "_law_cell" .local := by decide +kernel
theorem fW : LK (aa bA) "_law_found" .local := by decide +kernel
theorem gY : LK (aa bA) "_law_k" .local := by decide +kernel
theorem m9 : LK (aa bA) "_law_many" .local := by decide +kernel
theorem dH : LK (aa bA) "_law_script" .local := by decide +kernel
theorem jm : LK (aa bA) "len" .globalImplicit := by decide +kernel
theorem ug : LK (aa bA) "max" .globalImplicit := by decide +kernel
theorem qT : LK (aa bA) "range" .globalImplicit := by decide +kernel
theorem dm : LK (aa bB) "_law_deep" .local := by decide +kernel
theorem cF : LK (aa bB) "_law_draw" .local := by decide +kernel
theorem aU : LK (aa bB) "_law_draws_here" .local := by decide +kernel
theorem gr : LK (aa bB) "_law_look" .globalImplicit := by decide +kernel
theorem jA : LK (aa bB) "_law_one" .local := by decide +kernel
theorem cG : LK (aa bB) "_law_pool" .local := by decide +kernel
theorem oX : LK (aa bB) "_law_way" .globalImplicit := by decide +kernel
theorem cA : LK (aa bB) "_law_way_here" .local := by decide +kernel
theorem vm : LK (aa bB) "int" .globalImplicit := by decide +kernel
theorem jH : LK (aa bB) "len" .globalImplicit := by decide +kernel
theorem aK : LK (aa bf) "_law_look_here" .local := by decide +kernel
theorem jx : LK (aa bf) "_law_way_text" .globalImplicit := by decide +kernel
theorem j5 : LK (aa bM) "_law_at" .local := by decide +kernel
theorem eO : LK (aa bM) "_law_draw" .local := by decide +kernel
theorem gc : LK (aa bM) "_law_k" .local := by decide +kernel
theorem fD : LK (aa bM) "_law_letters" .local := by decide +kernel
theorem bH : LK (aa bM) "_law_name_here" .local := by decide +kernel
theorem i7 : LK (aa bM) "_law_taken" .local := by decide +kernel
theorem sF : LK (aa bM) "range" .globalImplicit := by decide +kernel
theorem oY : LK (aa bG) "_law_deep" .local := by decide +kernel
theorem eS : LK (aa bG) "_law_draws_here" .local := by decide +kernel
theorem iF : LK (aa bG) "_law_go" .local := by decide +kernel
theorem sG : LK (aa bG) "_law_k" .local := by decide +kernel
theorem oZ : LK (aa bG) "_law_look" .globalImplicit := by decide +kernel
theorem o4 : LK (aa bG) "_law_many" .local := by decide +kernel
theorem o5 : LK (aa bG) "_law_pool" .local := by decide +kernel
theorem gu : LK (aa bG) "_law_steps" .local := by decide +kernel
theorem wK : LK (aa bG) "len" .globalImplicit := by decide +kernel
theorem uh : LK (aa bG) "range" .globalImplicit := by decide +kernel
theorem um : LK (aa bG) "tuple" .globalImplicit := by decide +kernel
theorem iM : LK (aa aS) "_law_go" .local := by decide +kernel
theorem fX : LK (aa aS) "_law_look_here" .local := by decide +kernel
theorem jz : LK (aa aS) "_law_look_text" .globalImplicit := by decide +kernel
theorem dw : LK (aa aS) "_law_text" .local := by decide +kernel
theorem jI : LK (aa aS) "_law_way_here" .local := by decide +kernel
theorem iG : LK (aa bz) "found" .local := by decide +kernel
theorem uo : LK (aa bz) "len" .globalImplicit := by decide +kernel
theorem sH : LK (aa bz) "list" .globalImplicit := by decide +kernel
theorem jn : LK (aa bz) "one" .local := by decide +kernel
theorem nX : LK (aa bz) "parts_of" .local := by decide +kernel
theorem nY : LK (aa bz) "reversed" .globalImplicit := by decide +kernel
theorem uq : LK (aa bz) "top" .local := by decide +kernel
theorem fm : LK (aa bz) "waiting" .local := by decide +kernel
theorem vn : LK (aa gh) "words" .local := by decide +kernel
theorem iy : LK kq "_law_look_text" .globalImplicit := by decide +kernel
theorem nc : LK uf "LETTERS" .globalImplicit := by decide +kernel
theorem nZ : LK yt "_law_first" .free := by decide +kernel
theorem o6 : LK yt "_law_name" .globalImplicit := by decide +kernel
theorem lP : LK p5 "bracket" .globalImplicit := by decide +kernel
theorem n6 : LK lB "sort" .free := by decide +kernel
theorem lC : LK lB "value_of" .globalImplicit := by decide +kernel
theorem p6 : LK (aa cN) "all_within" .globalImplicit := by decide +kernel
theorem zq : LK (aa cN) "len" .globalImplicit := by decide +kernel
theorem jo : LK (aa cN) "made" .local := by decide +kernel
theorem yu : LK (aa cN) "make" .local := by decide +kernel
theorem vo : LK (aa cN) "number" .local := by decide +kernel
theorem mG : LK (aa cN) "one" .local := by decide +kernel
theorem ki : LK (aa cN) "parts" .local := by decide +kernel
theorem lE : LK (aa cN) "parts_of" .local := by decide +kernel
theorem wL : LK (aa cN) "range" .globalImplicit := by decide +kernel
theorem sI : LK (aa cN) "reversed" .globalImplicit := by decide +kernel
theorem zu : LK (aa cN) "top" .local := by decide +kernel
theorem o8 : LK (aa bZ) "KEPT_WORDS" .globalImplicit := by decide +kernel
theorem sJ : LK (aa bZ) "LONGEST" .globalImplicit := by decide +kernel
theorem yw : LK (aa bZ) "all" .globalImplicit := by decide +kernel
theorem o9 : LK (aa bZ) "isinstance" .globalImplicit := by decide +kernel
theorem p7 : LK (aa bZ) "len" .globalImplicit := by decide +kernel
theorem yx : LK (aa bZ) "str" .globalImplicit := by decide +kernel
theorem gD : LK (aa bZ) "text" .local := by decide +kernel
theorem ur : LK (aa dI) "_law_draws" .globalImplicit := by decide +kernel
theorem eT : LK (aa dI) "_law_draws_here" .local := by decide +kernel
theorem aR : LK (aa dI) "_law_first" .cell := by decide +kernel
theorem mH : LK (aa dI) "_law_k" .local := by decide +kernel
theorem dJ : LK (aa dI) "_law_look_here" .local := by decide +kernel
theorem pe : LK (aa dI) "_law_look_text" .globalImplicit := by decide +kernel
theorem dZ : LK (aa dI) "_law_loose" .local := by decide +kernel
theorem iz : LK (aa dI) "_law_many" .local := by decide +kernel
theorem lF : LK (aa dI) "_law_marked" .local := by decide +kernel
theorem jJ : LK (aa dI) "_law_pool" .local := by decide +kernel
theorem lG : LK (aa dI) "_law_script" .local := by decide +kernel
theorem gm : LK (aa dI) "_law_text" .local := by decide +kernel
theorem wM : LK (aa dI) "_law_way" .globalImplicit := by decide +kernel
theorem aL : LK (aa dI) "_law_way_here" .local := by decide +kernel
theorem p8 : LK (aa dI) "_law_way_text" .globalImplicit := by decide +kernel
theorem uu : LK (aa dI) "range" .globalImplicit := by decide +kernel
theorem kj : LK (aa dI) "read_way" .globalImplicit := by decide +kernel
theorem vp : LK (aa dI) "show_look" .globalImplicit := by decide +kernel
theorem wN : LK (aa dI) "show_way" .globalImplicit := by decide +kernel
theorem pq : LK (aa dY) "isinstance" .globalImplicit := by decide +kernel
theorem gE : LK (aa dY) "part" .local := by decide +kernel
theorem vq : LK (aa dY) "tuple" .globalImplicit := by decide +kernel
theorem qU : LK (aa dY) "value_of" .globalImplicit := by decide +kernel
theorem sL : LK (aa cD) "list" .globalImplicit := by decide +kernel
theorem gw : LK (aa cD) "look" .local := by decide +kernel
theorem gZ : LK (aa cz) "bracket" .globalImplicit := by decide +kernel
theorem dz : LK (aa cz) "look" .local := by decide +kernel
theorem lH : LK (aa cz) "parts" .local := by decide +kernel
theorem vt : LK (aa cz) "zip" .globalImplicit := by decide +kernel
theorem p9 : LK (aa bS) "NoText" .globalImplicit := by decide +kernel
theorem jq : LK (aa bS) "len" .globalImplicit := by decide +kernel
theorem gJ : LK (aa bS) "look_of" .globalImplicit := by decide +kernel
theorem pA : LK (aa bS) "name_of" .globalImplicit := by decide +kernel
theorem aX : LK (aa bS) "parts" .local := by decide +kernel
theorem qV : LK (aa bC) "GOES" .globalImplicit := by decide +kernel
theorem sM : LK (aa bC) "len" .globalImplicit := by decide +kernel
theorem n8 : LK (aa bC) "look_of" .globalImplicit := by decide +kernel
theorem lQ : LK (aa bC) "look_value" .globalImplicit := by decide +kernel
theorem cB : LK (aa bC) "parts" .local := by decide +kernel
theorem mJ : LK (aa bC) "way_value" .globalImplicit := by decide +kernel
theorem uv : LK (aa eZ) "NoText" .globalImplicit := by decide +kernel
theorem sN : LK (aa eZ) "is_name" .globalImplicit := by decide +kernel
theorem oR : LK (aa eZ) "part" .local := by decide +kernel
theorem gx : LK (aa aM) "NoText" .globalImplicit := by decide +kernel
theorem iH : LK (aa aM) "len" .globalImplicit := by decide +kernel
theorem qc : LK (aa aM) "make" .local := by decide +kernel
theorem jB : LK (aa aM) "parts" .local := by decide +kernel
theorem qe : LK (aa aM) "text" .local := by decide +kernel
theorem aY : LK (aa aM) "unshut" .local := by decide +kernel
theorem fP : LK (aa aM) "word" .local := by decide +kernel
theorem mK : LK (aa aM) "words_of" .globalImplicit := by decide +kernel
theorem ng : LK (aa dh) "make_in_way" .globalImplicit := by decide +kernel
theorem mL : LK (aa dh) "read_bracket" .globalImplicit := by decide +kernel
theorem vz : LK (aa dh) "text" .local := by decide +kernel
theorem qf : LK (aa dh) "value_of" .globalImplicit := by decide +kernel
theorem qW : LK (aa cM) "folded" .globalImplicit := by decide +kernel
theorem uw : LK (aa cM) "look" .local := by decide +kernel
theorem nh : LK (aa cM) "look_parts" .globalImplicit := by decide +kernel
theorem n9 : LK (aa cM) "look_text" .globalImplicit := by decide +kernel
theorem pB : LK (aa d9) "show_look" .globalImplicit := by decide +kernel
theorem wO : LK (aa d9) "way" .local := by decide +kernel
theorem sO : LK (aa cS) "NoText" .globalImplicit := by decide +kernel
theorem oh : LK (aa cS) "isinstance" .globalImplicit := by decide +kernel
theorem jK : LK (aa cS) "part" .local := by decide +kernel
theorem ni : LK (aa cS) "sort" .local := by decide +kernel
theorem ux : LK (aa cS) "tuple" .globalImplicit := by decide +kernel
theorem sP : LK (aa cV) "parts" .local := by decide +kernel
theorem sQ : LK (aa cV) "tuple" .globalImplicit := by decide +kernel
theorem qX : LK (aa cL) "NoText" .globalImplicit := by decide +kernel
theorem vA : LK (aa cL) "len" .globalImplicit := by decide +kernel
theorem lI : LK (aa cL) "parts" .local := by decide +kernel
theorem oi : LK (aa cL) "values_of" .globalImplicit := by decide +kernel
theorem sR : LK (aa cI) "NoText" .globalImplicit := by decide +kernel
theorem oj : LK (aa cI) "isinstance" .globalImplicit := by decide +kernel
theorem lJ : LK (aa cI) "spaced" .local := by decide +kernel
theorem wQ : LK (aa cI) "str" .globalImplicit := by decide +kernel
theorem nj : LK (aa cI) "text" .local := by decide +kernel
section
variable {P : Program} {w : World} {K : PySem.W.Frag} {mg : Str → Option Value} {base : Heap} {t : UI}
theorem yy : bW vg ["text"] (aa bZ) := ⟨rfl, rfl, rfl, by decide +kernel, rfl, by decide +kernel, by decide +kernel⟩
theorem Et (T : Txt K mg t) : aW P w K mg base (cu P w) 1 (t.f 0) (t.d 0) ["text"] (aQ K mg 1 mZ) := by
 refine aW.imp (sp := aQ K mg 1 (fun ds => cH 1 qI ds)) ?_ dg
 refine wY (k := 0) (ms := qI) T.Ai yy (by decide) (by decide) (fun _ => rfl) ?_
 intro X EE cdv A outer s H E hX hr hx qY
 subst hX
 have hu := cO hr
 have nd := yy.nd
 have hfr : fy (gR (cu P w) P w K mg base vg "is_name" (aa bZ) (t.f 0) cdv A outer s H E) := ⟨_, outer, s.heap.objs.size, rfl, rfl, rfl⟩
 refine ao ?_ ?_
 refine cY ?_ ?_ ?_
 refine yY ?_
 refine zP ?_ ?_
 refine HY ?_
 refine xO ?_ ?_
 refine AW .str ?_ ?_ ?_ ?_ ?_ ?_ ?_ ?_ ?_ ?_
 decide
 exact T.kH
 exact T.Mb
 exact o9
 exact yx
 refine ah 0 ?_ ?_ ?_
 exact (Or.inl gD)
 exact kK
 exact rfl
 exact Jk
 exact Jl
 exact Jh.1
 decide +kernel
 decide +kernel
 refine AL ?_
 refine aZ ?_ ?_ ?_ ?_
 exact (rQ hu)
 refine ah 0 ?_ ?_ ?_
 exact (Or.inl gD)
 exact kK
 exact rfl
 refine wZ ?_ ?_ ?_
 exact T.Bg
 exact o8
 exact zh
 decide +kernel
 refine ay ?_
 refine br ?_
 exact ES
 exact bw
 refine ao ?_ ?_
 refine cY ?_ ?_ ?_
 refine yY ?_
 refine zP ?_ ?_
 refine aZ ?_ ?_ ?_ ?_
 exact (dO hu)
 refine gq ?_ ?_ ?_ ?_
 exact T.jj
 exact p7
 refine aE ?_ ?_ ?_
 refine ah 0 ?_ ?_ ?_
 exact (Or.inl gD)
 exact kK
 exact rfl
 decide +kernel
 exact aj
 decide +kernel
 exact ak
 decide +kernel
 refine AL ?_
 refine aZ ?_ ?_ ?_ ?_
 exact uU
 refine gq ?_ ?_ ?_ ?_
 exact T.jj
 exact p7
 refine aE ?_ ?_ ?_
 refine ah 0 ?_ ?_ ?_
 exact (Or.inl gD)
 exact kK
 exact rfl
 decide +kernel
 exact aj
 decide +kernel
 refine wZ ?_ ?_ ?_
 exact T.GX
 exact sJ
 exact Eo
 decide +kernel
 refine ay ?_
 refine br ?_
 exact ES
 exact bw
 refine ay ?_
 refine br ?_
 refine NI ?_ ?_ ?_ ?_ ?_
 exact rfl
 exact T.Qt
 exact yw
 refine aE ?_ ?_ ?_
 refine cR ?_
 refine qC (xs := ["sign"]) (ow := B6) ?_ ?_ ?_ ?_ ?_ ?_ ?_ ?_ ?_
 exact hx
 exact hfr
 exact lA
 exact mT lA
 exact kN
 exact rfl
 refine ah 0 ?_ ?_ ?_
 exact (Or.inl gD)
 exact kK
 exact rfl
 refine jD fun cl C pins s0 H0 fp E1 N3 hx => ?_
 refine Qe ?_ ?_ ?_ ?_
 exact hu
 refine ah 0 ?_ ?_ ?_
 exact (mz lA (by simp))
 exact Lp
 exact rfl
 refine wZ ?_ ?_ ?_
 exact T.GW
 exact (tK nc)
 exact En
 decide +kernel
 decide +kernel
 decide +kernel
 exact aj
 decide +kernel
theorem we : bW sj ["text"] (aa cI) := ⟨rfl, rfl, rfl, by decide +kernel, rfl, by decide +kernel, by decide +kernel⟩
theorem C1 (T : Txt K mg t) : aW P w K mg base (cu P w) 1 (t.f 2) (t.d 2) ["text"] (aQ K mg 1 lq) := by
 refine aW.imp (sp := aQ K mg 1 (fun ds => cH 2 nI ds)) ?_ dg
 refine wY (k := 0) (ms := nI) T.yi we (by decide) (by decide) (fun _ => rfl) ?_
 intro X EE cdv A outer s H E hX hr hx qY
 subst hX
 have hu := cO hr
 have nd := we.nd
 have hfr : fy (gR (cu P w) P w K mg base sj "words_of" (aa cI) (t.f 2) cdv A outer s H E) := ⟨_, outer, s.heap.objs.size, rfl, rfl, rfl⟩
 refine ao ?_ ?_
 refine cY ?_ ?_ ?_
 refine HY ?_
 refine xO ?_ ?_
 refine AW .str ?_ ?_ ?_ ?_ ?_ ?_ ?_ ?_ ?_ ?_
 decide
 exact T.kH
 exact T.Mb
 exact oj
 exact wQ
 refine ah 0 ?_ ?_ ?_
 exact (Or.inl nj)
 exact kK
 exact rfl
 exact Jk
 exact Jl
 exact Jh.1
 decide +kernel
 decide +kernel
 refine ay ?_
 refine jU (C := (t.c 0)) ?_ ?_ ?_ ?_ ?_ ?_ ?_ ?_
 exact rfl
 exact hx
 exact T.j3
 exact T.j4
 exact sR
 exact iY
 refine dG ?_
 exact aj
 decide +kernel
 exact bw
 refine ao ?_ ?_
 refine bU (i := 1) ?_ ?_ ?_ ?_ ?_ ?_
 exact nd
 exact (Or.inl lJ)
 refine AX ?_ ?_ ?_
 refine AX ?_ ?_ ?_
 refine AX ?_ ?_ ?_
 refine ah 0 ?_ ?_ ?_
 exact (Or.inl nj)
 exact kK
 exact rfl
 decide +kernel
 exact rfl
 decide +kernel
 exact rfl
 decide +kernel
 exact rfl
 exact Or.inl rfl
 exact rfl
 decide +kernel
 refine ay ?_
 refine br ?_
 refine cR ?_
 refine qC (xs := ["word"]) (ow := B6) ?_ ?_ ?_ ?_ ?_ ?_ ?_ ?_ ?_
 exact hx
 exact hfr
 exact iQ
 exact mT iQ
 exact kN
 exact rfl
 refine cR ?_
 refine Iw ?_ ?_ ?_ ?_ ?_
 refine ah 1 ?_ ?_ ?_
 exact (Or.inl lJ)
 exact GZ
 exact rfl
 refine dG ?_
 exact aj
 decide +kernel
 decide +kernel
 exact rfl
 refine Gv fun cl C pins s0 H0 fp E1 N3 hx => ?_
 refine ⟨?_, ?_⟩
 refine aZ ?_ ?_ ?_ ?_
 exact (uR hu)
 refine ah 0 ?_ ?_ ?_
 exact (mz iQ (by simp))
 exact ue
 exact rfl
 exact cC
 decide +kernel
 refine ah 0 ?_ ?_ ?_
 exact (mz iQ (by simp))
 exact ue
 exact rfl
 decide +kernel
theorem wg : bW yd ["part", "sort"] (aa cS) := ⟨rfl, rfl, rfl, by decide +kernel, rfl, by decide +kernel, by decide +kernel⟩
theorem C2 (T : Txt K mg t) : aW P w K mg base (cu P w) 1 (t.f 4) (t.d 4) ["part", "sort"] (aQ K mg 2 fj) := by
 refine aW.imp (sp := aQ K mg 2 (fun ds => cH 2 nJ ds)) ?_ dg
 refine wY (k := 0) (ms := nJ) T.nS wg (by decide) (by decide) (fun _ => rfl) ?_
 intro X EE cdv A outer s H E hX hr hx qY
 subst hX
 have hu := cO hr
 have nd := wg.nd
 have hfr : fy (gR (cu P w) P w K mg base yd "value_of" (aa cS) (t.f 4) cdv A outer s H E) := ⟨_, outer, s.heap.objs.size, rfl, rfl, rfl⟩
 refine ao ?_ ?_
 refine cY ?_ ?_ ?_
 refine yY ?_
 refine uT ?_ ?_
 refine xO ?_ ?_
 refine AW .tup ?_ ?_ ?_ ?_ ?_ ?_ ?_ ?_ ?_ ?_
 decide
 exact T.kH
 exact T.xh
 exact oh
 exact ux
 refine ah 0 ?_ ?_ ?_
 exact (Or.inl jK)
 exact iP
 exact rfl
 exact CZ
 exact C0
 exact CW.1
 decide +kernel
 decide +kernel
 refine qy ?_
 refine aZ ?_ ?_ ?_ ?_
 exact (dO hu)
 refine au ?_ ?_ ?_
 refine ah 0 ?_ ?_ ?_
 exact (Or.inl jK)
 exact iP
 exact rfl
 exact ak
 decide +kernel
 refine ah 1 ?_ ?_ ?_
 exact (Or.inl ni)
 exact Bm
 exact rfl
 decide +kernel
 refine ay ?_
 refine br ?_
 refine au ?_ ?_ ?_
 refine ah 0 ?_ ?_ ?_
 exact (Or.inl jK)
 exact iP
 exact rfl
 exact ak
 decide +kernel
 exact bw
 refine ay ?_
 refine jU (C := (t.c 0)) ?_ ?_ ?_ ?_ ?_ ?_ ?_ ?_
 exact rfl
 exact hx
 exact T.j3
 exact T.j4
 exact sO
 exact iY
 refine aE ?_ ?_ ?_
 refine NK ?_
 refine ah 1 ?_ ?_ ?_
 exact (Or.inl ni)
 exact Bm
 exact rfl
 decide +kernel
 exact aj
 decide +kernel
theorem rH : bW nK ["look"] (aa cD) := ⟨rfl, rfl, rfl, by decide +kernel, rfl, by decide +kernel, by decide +kernel⟩
theorem zv (T : Txt K mg t) : aW P w K mg base (cu P w) 1 (t.f 11) (t.d 11) ["look"] (aQ K mg 1 cP) := by
 refine aW.imp (sp := aQ K mg 1 (fun ds => cH 1 eH ds)) ?_ dg
 refine wY (k := 0) (ms := eH) T.kF rH (by decide) (by decide) (fun _ => rfl) ?_
 intro X EE cdv A outer s H E hX hr hx qY
 subst hX
 have hu := cO hr
 have nd := rH.nd
 have hfr : fy (gR (cu P w) P w K mg base nK "look_parts" (aa cD) (t.f 11) cdv A outer s H E) := ⟨_, outer, s.heap.objs.size, rfl, rfl, rfl⟩
 refine ao ?_ ?_
 refine cY ?_ ?_ ?_
 refine aZ ?_ ?_ ?_ ?_
 exact (dO hu)
 refine au ?_ ?_ ?_
 refine ah 0 ?_ ?_ ?_
 exact (Or.inl gw)
 exact iO
 exact rfl
 exact ak
 decide +kernel
 exact cC
 decide +kernel
 refine ay ?_
 refine br ?_
 refine cR ?_
 refine qC (xs := ["go", "inner"]) (ow := KZ K 2) ?_ ?_ ?_ ?_ ?_ ?_ ?_ ?_ ?_
 exact hx
 exact hfr
 exact jl
 exact B7 rfl jl
 exact Ca
 exact rfl
 refine au ?_ ?_ ?_
 refine ah 0 ?_ ?_ ?_
 exact (Or.inl gw)
 exact iO
 exact rfl
 exact ak
 decide +kernel
 refine jD fun cl C pins s0 H0 fp E1 N3 hx => ?_
 refine ah 1 ?_ ?_ ?_
 exact (mz jl (by simp))
 exact Jg
 exact rfl
 decide +kernel
 exact bw
 refine ao ?_ ?_
 refine cY ?_ ?_ ?_
 refine aZ ?_ ?_ ?_ ?_
 exact (rQ hu)
 refine au ?_ ?_ ?_
 refine ah 0 ?_ ?_ ?_
 exact (Or.inl gw)
 exact iO
 exact rfl
 exact ak
 decide +kernel
 refine dM ?_
 refine dG ?_
 refine dG ?_
 refine dG ?_
 exact aj
 decide +kernel
 refine ay ?_
 refine br ?_
 refine cR ?_
 refine K6 ?_ ?_ ?_ ?_
 exact T.Jf
 exact sL
 refine aE ?_ ?_ ?_
 refine cR ?_
 refine jT ?_ ?_ ?_
 refine ah 0 ?_ ?_ ?_
 exact (Or.inl gw)
 exact iO
 exact rfl
 refine jM ?_
 exact ak
 exact qw
 decide +kernel
 exact aj
 decide +kernel
 exact bw
 refine ay ?_
 refine br ?_
 refine cR ?_
 refine fS ?_
 exact aj
theorem yz : bW Af ["words"] (aa gh) := ⟨rfl, rfl, rfl, by decide +kernel, rfl, by decide +kernel, by decide +kernel⟩
theorem Eu (T : Txt K mg t) : aW P w K mg base (cu P w) 1 (t.f 16) (t.d 16) ["words"] (aQ K mg 1 cE) := by
 refine aW.imp (sp := aQ K mg 1 (fun ds => cH 1 qJ ds)) ?_ dg
 refine wY (k := 0) (ms := qJ) T.m7 yz (by decide) (by decide) (fun _ => rfl) ?_
 intro X EE cdv A outer s H E hX hr hx qY
 subst hX
 have hu := cO hr
 have nd := yz.nd
 have hfr : fy (gR (cu P w) P w K mg base Af "bracket" (aa gh) (t.f 16) cdv A outer s H E) := ⟨_, outer, s.heap.objs.size, rfl, rfl, rfl⟩
 refine ay ?_
 refine br ?_
 refine bX ?_ ?_
 refine bX ?_ ?_
 exact cC
 refine E4 ?_ ?_ ?_ ?_ ?_
 exact cC
 refine aE ?_ ?_ ?_
 refine ah 0 ?_ ?_ ?_
 exact (Or.inl vn)
 exact Jj
 exact rfl
 decide +kernel
 exact aj
 decide +kernel
 decide +kernel
 exact rfl
 exact cC
theorem rJ : bW tU ["_law_script", "_law_many"] (aa bA) := ⟨rfl, rfl, rfl, by decide +kernel, rfl, by decide +kernel, by decide +kernel⟩
theorem zw (T : Txt K mg t) : aW P w K mg base (cu P w) 1 (t.f 18) (t.d 18) ["_law_script", "_law_many"] (aQ K mg 2 g9) := by
 refine aW.imp (sp := aQ K mg 2 (fun ds => cH 5 kD ds)) ?_ dg
 refine wY (k := 0) (ms := kD) T.ua rJ (by decide) (by decide) (fun _ => rfl) ?_
 intro X EE cdv A outer s H E hX hr hx qY
 subst hX
 have hu := cO hr
 have nd := rJ.nd
 have hfr : fy (gR (cu P w) P w K mg base tU "_law_draws" (aa bA) (t.f 18) cdv A outer s H E) := ⟨_, outer, s.heap.objs.size, rfl, rfl, rfl⟩
 refine ao ?_ ?_
 refine bU (i := 2) ?_ ?_ ?_ ?_ ?_ ?_
 exact nd
 exact (Or.inl fW)
 refine fS ?_
 exact aj
 exact Or.inl rfl
 exact rfl
 decide +kernel
 refine ao ?_ ?_
 refine pK ?_ ?_ ?_ ?_ ?_ ?_ ?_ ?_
 exact qY
 exact rfl
 exact T.qQ
 exact qT
 refine aE ?_ ?_ ?_
 refine ah 1 ?_ ?_ ?_
 exact (Or.inl m9)
 exact kJ
 exact rfl
 decide +kernel
 exact aj
 refine nF (i := 3) ?_ ?_ ?_ ?_
 exact nd
 exact (Or.inl gY)
 exact Or.inl rfl
 exact rfl
 refine ao ?_ ?_
 refine bU (i := 4) ?_ ?_ ?_ ?_ ?_ ?_
 exact nd
 exact (Or.inl gk)
 exact ak
 exact Or.inl rfl
 exact rfl
 decide +kernel
 refine ao ?_ ?_
 refine cY ?_ ?_ ?_
 refine aZ ?_ ?_ ?_ ?_
 exact uU
 refine gq ?_ ?_ ?_ ?_
 exact T.jj
 exact jm
 refine aE ?_ ?_ ?_
 refine ah 0 ?_ ?_ ?_
 exact (Or.inl dH)
 exact gj
 exact rfl
 decide +kernel
 exact aj
 decide +kernel
 exact ak
 decide +kernel
 refine ay ?_
 refine bU (i := 4) ?_ ?_ ?_ ?_ ?_ ?_
 exact nd
 exact (Or.inl gk)
 refine eE ?_ ?_
 refine au ?_ ?_ ?_
 refine ah 0 ?_ ?_ ?_
 exact (Or.inl dH)
 exact gj
 exact rfl
 refine eE ?_ ?_
 refine ah 3 ?_ ?_ ?_
 exact (Or.inl gY)
 exact iZ
 exact rfl
 refine gq ?_ ?_ ?_ ?_
 exact T.jj
 exact jm
 refine aE ?_ ?_ ?_
 refine ah 0 ?_ ?_ ?_
 exact (Or.inl dH)
 exact gj
 exact rfl
 decide +kernel
 exact aj
 decide +kernel
 decide +kernel
 refine HS ?_ ?_
 exact ak
 exact ak
 exact Or.inl rfl
 exact rfl
 decide +kernel
 exact bw
 refine ay ?_
 refine kB ?_ ?_
 refine iW ?_ ?_ ?_ ?_ ?_
 refine ah 2 ?_ ?_ ?_
 exact (Or.inl fW)
 exact rF
 exact rfl
 refine aE ?_ ?_ ?_
 refine bX ?_ ?_
 refine ah 4 ?_ ?_ ?_
 exact (Or.inl gk)
 exact uc
 exact rfl
 refine AJ ?_ ?_
 exact ak
 refine gM ?_ ?_
 refine ah 3 ?_ ?_ ?_
 exact (Or.inl gY)
 exact iZ
 exact rfl
 refine K5 ?_ ?_ ?_ ?_ ?_
 exact rfl
 exact T.Qv
 exact ug
 refine IA ?_
 refine aE ?_ ?_ ?_
 refine gq ?_ ?_ ?_ ?_
 exact T.jj
 exact jm
 refine aE ?_ ?_ ?_
 refine ah 0 ?_ ?_ ?_
 exact (Or.inl dH)
 exact gj
 exact rfl
 decide +kernel
 exact aj
 decide +kernel
 decide +kernel
 exact aj
 decide +kernel
 decide +kernel
 exact aj
 decide +kernel
 decide +kernel
 exact rfl
 decide +kernel
 decide +kernel
 refine ay ?_
 refine br ?_
 refine Fo ?_
 refine ah 2 ?_ ?_ ?_
 exact (Or.inl fW)
 exact rF
 exact rfl
theorem uy : bW vO ["_law_draw"] (aa bM) := ⟨rfl, rfl, rfl, by decide +kernel, rfl, by decide +kernel, by decide +kernel⟩
theorem Bq (T : Txt K mg t) : aW P w K mg base (cu P w) 1 (t.f 19) (t.d 19) ["_law_draw"] (aQ K mg 1 fK) := by
 refine aW.imp (sp := aQ K mg 1 (fun ds => cH 6 jX ds)) ?_ dg
 refine wY (k := 0) (ms := jX) T.vZ uy (by decide) (by decide) (fun _ => rfl) ?_
 intro X EE cdv A outer s H E hX hr hx qY
 subst hX
 have hu := cO hr
 have nd := uy.nd
 have hfr : fy (gR (cu P w) P w K mg base vO "_law_name" (aa bM) (t.f 19) cdv A outer s H E) := ⟨_, outer, s.heap.objs.size, rfl, rfl, rfl⟩
 refine ao ?_ ?_
 refine bU (i := 1) ?_ ?_ ?_ ?_ ?_ ?_
 exact nd
 exact (Or.inl fD)
 exact cC
 exact Or.inl rfl
 exact rfl
 decide +kernel
 refine ao ?_ ?_
 refine bU (i := 2) ?_ ?_ ?_ ?_ ?_ ?_
 exact nd
 exact (Or.inl bH)
 refine au ?_ ?_ ?_
 refine ah 1 ?_ ?_ ?_
 exact (Or.inl fD)
 exact oQ
 exact rfl
 refine eE ?_ ?_
 refine ah 0 ?_ ?_ ?_
 exact (Or.inl eO)
 exact fM
 exact rfl
 exact ak
 decide +kernel
 exact Or.inl rfl
 exact rfl
 decide +kernel
 refine ao ?_ ?_
 refine pK ?_ ?_ ?_ ?_ ?_ ?_ ?_ ?_
 exact qY
 exact rfl
 exact T.qQ
 exact sF
 refine aE ?_ ?_ ?_
 refine eE ?_ ?_
 refine gM ?_ ?_
 refine ah 0 ?_ ?_ ?_
 exact (Or.inl eO)
 exact fM
 exact rfl
 exact ak
 exact ak
 decide +kernel
 exact aj
 refine nF (i := 3) ?_ ?_ ?_ ?_
 exact nd
 exact (Or.inl gc)
 exact Or.inl rfl
 exact rfl
 refine ao ?_ ?_
 refine bU (i := 4) ?_ ?_ ?_ ?_ ?_ ?_
 exact nd
 exact (Or.inl j5)
 refine bX ?_ ?_
 refine bX ?_ ?_
 refine gM ?_ ?_
 refine ah 0 ?_ ?_ ?_
 exact (Or.inl eO)
 exact fM
 exact rfl
 exact ak
 refine AJ ?_ ?_
 refine AJ ?_ ?_
 exact ak
 refine ah 3 ?_ ?_ ?_
 exact (Or.inl gc)
 exact iZ
 exact rfl
 refine ah 3 ?_ ?_ ?_
 exact (Or.inl gc)
 exact iZ
 exact rfl
 refine AJ ?_ ?_
 refine eE ?_ ?_
 refine gM ?_ ?_
 refine ah 0 ?_ ?_ ?_
 exact (Or.inl eO)
 exact fM
 exact rfl
 exact ak
 exact ak
 refine ah 3 ?_ ?_ ?_
 exact (Or.inl gc)
 exact iZ
 exact rfl
 exact Or.inl rfl
 exact rfl
 decide +kernel
 refine ay ?_
 refine bU (i := 2) ?_ ?_ ?_ ?_ ?_ ?_
 exact nd
 exact (Or.inl bH)
 refine bX ?_ ?_
 refine ah 2 ?_ ?_ ?_
 exact (Or.inl bH)
 exact gQ
 exact rfl
 refine au ?_ ?_ ?_
 refine ah 1 ?_ ?_ ?_
 exact (Or.inl fD)
 exact oQ
 exact rfl
 refine eE ?_ ?_
 refine ah 4 ?_ ?_ ?_
 exact (Or.inl j5)
 exact Ep
 exact rfl
 exact ak
 decide +kernel
 exact Or.inl rfl
 exact rfl
 decide +kernel
 decide +kernel
 refine ao ?_ ?_
 refine bU (i := 5) ?_ ?_ ?_ ?_ ?_ ?_
 exact nd
 exact (Or.inl i7)
 refine cR ?_
 refine fS ?_
 refine dG ?_
 refine dG ?_
 refine dG ?_
 refine dG ?_
 refine dG ?_
 refine dG ?_
 refine dG ?_
 refine dG ?_
 refine dG ?_
 refine dG ?_
 refine dG ?_
 refine dG ?_
 exact aj
 exact Or.inl rfl
 exact rfl
 decide +kernel
 refine ao ?_ ?_
 refine cY ?_ ?_ ?_
 refine aZ ?_ ?_ ?_ ?_
 exact (rQ hu)
 refine ah 2 ?_ ?_ ?_
 exact (Or.inl bH)
 exact gQ
 exact rfl
 refine ah 5 ?_ ?_ ?_
 exact (Or.inl i7)
 exact zk
 exact rfl
 decide +kernel
 refine ay ?_
 refine br ?_
 refine bX ?_ ?_
 refine ah 2 ?_ ?_ ?_
 exact (Or.inl bH)
 exact gQ
 exact rfl
 exact cC
 exact bw
 refine ay ?_
 refine br ?_
 refine ah 2 ?_ ?_ ?_
 exact (Or.inl bH)
 exact gQ
 exact rfl
theorem uz : bW pQ ["parts", "sort"] (aa cV) := ⟨rfl, rfl, rfl, by decide +kernel, rfl, by decide +kernel, by decide +kernel⟩
theorem Br (T : Txt K mg t) (gy : aW P w K mg base (cu P w) 1 (t.f 4) (t.d 4) ["part", "sort"] (aQ K mg 2 fj)) : aW P w K mg base (cu P w) 2 (t.f 5) (t.d 5) ["parts", "sort"] (aQ K mg 2 jY) := by
 refine aW.imp (sp := aQ K mg 2 (fun ds => cH 2 lV ds)) ?_ dg
 refine wY (k := 1) (ms := lV) T.vS uz (by decide) (by decide) (fun _ => rfl) ?_
 intro X EE cdv A outer s H E hX hr hx qY
 subst hX
 have hu := cO hr
 have nd := uz.nd
 have hfr : fy (gR (cu P w) P w K mg base pQ "values_of" (aa cV) (t.f 5) cdv A outer s H E) := ⟨_, outer, s.heap.objs.size, rfl, rfl, rfl⟩
 refine ay ?_
 refine br ?_
 refine Cc ?_ ?_ ?_ ?_
 exact T.xh
 exact sQ
 refine aE ?_ ?_ ?_
 refine cR ?_
 refine qC (xs := ["part"]) (ow := B6) ?_ ?_ ?_ ?_ ?_ ?_ ?_ ?_ ?_
 exact hx
 exact hfr
 exact iu
 exact mT iu
 exact kN
 exact rfl
 refine ah 0 ?_ ?_ ?_
 exact (Or.inl sP)
 exact bP
 exact rfl
 refine jD fun cl C pins s0 H0 fp E1 N3 hx => ?_
 refine bg (CX := cu P w) (k := pP) (f := (t.f 4)) (fd := (t.d 4)) (ps := ["part", "sort"]) ?_ ?_ ?_ ?_ ?_ ?_ ?_ ?_ ?_ ?_
 exact gy
 exact hr.mono (by decide)
 exact T.sA
 exact T.nS.kp
 exact T.sy
 exact fU hx
 exact (tK lC)
 exact pZ
 refine aE ?_ ?_ ?_
 refine ah 0 ?_ ?_ ?_
 exact (mz iu (by simp))
 exact iP
 exact rfl
 decide +kernel
 refine aE ?_ ?_ ?_
 refine ah 2 ?_ ?_ ?_
 exact (E0 iu n6)
 exact Bm
 exact rfl
 decide +kernel
 exact aj
 decide +kernel
 decide +kernel
 decide +kernel
 exact aj
 decide +kernel
theorem yC : bW Ag ["part"] (aa eZ) := ⟨rfl, rfl, rfl, by decide +kernel, rfl, by decide +kernel, by decide +kernel⟩
theorem Ew (T : Txt K mg t) (vB : aW P w K mg base (cu P w) 1 (t.f 0) (t.d 0) ["text"] (aQ K mg 1 mZ)) : aW P w K mg base (cu P w) 2 (t.f 6) (t.d 6) ["part"] (aQ K mg 1 m5) := by
 refine aW.imp (sp := aQ K mg 1 (fun ds => cH 1 qK ds)) ?_ dg
 refine wY (k := 1) (ms := qK) T.Aj yC (by decide) (by decide) (fun _ => rfl) ?_
 intro X EE cdv A outer s H E hX hr hx qY
 subst hX
 have hu := cO hr
 have nd := yC.nd
 have hfr : fy (gR (cu P w) P w K mg base Ag "name_of" (aa eZ) (t.f 6) cdv A outer s H E) := ⟨_, outer, s.heap.objs.size, rfl, rfl, rfl⟩
 refine ao ?_ ?_
 refine cY ?_ ?_ ?_
 refine xO ?_ ?_
 refine bg (CX := cu P w) (k := Eg) (f := (t.f 0)) (fd := (t.d 0)) (ps := ["text"]) ?_ ?_ ?_ ?_ ?_ ?_ ?_ ?_ ?_ ?_
 exact vB
 exact hr.mono (by decide)
 exact T.GS
 exact T.Ai.kp
 exact T.GR
 exact fU hx
 exact sN
 exact Er
 refine aE ?_ ?_ ?_
 refine ah 0 ?_ ?_ ?_
 exact (Or.inl oR)
 exact iP
 exact rfl
 decide +kernel
 exact aj
 decide +kernel
 decide +kernel
 refine ay ?_
 refine br ?_
 refine ah 0 ?_ ?_ ?_
 exact (Or.inl oR)
 exact iP
 exact rfl
 exact bw
 refine ay ?_
 refine jU (C := (t.c 0)) ?_ ?_ ?_ ?_ ?_ ?_ ?_ ?_
 exact rfl
 exact hx
 exact T.j3
 exact T.j4
 exact uv
 exact iY
 refine dG ?_
 exact aj
 decide +kernel
theorem yD : bW Ah ["part"] (aa dY) := ⟨rfl, rfl, rfl, by decide +kernel, rfl, by decide +kernel, by decide +kernel⟩
theorem Ex (T : Txt K mg t) (gy : aW P w K mg base (cu P w) 1 (t.f 4) (t.d 4) ["part", "sort"] (aQ K mg 2 fj)) : aW P w K mg base (cu P w) 2 (t.f 10) (t.d 10) ["part"] (aQ K mg 1 fE) := by
 refine aW.imp (sp := aQ K mg 1 (fun ds => cH 1 kQ ds)) ?_ dg
 refine wY (k := 1) (ms := kQ) T.m6 yD (by decide) (by decide) (fun _ => rfl) ?_
 intro X EE cdv A outer s H E hX hr hx qY
 subst hX
 have hu := cO hr
 have nd := yD.nd
 have hfr : fy (gR (cu P w) P w K mg base Ah "look_of" (aa dY) (t.f 10) cdv A outer s H E) := ⟨_, outer, s.heap.objs.size, rfl, rfl, rfl⟩
 refine ao ?_ ?_
 refine cY ?_ ?_ ?_
 refine aZ ?_ ?_ ?_ ?_
 exact (dO hu)
 refine ah 0 ?_ ?_ ?_
 exact (Or.inl gE)
 exact iP
 exact rfl
 exact cC
 decide +kernel
 refine ay ?_
 refine br ?_
 refine dM ?_
 refine dG ?_
 exact aj
 exact bw
 refine ao ?_ ?_
 refine cY ?_ ?_ ?_
 refine yY ?_
 refine uT ?_ ?_
 refine xO ?_ ?_
 refine AW .tup ?_ ?_ ?_ ?_ ?_ ?_ ?_ ?_ ?_ ?_
 decide
 exact T.kH
 exact T.xh
 exact pq
 exact vq
 refine ah 0 ?_ ?_ ?_
 exact (Or.inl gE)
 exact iP
 exact rfl
 exact CZ
 exact C0
 exact CW.1
 decide +kernel
 decide +kernel
 refine qy ?_
 refine aZ ?_ ?_ ?_ ?_
 exact (dO hu)
 refine au ?_ ?_ ?_
 refine ah 0 ?_ ?_ ?_
 exact (Or.inl gE)
 exact iP
 exact rfl
 exact ak
 decide +kernel
 exact cC
 decide +kernel
 refine ay ?_
 refine br ?_
 refine dM ?_
 refine dG ?_
 refine aE ?_ ?_ ?_
 refine au ?_ ?_ ?_
 refine ah 0 ?_ ?_ ?_
 exact (Or.inl gE)
 exact iP
 exact rfl
 exact ak
 decide +kernel
 decide +kernel
 exact aj
 exact bw
 refine ay ?_
 refine br ?_
 refine bg (CX := cu P w) (k := pP) (f := (t.f 4)) (fd := (t.d 4)) (ps := ["part", "sort"]) ?_ ?_ ?_ ?_ ?_ ?_ ?_ ?_ ?_ ?_
 exact gy
 exact hr.mono (by decide)
 exact T.sA
 exact T.nS.kp
 exact T.sy
 exact fU hx
 exact qU
 exact pZ
 refine aE ?_ ?_ ?_
 refine ah 0 ?_ ?_ ?_
 exact (Or.inl gE)
 exact iP
 exact rfl
 decide +kernel
 refine dG ?_
 exact aj
 decide +kernel
theorem uA : bW pR ["look", "parts"] (aa cz) := ⟨rfl, rfl, rfl, by decide +kernel, rfl, by decide +kernel, by decide +kernel⟩
theorem Bs (T : Txt K mg t) (kR : aW P w K mg base (cu P w) 1 (t.f 16) (t.d 16) ["words"] (aQ K mg 1 cE)) : aW P w K mg base (cu P w) 2 (t.f 17) (t.d 17) ["look", "parts"] (aQ K mg 2 gW) := by
 refine aW.imp (sp := aQ K mg 2 (fun ds => cH 2 dS ds)) ?_ dg
 refine wY (k := 1) (ms := dS) T.vX uA (by decide) (by decide) (fun _ => rfl) ?_
 intro X EE cdv A outer s H E hX hr hx qY
 subst hX
 have hu := cO hr
 have nd := uA.nd
 have hfr : fy (gR (cu P w) P w K mg base pR "look_text" (aa cz) (t.f 17) cdv A outer s H E) := ⟨_, outer, s.heap.objs.size, rfl, rfl, rfl⟩
 refine ao ?_ ?_
 refine cY ?_ ?_ ?_
 refine aZ ?_ ?_ ?_ ?_
 exact (rQ hu)
 refine au ?_ ?_ ?_
 refine ah 0 ?_ ?_ ?_
 exact (Or.inl dz)
 exact iO
 exact rfl
 exact ak
 decide +kernel
 refine dM ?_
 refine dG ?_
 refine dG ?_
 exact aj
 decide +kernel
 refine ay ?_
 refine br ?_
 refine au ?_ ?_ ?_
 refine ah 0 ?_ ?_ ?_
 exact (Or.inl dz)
 exact iO
 exact rfl
 exact ak
 decide +kernel
 exact bw
 refine ao ?_ ?_
 refine cY ?_ ?_ ?_
 refine aZ ?_ ?_ ?_ ?_
 exact (dO hu)
 refine au ?_ ?_ ?_
 refine ah 0 ?_ ?_ ?_
 exact (Or.inl dz)
 exact iO
 exact rfl
 exact ak
 decide +kernel
 exact cC
 decide +kernel
 refine ay ?_
 refine br ?_
 refine bg (CX := cu P w) (k := nL) (f := (t.f 16)) (fd := (t.d 16)) (ps := ["words"]) ?_ ?_ ?_ ?_ ?_ ?_ ?_ ?_ ?_ ?_
 exact kR
 exact hr.mono (by decide)
 exact T.qP
 exact T.m7.kp
 exact T.qO
 exact fU hx
 exact gZ
 exact nU
 refine aE ?_ ?_ ?_
 refine cR ?_
 refine fS ?_
 refine dG ?_
 refine aE ?_ ?_ ?_
 refine au ?_ ?_ ?_
 refine ah 0 ?_ ?_ ?_
 exact (Or.inl dz)
 exact iO
 exact rfl
 exact ak
 decide +kernel
 decide +kernel
 exact aj
 decide +kernel
 exact aj
 decide +kernel
 exact bw
 refine ao ?_ ?_
 refine cY ?_ ?_ ?_
 refine aZ ?_ ?_ ?_ ?_
 exact (dO hu)
 refine au ?_ ?_ ?_
 refine ah 0 ?_ ?_ ?_
 exact (Or.inl dz)
 exact iO
 exact rfl
 exact ak
 decide +kernel
 exact cC
 decide +kernel
 refine ay ?_
 refine br ?_
 refine bg (CX := cu P w) (k := nL) (f := (t.f 16)) (fd := (t.d 16)) (ps := ["words"]) ?_ ?_ ?_ ?_ ?_ ?_ ?_ ?_ ?_ ?_
 exact kR
 exact hr.mono (by decide)
 exact T.qP
 exact T.m7.kp
 exact T.qO
 exact fU hx
 exact gZ
 exact nU
 refine aE ?_ ?_ ?_
 refine cR ?_
 refine bX ?_ ?_
 refine cR ?_
 refine fS ?_
 refine dG ?_
 exact aj
 refine cR ?_
 refine IG (xs := ["step", "part"]) (ow := KZ K 2) ?_ ?_ ?_ ?_ ?_ ?_ ?_ ?_ ?_
 exact hx
 exact hfr
 exact iw
 exact B7 rfl iw
 exact Ca
 exact rfl
 refine Li ?_ ?_ ?_ ?_
 exact T.Qw
 exact vt
 refine aE ?_ ?_ ?_
 refine au ?_ ?_ ?_
 refine ah 0 ?_ ?_ ?_
 exact (Or.inl dz)
 exact iO
 exact rfl
 exact ak
 decide +kernel
 decide +kernel
 refine aE ?_ ?_ ?_
 refine ah 1 ?_ ?_ ?_
 exact (Or.inl lH)
 exact bP
 exact rfl
 decide +kernel
 exact aj
 decide +kernel
 refine jD fun cl C pins s0 H0 fp E1 N3 hx => ?_
 refine bg (CX := cu P w) (k := nL) (f := (t.f 16)) (fd := (t.d 16)) (ps := ["words"]) ?_ ?_ ?_ ?_ ?_ ?_ ?_ ?_ ?_ ?_
 exact kR
 exact hr.mono (by decide)
 exact T.qP
 exact T.m7.kp
 exact T.qO
 exact fU hx
 exact (tK lP)
 exact nU
 refine aE ?_ ?_ ?_
 refine cR ?_
 refine fS ?_
 refine aE ?_ ?_ ?_
 refine au ?_ ?_ ?_
 refine ah 0 ?_ ?_ ?_
 exact (mz iw (by simp))
 exact Lq
 exact rfl
 exact ak
 decide +kernel
 decide +kernel
 refine aE ?_ ?_ ?_
 refine ah 1 ?_ ?_ ?_
 exact (mz iw (by simp))
 exact iP
 exact rfl
 decide +kernel
 exact aj
 decide +kernel
 exact aj
 decide +kernel
 decide +kernel
 decide +kernel
 exact aj
 decide +kernel
 exact bw
 refine ay ?_
 refine br ?_
 refine bg (CX := cu P w) (k := nL) (f := (t.f 16)) (fd := (t.d 16)) (ps := ["words"]) ?_ ?_ ?_ ?_ ?_ ?_ ?_ ?_ ?_ ?_
 exact kR
 exact hr.mono (by decide)
 exact T.qP
 exact T.m7.kp
 exact T.qO
 exact fU hx
 exact gZ
 exact nU
 refine aE ?_ ?_ ?_
 refine cR ?_
 refine bX ?_ ?_
 refine cR ?_
 refine fS ?_
 refine aE ?_ ?_ ?_
 refine au ?_ ?_ ?_
 refine ah 0 ?_ ?_ ?_
 exact (Or.inl dz)
 exact iO
 exact rfl
 exact ak
 decide +kernel
 decide +kernel
 exact aj
 refine ah 1 ?_ ?_ ?_
 exact (Or.inl lH)
 exact bP
 exact rfl
 decide +kernel
 exact aj
 decide +kernel
theorem uB : bW vP ["parts"] (aa cL) := ⟨rfl, rfl, rfl, by decide +kernel, rfl, by decide +kernel, by decide +kernel⟩
theorem Bt (T : Txt K mg t) (qg : aW P w K mg base (cu P w) 2 (t.f 5) (t.d 5) ["parts", "sort"] (aQ K mg 2 jY)) : aW P w K mg base (cu P w) 3 (t.f 8) (t.d 8) ["parts"] (aQ K mg 1 jZ) := by
 refine aW.imp (sp := aQ K mg 1 (fun ds => cH 1 lW ds)) ?_ dg
 refine wY (k := 2) (ms := lW) T.vU uB (by decide) (by decide) (fun _ => rfl) ?_
 intro X EE cdv A outer s H E hX hr hx qY
 subst hX
 have hu := cO hr
 have nd := uB.nd
 have hfr : fy (gR (cu P w) P w K mg base vP "way_value" (aa cL) (t.f 8) cdv A outer s H E) := ⟨_, outer, s.heap.objs.size, rfl, rfl, rfl⟩
 refine ao ?_ ?_
 refine cY ?_ ?_ ?_
 refine aZ ?_ ?_ ?_ ?_
 exact AM
 refine gq ?_ ?_ ?_ ?_
 exact T.jj
 exact vA
 refine aE ?_ ?_ ?_
 refine ah 0 ?_ ?_ ?_
 exact (Or.inl lI)
 exact bP
 exact rfl
 decide +kernel
 exact aj
 decide +kernel
 exact ak
 decide +kernel
 refine ay ?_
 refine jU (C := (t.c 0)) ?_ ?_ ?_ ?_ ?_ ?_ ?_ ?_
 exact rfl
 exact hx
 exact T.j3
 exact T.j4
 exact qX
 exact iY
 refine dG ?_
 exact aj
 decide +kernel
 exact bw
 refine ay ?_
 refine br ?_
 refine bg (CX := cu P w) (k := A7) (f := (t.f 5)) (fd := (t.d 5)) (ps := ["parts", "sort"]) ?_ ?_ ?_ ?_ ?_ ?_ ?_ ?_ ?_ ?_
 exact qg
 exact hr.mono (by decide)
 exact T.CL
 exact T.vS.kp
 exact T.CK
 exact fU hx
 exact oi
 exact Bo
 refine aE ?_ ?_ ?_
 refine cR ?_
 refine jT ?_ ?_ ?_
 refine ah 0 ?_ ?_ ?_
 exact (Or.inl lI)
 exact bP
 exact rfl
 refine jM ?_
 exact ak
 exact qw
 decide +kernel
 refine dG ?_
 exact aj
 decide +kernel
theorem rK : bW tV ["parts"] (aa bS) := ⟨rfl, rfl, rfl, by decide +kernel, rfl, by decide +kernel, by decide +kernel⟩
theorem zx (T : Txt K mg t) (vC : aW P w K mg base (cu P w) 2 (t.f 6) (t.d 6) ["part"] (aQ K mg 1 m5)) (i8 : aW P w K mg base (cu P w) 2 (t.f 10) (t.d 10) ["part"] (aQ K mg 1 fE)) : aW P w K mg base (cu P w) 3 (t.f 9) (t.d 9) ["parts"] (aQ K mg 1 eN) := by
 refine aW.imp (sp := aQ K mg 1 (fun ds => cH 1 ia ds)) ?_ dg
 refine wY (k := 2) (ms := ia) T.t8 rK (by decide) (by decide) (fun _ => rfl) ?_
 intro X EE cdv A outer s H E hX hr hx qY
 subst hX
 have hu := cO hr
 have nd := rK.nd
 have hfr : fy (gR (cu P w) P w K mg base tV "look_value" (aa bS) (t.f 9) cdv A outer s H E) := ⟨_, outer, s.heap.objs.size, rfl, rfl, rfl⟩
 refine ao ?_ ?_
 refine cY ?_ ?_ ?_
 refine yY ?_
 refine uT ?_ ?_
 refine aZ ?_ ?_ ?_ ?_
 exact (dO hu)
 refine gq ?_ ?_ ?_ ?_
 exact T.jj
 exact jq
 refine aE ?_ ?_ ?_
 refine ah 0 ?_ ?_ ?_
 exact (Or.inl aX)
 exact bP
 exact rfl
 decide +kernel
 exact aj
 decide +kernel
 exact ak
 decide +kernel
 refine qy ?_
 refine aZ ?_ ?_ ?_ ?_
 exact (dO hu)
 refine au ?_ ?_ ?_
 refine ah 0 ?_ ?_ ?_
 exact (Or.inl aX)
 exact bP
 exact rfl
 exact ak
 decide +kernel
 exact cC
 decide +kernel
 refine ay ?_
 refine br ?_
 refine dM ?_
 refine dG ?_
 refine aE ?_ ?_ ?_
 refine bg (CX := cu P w) (k := Eh) (f := (t.f 6)) (fd := (t.d 6)) (ps := ["part"]) ?_ ?_ ?_ ?_ ?_ ?_ ?_ ?_ ?_ ?_
 exact vC
 exact hr.mono (by decide)
 exact T.GV
 exact T.Aj.kp
 exact T.GU
 exact fU hx
 exact pA
 exact Es
 refine aE ?_ ?_ ?_
 refine au ?_ ?_ ?_
 refine ah 0 ?_ ?_ ?_
 exact (Or.inl aX)
 exact bP
 exact rfl
 exact ak
 decide +kernel
 decide +kernel
 exact aj
 decide +kernel
 decide +kernel
 exact aj
 exact bw
 refine ao ?_ ?_
 refine cY ?_ ?_ ?_
 refine yY ?_
 refine uT ?_ ?_
 refine aZ ?_ ?_ ?_ ?_
 exact (dO hu)
 refine gq ?_ ?_ ?_ ?_
 exact T.jj
 exact jq
 refine aE ?_ ?_ ?_
 refine ah 0 ?_ ?_ ?_
 exact (Or.inl aX)
 exact bP
 exact rfl
 decide +kernel
 exact aj
 decide +kernel
 exact ak
 decide +kernel
 refine qy ?_
 refine aZ ?_ ?_ ?_ ?_
 exact (dO hu)
 refine au ?_ ?_ ?_
 refine ah 0 ?_ ?_ ?_
 exact (Or.inl aX)
 exact bP
 exact rfl
 exact ak
 decide +kernel
 exact cC
 decide +kernel
 refine ay ?_
 refine br ?_
 refine dM ?_
 refine dG ?_
 refine aE ?_ ?_ ?_
 refine bg (CX := cu P w) (k := nN) (f := (t.f 10)) (fd := (t.d 10)) (ps := ["part"]) ?_ ?_ ?_ ?_ ?_ ?_ ?_ ?_ ?_ ?_
 exact i8
 exact hr.mono (by decide)
 exact T.qN
 exact T.m6.kp
 exact T.qM
 exact fU hx
 exact gJ
 exact nV
 refine aE ?_ ?_ ?_
 refine au ?_ ?_ ?_
 refine ah 0 ?_ ?_ ?_
 exact (Or.inl aX)
 exact bP
 exact rfl
 exact ak
 decide +kernel
 decide +kernel
 exact aj
 decide +kernel
 decide +kernel
 exact aj
 exact bw
 refine ao ?_ ?_
 refine cY ?_ ?_ ?_
 refine yY ?_
 refine uT ?_ ?_
 refine aZ ?_ ?_ ?_ ?_
 exact (dO hu)
 refine gq ?_ ?_ ?_ ?_
 exact T.jj
 exact jq
 refine aE ?_ ?_ ?_
 refine ah 0 ?_ ?_ ?_
 exact (Or.inl aX)
 exact bP
 exact rfl
 decide +kernel
 exact aj
 decide +kernel
 exact ak
 decide +kernel
 refine qy ?_
 refine aZ ?_ ?_ ?_ ?_
 exact (rQ hu)
 refine au ?_ ?_ ?_
 refine ah 0 ?_ ?_ ?_
 exact (Or.inl aX)
 exact bP
 exact rfl
 exact ak
 decide +kernel
 refine dM ?_
 refine dG ?_
 refine dG ?_
 exact aj
 decide +kernel
 refine ay ?_
 refine br ?_
 refine dM ?_
 refine aE ?_ ?_ ?_
 refine au ?_ ?_ ?_
 refine ah 0 ?_ ?_ ?_
 exact (Or.inl aX)
 exact bP
 exact rfl
 exact ak
 decide +kernel
 decide +kernel
 refine aE ?_ ?_ ?_
 refine bg (CX := cu P w) (k := nN) (f := (t.f 10)) (fd := (t.d 10)) (ps := ["part"]) ?_ ?_ ?_ ?_ ?_ ?_ ?_ ?_ ?_ ?_
 exact i8
 exact hr.mono (by decide)
 exact T.qN
 exact T.m6.kp
 exact T.qM
 exact fU hx
 exact gJ
 exact nV
 refine aE ?_ ?_ ?_
 refine au ?_ ?_ ?_
 refine ah 0 ?_ ?_ ?_
 exact (Or.inl aX)
 exact bP
 exact rfl
 exact ak
 decide +kernel
 decide +kernel
 exact aj
 decide +kernel
 decide +kernel
 refine aE ?_ ?_ ?_
 refine bg (CX := cu P w) (k := nN) (f := (t.f 10)) (fd := (t.d 10)) (ps := ["part"]) ?_ ?_ ?_ ?_ ?_ ?_ ?_ ?_ ?_ ?_
 exact i8
 exact hr.mono (by decide)
 exact T.qN
 exact T.m6.kp
 exact T.qM
 exact fU hx
 exact gJ
 exact nV
 refine aE ?_ ?_ ?_
 refine au ?_ ?_ ?_
 refine ah 0 ?_ ?_ ?_
 exact (Or.inl aX)
 exact bP
 exact rfl
 exact ak
 decide +kernel
 decide +kernel
 exact aj
 decide +kernel
 decide +kernel
 exact aj
 exact bw
 refine ay ?_
 refine jU (C := (t.c 0)) ?_ ?_ ?_ ?_ ?_ ?_ ?_ ?_
 exact rfl
 exact hx
 exact T.j3
 exact T.j4
 exact p9
 exact iY
 refine dG ?_
 exact aj
 decide +kernel
theorem qh : bW rE ["parts"] (aa bC) := ⟨rfl, rfl, rfl, by decide +kernel, rfl, by decide +kernel, by decide +kernel⟩
theorem yE (T : Txt K mg t) (qj : aW P w K mg base (cu P w) 3 (t.f 8) (t.d 8) ["parts"] (aQ K mg 1 jZ)) (om : aW P w K mg base (cu P w) 3 (t.f 9) (t.d 9) ["parts"] (aQ K mg 1 eN)) (i8 : aW P w K mg base (cu P w) 2 (t.f 10) (t.d 10) ["part"] (aQ K mg 1 fE)) : aW P w K mg base (cu P w) 4 (t.f 7) (t.d 7) ["parts"] (aQ K mg 1 aJ) := by
 refine aW.imp (sp := aQ K mg 1 (fun ds => cH 1 eX ds)) ?_ dg
 refine wY (k := 3) (ms := eX) T.jQ qh (by decide) (by decide) (fun _ => rfl) ?_
 intro X EE cdv A outer s H E hX hr hx qY
 subst hX
 have hu := cO hr
 have nd := qh.nd
 have hfr : fy (gR (cu P w) P w K mg base rE "make_in_way" (aa bC) (t.f 7) cdv A outer s H E) := ⟨_, outer, s.heap.objs.size, rfl, rfl, rfl⟩
 refine ao ?_ ?_
 refine cY ?_ ?_ ?_
 refine aZ ?_ ?_ ?_ ?_
 exact (dO hu)
 refine cR ?_
 refine jT ?_ ?_ ?_
 refine ah 0 ?_ ?_ ?_
 exact (Or.inl cB)
 exact bP
 exact rfl
 exact qw
 refine jM ?_
 exact ak
 refine cR ?_
 refine fS ?_
 refine dG ?_
 exact aj
 decide +kernel
 refine ay ?_
 refine br ?_
 refine dM ?_
 refine dG ?_
 refine aE ?_ ?_ ?_
 refine bg (CX := cu P w) (k := A8) (f := (t.f 8)) (fd := (t.d 8)) (ps := ["parts"]) ?_ ?_ ?_ ?_ ?_ ?_ ?_ ?_ ?_ ?_
 exact qj
 exact hr.mono (by decide)
 exact T.CN
 exact T.vU.kp
 exact T.CM
 exact fU hx
 exact mJ
 exact Bp
 refine aE ?_ ?_ ?_
 refine ah 0 ?_ ?_ ?_
 exact (Or.inl cB)
 exact bP
 exact rfl
 decide +kernel
 exact aj
 decide +kernel
 decide +kernel
 exact aj
 exact bw
 refine ao ?_ ?_
 refine cY ?_ ?_ ?_
 refine yY ?_
 refine uT ?_ ?_
 refine aZ ?_ ?_ ?_ ?_
 exact (dO hu)
 refine gq ?_ ?_ ?_ ?_
 exact T.jj
 exact sM
 refine aE ?_ ?_ ?_
 refine ah 0 ?_ ?_ ?_
 exact (Or.inl cB)
 exact bP
 exact rfl
 decide +kernel
 exact aj
 decide +kernel
 exact ak
 decide +kernel
 refine qy ?_
 refine aZ ?_ ?_ ?_ ?_
 exact (rQ hu)
 refine au ?_ ?_ ?_
 refine ah 0 ?_ ?_ ?_
 exact (Or.inl cB)
 exact bP
 exact rfl
 exact ak
 decide +kernel
 refine wZ ?_ ?_ ?_
 exact T.N1
 exact qV
 exact Lo
 decide +kernel
 refine ay ?_
 refine br ?_
 refine dM ?_
 refine dG ?_
 refine aE ?_ ?_ ?_
 refine dM ?_
 refine aE ?_ ?_ ?_
 refine au ?_ ?_ ?_
 refine ah 0 ?_ ?_ ?_
 exact (Or.inl cB)
 exact bP
 exact rfl
 exact ak
 decide +kernel
 decide +kernel
 refine aE ?_ ?_ ?_
 refine bg (CX := cu P w) (k := nN) (f := (t.f 10)) (fd := (t.d 10)) (ps := ["part"]) ?_ ?_ ?_ ?_ ?_ ?_ ?_ ?_ ?_ ?_
 exact i8
 exact hr.mono (by decide)
 exact T.qN
 exact T.m6.kp
 exact T.qM
 exact fU hx
 exact n8
 exact nV
 refine aE ?_ ?_ ?_
 refine au ?_ ?_ ?_
 refine ah 0 ?_ ?_ ?_
 exact (Or.inl cB)
 exact bP
 exact rfl
 exact ak
 decide +kernel
 decide +kernel
 exact aj
 decide +kernel
 decide +kernel
 exact aj
 decide +kernel
 exact aj
 exact bw
 refine ay ?_
 refine br ?_
 refine dM ?_
 refine dG ?_
 refine aE ?_ ?_ ?_
 refine bg (CX := cu P w) (k := zf) (f := (t.f 9)) (fd := (t.d 9)) (ps := ["parts"]) ?_ ?_ ?_ ?_ ?_ ?_ ?_ ?_ ?_ ?_
 exact om
 exact hr.mono (by decide)
 exact T.Bb
 exact T.t8.kp
 exact T.Ba
 exact fU hx
 exact lQ
 exact zo
 refine aE ?_ ?_ ?_
 refine ah 0 ?_ ?_ ?_
 exact (Or.inl cB)
 exact bP
 exact rfl
 decide +kernel
 exact aj
 decide +kernel
 decide +kernel
 exact aj
theorem oS : bW pS ["text", "make"] (aa aM) := ⟨rfl, rfl, rfl, by decide +kernel, rfl, by decide +kernel, by decide +kernel⟩
theorem wR (T : Txt K mg t) (sS : aW P w K mg base (cu P w) 1 (t.f 2) (t.d 2) ["text"] (aQ K mg 1 lq)) (dR : aW P w K mg base (cu P w) 4 (t.f 7) (t.d 7) ["parts"] (aQ K mg 1 aJ)) (eU : aW P w K mg base (cu P w) 1 (t.f 11) (t.d 11) ["look"] (aQ K mg 1 cP)) : aW P w K mg base (cu P w) 5 (t.f 3) (t.d 3) ["text", "make"] (aQ K mg 2 gX) := by
 refine aW.imp (sp := aQ K mg 2 (fun ds => cH 5 jh ds)) ?_ dg
 refine wY (k := 4) (ms := jh) T.pV oS (by decide) (by decide) (fun _ => rfl) ?_
 intro X EE cdv A outer s H E hX hr hx qY
 subst hX
 have hu := cO hr
 have nd := oS.nd
 have hfr : fy (gR (cu P w) P w K mg base pS "read_bracket" (aa aM) (t.f 3) cdv A outer s H E) := ⟨_, outer, s.heap.objs.size, rfl, rfl, rfl⟩
 refine ao ?_ ?_
 refine bU (i := 2) ?_ ?_ ?_ ?_ ?_ ?_
 exact nd
 exact (Or.inl aY)
 refine fS ?_
 refine aE ?_ ?_ ?_
 refine fS ?_
 exact aj
 decide +kernel
 exact aj
 exact Or.inl rfl
 exact rfl
 decide +kernel
 refine ao ?_ ?_
 refine Iu ?_ ?_ ?_ ?_ ?_ ?_
 exact qY
 exact rfl
 refine bg (CX := cu P w) (k := CG) (f := (t.f 2)) (fd := (t.d 2)) (ps := ["text"]) ?_ ?_ ?_ ?_ ?_ ?_ ?_ ?_ ?_ ?_
 exact sS
 exact hr.mono (by decide)
 exact T.Ek
 exact T.yi.kp
 exact T.Ej
 exact fU hx
 exact mK
 exact CY
 refine aE ?_ ?_ ?_
 refine ah 0 ?_ ?_ ?_
 exact (Or.inl qe)
 exact kK
 exact rfl
 decide +kernel
 exact aj
 decide +kernel
 refine nF (i := 3) ?_ ?_ ?_ ?_
 exact nd
 exact (Or.inl fP)
 exact Or.inl rfl
 exact rfl
 refine ay ?_
 refine cY ?_ ?_ ?_
 refine aZ ?_ ?_ ?_ ?_
 exact (dO hu)
 refine ah 3 ?_ ?_ ?_
 exact (Or.inl fP)
 exact ue
 exact rfl
 exact cC
 decide +kernel
 refine ay ?_
 refine kB ?_ ?_
 refine iW ?_ ?_ ?_ ?_ ?_
 refine ah 2 ?_ ?_ ?_
 exact (Or.inl aY)
 exact i6
 exact rfl
 refine aE ?_ ?_ ?_
 refine fS ?_
 exact aj
 decide +kernel
 exact aj
 decide +kernel
 decide +kernel
 exact rfl
 decide +kernel
 refine ay ?_
 refine cY ?_ ?_ ?_
 refine aZ ?_ ?_ ?_ ?_
 exact (dO hu)
 refine ah 3 ?_ ?_ ?_
 exact (Or.inl fP)
 exact ue
 exact rfl
 exact cC
 decide +kernel
 refine ao ?_ ?_
 refine bU (i := 4) ?_ ?_ ?_ ?_ ?_ ?_
 exact nd
 exact (Or.inl jB)
 refine DX ?_ ?_ ?_
 refine ah 2 ?_ ?_ ?_
 exact (Or.inl aY)
 exact i6
 exact rfl
 decide +kernel
 exact rfl
 exact Or.inl rfl
 exact rfl
 decide +kernel
 refine ao ?_ ?_
 refine cY ?_ ?_ ?_
 refine aZ ?_ ?_ ?_ ?_
 exact (dO hu)
 refine gq ?_ ?_ ?_ ?_
 exact T.jj
 exact iH
 refine aE ?_ ?_ ?_
 refine ah 2 ?_ ?_ ?_
 exact (Or.inl aY)
 exact i6
 exact rfl
 decide +kernel
 exact aj
 decide +kernel
 exact ak
 decide +kernel
 refine ay ?_
 refine jU (C := (t.c 0)) ?_ ?_ ?_ ?_ ?_ ?_ ?_ ?_
 exact rfl
 exact hx
 exact T.j3
 exact T.j4
 exact gx
 exact iY
 refine dG ?_
 exact aj
 decide +kernel
 exact bw
 refine ay ?_
 refine kB ?_ ?_
 refine iW ?_ ?_ ?_ ?_ ?_
 refine au ?_ ?_ ?_
 refine ah 2 ?_ ?_ ?_
 exact (Or.inl aY)
 exact i6
 exact rfl
 refine H8 ?_
 exact ak
 decide +kernel
 refine aE ?_ ?_ ?_
 refine tL (CX := cu P w) ?_ ?_ ?_ ?_ ?_ ?_ ?_
 exact rfl
 exact (Or.inl qc)
 exact Fy
 exact Iz ⟨⟨_, _, _, _, dR, hr.mono (by decide), T.jR, T.jQ.kp, T.mE⟩, ⟨⟨_, _, _, _, eU, hr.mono (by decide), T.kG, T.kF.kp, T.nT⟩, trivial⟩⟩
 exact fU hx
 refine aE ?_ ?_ ?_
 refine Fo ?_
 refine ah 4 ?_ ?_ ?_
 exact (Or.inl jB)
 exact bP
 exact rfl
 decide +kernel
 exact aj
 decide +kernel
 decide +kernel
 exact aj
 decide +kernel
 decide +kernel
 exact rfl
 decide +kernel
 refine ay ?_
 refine kB ?_ ?_
 refine iW ?_ ?_ ?_ ?_ ?_
 refine au ?_ ?_ ?_
 refine ah 2 ?_ ?_ ?_
 exact (Or.inl aY)
 exact i6
 exact rfl
 refine H8 ?_
 exact ak
 decide +kernel
 refine aE ?_ ?_ ?_
 refine ah 3 ?_ ?_ ?_
 exact (Or.inl fP)
 exact ue
 exact rfl
 decide +kernel
 exact aj
 decide +kernel
 decide +kernel
 exact rfl
 decide +kernel
 decide +kernel
 refine ao ?_ ?_
 refine cY ?_ ?_ ?_
 refine aZ ?_ ?_ ?_ ?_
 exact uU
 refine gq ?_ ?_ ?_ ?_
 exact T.jj
 exact iH
 refine aE ?_ ?_ ?_
 refine ah 2 ?_ ?_ ?_
 exact (Or.inl aY)
 exact i6
 exact rfl
 decide +kernel
 exact aj
 decide +kernel
 exact ak
 decide +kernel
 refine ay ?_
 refine jU (C := (t.c 0)) ?_ ?_ ?_ ?_ ?_ ?_ ?_ ?_
 exact rfl
 exact hx
 exact T.j3
 exact T.j4
 exact gx
 exact iY
 refine dG ?_
 exact aj
 decide +kernel
 exact bw
 refine ao ?_ ?_
 refine cY ?_ ?_ ?_
 refine aZ ?_ ?_ ?_ ?_
 exact (uR hu)
 refine gq ?_ ?_ ?_ ?_
 exact T.jj
 exact iH
 refine aE ?_ ?_ ?_
 refine au ?_ ?_ ?_
 refine ah 2 ?_ ?_ ?_
 exact (Or.inl aY)
 exact i6
 exact rfl
 exact ak
 decide +kernel
 decide +kernel
 exact aj
 decide +kernel
 exact ak
 decide +kernel
 refine ay ?_
 refine jU (C := (t.c 0)) ?_ ?_ ?_ ?_ ?_ ?_ ?_ ?_
 exact rfl
 exact hx
 exact T.j3
 exact T.j4
 exact gx
 exact iY
 refine dG ?_
 exact aj
 decide +kernel
 exact bw
 refine ay ?_
 refine br ?_
 refine au ?_ ?_ ?_
 refine au ?_ ?_ ?_
 refine ah 2 ?_ ?_ ?_
 exact (Or.inl aY)
 exact i6
 exact rfl
 exact ak
 decide +kernel
 exact ak
 decide +kernel
theorem rL : bW tW ["top", "parts_of"] (aa bz) := ⟨rfl, rfl, rfl, by decide +kernel, rfl, by decide +kernel, by decide +kernel⟩
theorem zy (T : Txt K mg t) (dR : aW P w K mg base (cu P w) 4 (t.f 7) (t.d 7) ["parts"] (aQ K mg 1 aJ)) (eU : aW P w K mg base (cu P w) 1 (t.f 11) (t.d 11) ["look"] (aQ K mg 1 cP)) : aW P w K mg base (cu P w) 5 (t.f 12) (t.d 12) ["top", "parts_of"] (aQ K mg 2 ji) := by
 refine aW.imp (sp := aQ K mg 2 (fun ds => cH 5 kE ds)) ?_ dg
 refine wY (k := 4) (ms := kE) T.t9 rL (by decide) (by decide) (fun _ => rfl) ?_
 intro X EE cdv A outer s H E hX hr hx qY
 subst hX
 have hu := cO hr
 have nd := rL.nd
 have hfr : fy (gR (cu P w) P w K mg base tW "all_within" (aa bz) (t.f 12) cdv A outer s H E) := ⟨_, outer, s.heap.objs.size, rfl, rfl, rfl⟩
 refine ao ?_ ?_
 refine bU (i := 2) ?_ ?_ ?_ ?_ ?_ ?_
 exact nd
 exact (Or.inl iG)
 refine fS ?_
 exact aj
 exact Or.inl rfl
 exact rfl
 decide +kernel
 refine ao ?_ ?_
 refine bU (i := 3) ?_ ?_ ?_ ?_ ?_ ?_
 exact nd
 exact (Or.inl fm)
 refine fS ?_
 refine aE ?_ ?_ ?_
 refine ah 0 ?_ ?_ ?_
 exact (Or.inl uq)
 exact Ji
 exact rfl
 decide +kernel
 exact aj
 exact Or.inl rfl
 exact rfl
 decide +kernel
 refine ao ?_ ?_
 refine IE ?_ ?_ ?_
 exact qY
 refine aZ ?_ ?_ ?_ ?_
 exact uU
 refine gq ?_ ?_ ?_ ?_
 exact T.jj
 exact uo
 refine aE ?_ ?_ ?_
 refine ah 3 ?_ ?_ ?_
 exact (Or.inl fm)
 exact sD
 exact rfl
 decide +kernel
 exact aj
 decide +kernel
 exact ak
 decide +kernel
 refine ao ?_ ?_
 refine bU (i := 4) ?_ ?_ ?_ ?_ ?_ ?_
 exact nd
 exact (Or.inl jn)
 refine DX ?_ ?_ ?_
 refine ah 3 ?_ ?_ ?_
 exact (Or.inl fm)
 exact sD
 exact rfl
 decide +kernel
 exact rfl
 exact Or.inl rfl
 exact rfl
 decide +kernel
 refine ao ?_ ?_
 refine kB ?_ ?_
 refine iW ?_ ?_ ?_ ?_ ?_
 refine ah 2 ?_ ?_ ?_
 exact (Or.inl iG)
 exact CU
 exact rfl
 refine aE ?_ ?_ ?_
 refine ah 4 ?_ ?_ ?_
 exact (Or.inl jn)
 exact Bl
 exact rfl
 decide +kernel
 exact aj
 decide +kernel
 decide +kernel
 exact rfl
 decide +kernel
 refine ay ?_
 refine kB ?_ ?_
 refine Lf ?_ ?_ ?_ ?_ ?_
 refine ah 3 ?_ ?_ ?_
 exact (Or.inl fm)
 exact sD
 exact rfl
 refine aE ?_ ?_ ?_
 refine cR ?_
 refine D3 ?_ ?_ ?_ ?_ ?_ ?_ ?_
 exact rfl
 exact T.Jf
 exact sH
 exact T.yo
 exact nY
 refine aE ?_ ?_ ?_
 refine tL (CX := cu P w) ?_ ?_ ?_ ?_ ?_ ?_ ?_
 exact rfl
 exact (Or.inl nX)
 exact pX
 exact Iz ⟨⟨_, _, _, _, dR, hr.mono (by decide), T.jR, T.jQ.kp, T.mE⟩, ⟨⟨_, _, _, _, eU, hr.mono (by decide), T.kG, T.kF.kp, T.nT⟩, trivial⟩⟩
 exact fU hx
 refine aE ?_ ?_ ?_
 refine ah 4 ?_ ?_ ?_
 exact (Or.inl jn)
 exact Bl
 exact rfl
 decide +kernel
 exact aj
 decide +kernel
 decide +kernel
 exact aj
 decide +kernel
 decide +kernel
 exact aj
 decide +kernel
 decide +kernel
 exact rfl
 decide +kernel
 refine ay ?_
 refine br ?_
 refine Fo ?_
 refine ah 2 ?_ ?_ ?_
 exact (Or.inl iG)
 exact CU
 exact rfl
theorem wj : bW ye ["text"] (aa dh) := ⟨rfl, rfl, rfl, by decide +kernel, rfl, by decide +kernel, by decide +kernel⟩
theorem C3 (T : Txt K mg t) (lK : aW P w K mg base (cu P w) 5 (t.f 3) (t.d 3) ["text", "make"] (aQ K mg 2 gX)) (gy : aW P w K mg base (cu P w) 1 (t.f 4) (t.d 4) ["part", "sort"] (aQ K mg 2 fj)) : aW P w K mg base (cu P w) 6 (t.f 1) (t.d 1) ["text"] (aQ K mg 1 fV) := by
 refine aW.imp (sp := aQ K mg 1 (fun ds => cH 1 nO ds)) ?_ dg
 refine wY (k := 5) (ms := nO) T.nR wj (by decide) (by decide) (fun _ => rfl) ?_
 intro X EE cdv A outer s H E hX hr hx qY
 subst hX
 have hu := cO hr
 have nd := wj.nd
 have hfr : fy (gR (cu P w) P w K mg base ye "read_way" (aa dh) (t.f 1) cdv A outer s H E) := ⟨_, outer, s.heap.objs.size, rfl, rfl, rfl⟩
 refine ay ?_
 refine br ?_
 refine bg (CX := cu P w) (k := pP) (f := (t.f 4)) (fd := (t.d 4)) (ps := ["part", "sort"]) ?_ ?_ ?_ ?_ ?_ ?_ ?_ ?_ ?_ ?_
 exact gy
 exact hr.mono (by decide)
 exact T.sA
 exact T.nS.kp
 exact T.sy
 exact fU hx
 exact qf
 exact pZ
 refine aE ?_ ?_ ?_
 refine bg (CX := cu P w) (k := wH) (f := (t.f 3)) (fd := (t.d 3)) (ps := ["text", "make"]) ?_ ?_ ?_ ?_ ?_ ?_ ?_ ?_ ?_ ?_
 exact lK
 exact hr.mono (by decide)
 exact T.yk
 exact T.pV.kp
 exact T.yj
 exact fU hx
 exact mL
 exact wI
 refine aE ?_ ?_ ?_
 refine ah 0 ?_ ?_ ?_
 exact (Or.inl vz)
 exact kK
 exact rfl
 decide +kernel
 refine aE ?_ ?_ ?_
 refine Ir (f := (t.f 7)) ?_ ?_ ?_
 exact T.jR
 exact ng
 exact yr
 decide +kernel
 exact aj
 decide +kernel
 decide +kernel
 refine dG ?_
 exact aj
 decide +kernel
theorem Ak : bW CH ["top", "parts_of", "make"] (aa cN) := ⟨rfl, rfl, rfl, by decide +kernel, rfl, by decide +kernel, by decide +kernel⟩
theorem G4 (T : Txt K mg t) (dR : aW P w K mg base (cu P w) 4 (t.f 7) (t.d 7) ["parts"] (aQ K mg 1 aJ)) (eU : aW P w K mg base (cu P w) 1 (t.f 11) (t.d 11) ["look"] (aQ K mg 1 cP)) (oq : aW P w K mg base (cu P w) 5 (t.f 12) (t.d 12) ["top", "parts_of"] (aQ K mg 2 ji)) (qk : aW P w K mg base (cu P w) 2 (t.f 17) (t.d 17) ["look", "parts"] (aQ K mg 2 gW)) : aW P w K mg base (cu P w) 6 (t.f 13) (t.d 13) ["top", "parts_of", "make"] (aQ K mg 3 pU) := by
 refine aW.imp (sp := aQ K mg 3 (fun ds => cH 7 tX ds)) ?_ dg
 refine wY (k := 5) (ms := tX) T.CO Ak (by decide) (by decide) (fun _ => rfl) ?_
 intro X EE cdv A outer s H E hX hr hx qY
 subst hX
 have hu := cO hr
 have nd := Ak.nd
 have hfr : fy (gR (cu P w) P w K mg base CH "folded" (aa cN) (t.f 13) cdv A outer s H E) := ⟨_, outer, s.heap.objs.size, rfl, rfl, rfl⟩
 refine ao ?_ ?_
 refine bU (i := 3) ?_ ?_ ?_ ?_ ?_ ?_
 exact nd
 exact (Or.inl jo)
 refine fS ?_
 exact aj
 exact Or.inl rfl
 exact rfl
 decide +kernel
 refine ao ?_ ?_
 refine K7 ?_ ?_ ?_ ?_ ?_ ?_
 exact qY
 exact rfl
 refine NT ?_ ?_ ?_ ?_
 exact T.yo
 exact sI
 refine aE ?_ ?_ ?_
 refine bg (CX := cu P w) (k := zg) (f := (t.f 12)) (fd := (t.d 12)) (ps := ["top", "parts_of"]) ?_ ?_ ?_ ?_ ?_ ?_ ?_ ?_ ?_ ?_
 exact oq
 exact hr.mono (by decide)
 exact T.Bd
 exact T.t9.kp
 exact T.Bc
 exact fU hx
 exact p6
 exact zl
 refine aE ?_ ?_ ?_
 refine ah 0 ?_ ?_ ?_
 exact (Or.inl zu)
 exact Ji
 exact rfl
 decide +kernel
 refine aE ?_ ?_ ?_
 refine ah 1 ?_ ?_ ?_
 exact (Or.inl lE)
 exact pX
 exact rfl
 decide +kernel
 exact aj
 decide +kernel
 decide +kernel
 exact aj
 decide +kernel
 refine nF (i := 4) ?_ ?_ ?_ ?_
 exact nd
 exact (Or.inl mG)
 exact Or.inl rfl
 exact rfl
 refine ao ?_ ?_
 refine bU (i := 5) ?_ ?_ ?_ ?_ ?_ ?_
 exact nd
 exact (Or.inl ki)
 refine fS ?_
 exact aj
 exact Or.inl rfl
 exact rfl
 decide +kernel
 refine ao ?_ ?_
 refine pK ?_ ?_ ?_ ?_ ?_ ?_ ?_ ?_
 exact qY
 exact rfl
 exact T.qQ
 exact wL
 refine aE ?_ ?_ ?_
 refine gq ?_ ?_ ?_ ?_
 exact T.jj
 exact zq
 refine aE ?_ ?_ ?_
 refine tL (CX := cu P w) ?_ ?_ ?_ ?_ ?_ ?_ ?_
 exact rfl
 exact (Or.inl lE)
 exact pX
 exact Iz ⟨⟨_, _, _, _, dR, hr.mono (by decide), T.jR, T.jQ.kp, T.mE⟩, ⟨⟨_, _, _, _, eU, hr.mono (by decide), T.kG, T.kF.kp, T.nT⟩, trivial⟩⟩
 exact fU hx
 refine aE ?_ ?_ ?_
 refine ah 4 ?_ ?_ ?_
 exact (Or.inl mG)
 exact Bl
 exact rfl
 decide +kernel
 exact aj
 decide +kernel
 decide +kernel
 exact aj
 decide +kernel
 decide +kernel
 exact aj
 refine nF (i := 6) ?_ ?_ ?_ ?_
 exact nd
 exact (Or.inl vo)
 exact Or.inl rfl
 exact rfl
 refine ay ?_
 refine kB ?_ ?_
 refine iW ?_ ?_ ?_ ?_ ?_
 refine ah 5 ?_ ?_ ?_
 exact (Or.inl ki)
 exact bP
 exact rfl
 refine aE ?_ ?_ ?_
 refine DX ?_ ?_ ?_
 refine ah 3 ?_ ?_ ?_
 exact (Or.inl jo)
 exact Bk
 exact rfl
 decide +kernel
 exact rfl
 decide +kernel
 exact aj
 decide +kernel
 decide +kernel
 exact rfl
 decide +kernel
 decide +kernel
 refine ay ?_
 refine kB ?_ ?_
 refine iW ?_ ?_ ?_ ?_ ?_
 refine ah 3 ?_ ?_ ?_
 exact (Or.inl jo)
 exact Bk
 exact rfl
 refine aE ?_ ?_ ?_
 refine tL (CX := cu P w) ?_ ?_ ?_ ?_ ?_ ?_ ?_
 exact rfl
 exact (Or.inl yu)
 exact Fy
 exact Iz ⟨⟨_, _, _, _, qk, hr.mono (by decide), T.vY, T.vX.kp, T.CP⟩, trivial⟩
 exact fU hx
 refine aE ?_ ?_ ?_
 refine ah 4 ?_ ?_ ?_
 exact (Or.inl mG)
 exact Bl
 exact rfl
 decide +kernel
 refine aE ?_ ?_ ?_
 refine Fo ?_
 refine ah 5 ?_ ?_ ?_
 exact (Or.inl ki)
 exact bP
 exact rfl
 decide +kernel
 exact aj
 decide +kernel
 decide +kernel
 exact aj
 decide +kernel
 decide +kernel
 exact rfl
 decide +kernel
 decide +kernel
 refine ay ?_
 refine br ?_
 refine au ?_ ?_ ?_
 refine ah 3 ?_ ?_ ?_
 exact (Or.inl jo)
 exact Bk
 exact rfl
 exact ak
 decide +kernel
theorem uC : bW vQ ["look"] (aa cM) := ⟨rfl, rfl, rfl, by decide +kernel, rfl, by decide +kernel, by decide +kernel⟩
theorem Bu (T : Txt K mg t) (yF : aW P w K mg base (cu P w) 6 (t.f 13) (t.d 13) ["top", "parts_of", "make"] (aQ K mg 3 pU)) : aW P w K mg base (cu P w) 7 (t.f 15) (t.d 15) ["look"] (aQ K mg 1 eY) := by
 refine aW.imp (sp := aQ K mg 1 (fun ds => cH 1 lX ds)) ?_ dg
 refine wY (k := 6) (ms := lX) T.pW uC (by decide) (by decide) (fun _ => rfl) ?_
 intro X EE cdv A outer s H E hX hr hx qY
 subst hX
 have hu := cO hr
 have nd := uC.nd
 have hfr : fy (gR (cu P w) P w K mg base vQ "show_look" (aa cM) (t.f 15) cdv A outer s H E) := ⟨_, outer, s.heap.objs.size, rfl, rfl, rfl⟩
 refine ay ?_
 refine br ?_
 refine bg (CX := cu P w) (k := GQ) (f := (t.f 13)) (fd := (t.d 13)) (ps := ["top", "parts_of", "make"]) ?_ ?_ ?_ ?_ ?_ ?_ ?_ ?_ ?_ ?_
 exact yF
 exact hr.mono (by decide)
 exact T.Je
 exact T.CO.kp
 exact T.Jd
 exact fU hx
 exact qW
 exact GY
 refine aE ?_ ?_ ?_
 refine ah 0 ?_ ?_ ?_
 exact (Or.inl uw)
 exact iO
 exact rfl
 decide +kernel
 refine aE ?_ ?_ ?_
 refine Ir (f := (t.f 11)) ?_ ?_ ?_
 exact T.kG
 exact nh
 exact zm
 decide +kernel
 refine aE ?_ ?_ ?_
 refine Ir (f := (t.f 17)) ?_ ?_ ?_
 exact T.vY
 exact n9
 exact Bj
 decide +kernel
 exact aj
 decide +kernel
theorem wm : bW yf ["way"] (aa d9) := ⟨rfl, rfl, rfl, by decide +kernel, rfl, by decide +kernel, by decide +kernel⟩
theorem C4 (T : Txt K mg t) (i9 : aW P w K mg base (cu P w) 7 (t.f 15) (t.d 15) ["look"] (aQ K mg 1 eY)) : aW P w K mg base (cu P w) 8 (t.f 14) (t.d 14) ["way"] (aQ K mg 1 iU) := by
 refine aW.imp (sp := aQ K mg 1 (fun ds => cH 1 nP ds)) ?_ dg
 refine wY (k := 7) (ms := nP) T.yl wm (by decide) (by decide) (fun _ => rfl) ?_
 intro X EE cdv A outer s H E hX hr hx qY
 subst hX
 have hu := cO hr
 have nd := wm.nd
 have hfr : fy (gR (cu P w) P w K mg base yf "show_way" (aa d9) (t.f 14) cdv A outer s H E) := ⟨_, outer, s.heap.objs.size, rfl, rfl, rfl⟩
 refine ay ?_
 refine br ?_
 refine bg (CX := cu P w) (k := tY) (f := (t.f 15)) (fd := (t.d 15)) (ps := ["look"]) ?_ ?_ ?_ ?_ ?_ ?_ ?_ ?_ ?_ ?_
 exact i9
 exact hr.mono (by decide)
 exact T.vW
 exact T.pW.kp
 exact T.vV
 exact fU hx
 exact pB
 exact ud
 refine aE ?_ ?_ ?_
 refine dM ?_
 refine dG ?_
 refine aE ?_ ?_ ?_
 refine ah 0 ?_ ?_ ?_
 exact (Or.inl wO)
 exact N2
 exact rfl
 decide +kernel
 exact aj
 decide +kernel
 exact aj
 decide +kernel
theorem uD : bW vR ["_law_draws_here", "_law_pool", "_law_deep"] (aa bB) := ⟨rfl, rfl, rfl, by decide +kernel, rfl, by decide +kernel, by decide +kernel⟩
theorem Bv {k : Nat} {bN di : List D → M D} (hk : tZ ≤ k) (T : Txt K mg t) (fQ : aW P w K mg base (cu P w) k (t.f 20) (t.d 20) ["_law_draws_here", "_law_pool", "_law_deep"] (aQ K mg 3 (bN))) (gA : aW P w K mg base (cu P w) k (t.f 21) (t.d 21) ["_law_draws_here", "_law_pool", "_law_deep", "_law_many"] (aQ K mg 4 (di))) : aW P w K mg base (cu P w) (k + 1) (t.f 20) (t.d 20) ["_law_draws_here", "_law_pool", "_law_deep"] (aQ K mg 3 (fun ds => cH 6 (fL bN di) ds)) := by
 refine wY (k := k) (ms := fL bN di) T.j0 uD (by decide) (by decide) (fun _ => rfl) ?_
 intro X EE cdv A outer s H E hX hr hx qY
 subst hX
 have hu := cO hr
 have nd := uD.nd
 have hfr : fy (gR (cu P w) P w K mg base vR "_law_look" (aa bB) (t.f 20) cdv A outer s H E) := ⟨_, outer, s.heap.objs.size, rfl, rfl, rfl⟩
 refine ao ?_ ?_
 refine bU (i := 3) ?_ ?_ ?_ ?_ ?_ ?_
 exact nd
 exact (Or.inl cF)
 exact ak
 exact Or.inl rfl
 exact rfl
 decide +kernel
 refine ao ?_ ?_
 refine cY ?_ ?_ ?_
 refine aZ ?_ ?_ ?_ ?_
 exact uU
 refine gq ?_ ?_ ?_ ?_
 exact T.jj
 exact jH
 refine aE ?_ ?_ ?_
 refine ah 0 ?_ ?_ ?_
 exact (Or.inl aU)
 exact aT
 exact rfl
 decide +kernel
 exact aj
 decide +kernel
 exact ak
 decide +kernel
 refine ay ?_
 refine bU (i := 3) ?_ ?_ ?_ ?_ ?_ ?_
 exact nd
 exact (Or.inl cF)
 refine CF ?_ ?_ ?_ ?_ ?_
 refine ah 0 ?_ ?_ ?_
 exact (Or.inl aU)
 exact aT
 exact rfl
 refine IA ?_
 exact aj
 decide +kernel
 decide +kernel
 exact rfl
 exact Or.inl rfl
 exact rfl
 decide +kernel
 exact bw
 refine ao ?_ ?_
 refine bU (i := 4) ?_ ?_ ?_ ?_ ?_ ?_
 exact nd
 exact (Or.inl cA)
 refine eE ?_ ?_
 refine ah 3 ?_ ?_ ?_
 exact (Or.inl cF)
 exact fM
 exact rfl
 exact ak
 exact Or.inl rfl
 exact rfl
 decide +kernel
 refine ao ?_ ?_
 refine cY ?_ ?_ ?_
 refine yY ?_
 refine zP ?_ ?_
 refine aZ ?_ ?_ ?_ ?_
 exact AM
 refine ah 2 ?_ ?_ ?_
 exact (Or.inl dm)
 exact ig
 exact rfl
 exact ak
 decide +kernel
 refine zP ?_ ?_
 refine aZ ?_ ?_ ?_ ?_
 exact (dO hu)
 refine gq ?_ ?_ ?_ ?_
 exact T.jj
 exact jH
 refine aE ?_ ?_ ?_
 refine ah 0 ?_ ?_ ?_
 exact (Or.inl aU)
 exact aT
 exact rfl
 decide +kernel
 exact aj
 decide +kernel
 exact ak
 decide +kernel
 refine AL ?_
 refine aZ ?_ ?_ ?_ ?_
 exact AM
 refine ah 4 ?_ ?_ ?_
 exact (Or.inl cA)
 exact aP
 exact rfl
 exact ak
 decide +kernel
 refine ay ?_
 refine br ?_
 refine au ?_ ?_ ?_
 refine cR ?_
 refine fS ?_
 refine aE ?_ ?_ ?_
 refine dM ?_
 refine dG ?_
 exact aj
 decide +kernel
 refine aE ?_ ?_ ?_
 refine dM ?_
 refine dG ?_
 refine aE ?_ ?_ ?_
 refine au ?_ ?_ ?_
 refine ah 1 ?_ ?_ ?_
 exact (Or.inl cG)
 exact fO
 exact rfl
 refine eE ?_ ?_
 refine gM ?_ ?_
 refine ah 3 ?_ ?_ ?_
 exact (Or.inl cF)
 exact fM
 exact rfl
 exact ak
 refine gq ?_ ?_ ?_ ?_
 exact T.jj
 exact jH
 refine aE ?_ ?_ ?_
 refine ah 1 ?_ ?_ ?_
 exact (Or.inl cG)
 exact fO
 exact rfl
 decide +kernel
 exact aj
 decide +kernel
 decide +kernel
 decide +kernel
 exact aj
 decide +kernel
 exact aj
 refine NO ?_ ?_ ?_ ?_
 exact T.Qu
 exact vm
 refine aE ?_ ?_ ?_
 refine PJ ?_ ?_
 refine eE ?_ ?_
 refine gM ?_ ?_
 refine ah 3 ?_ ?_ ?_
 exact (Or.inl cF)
 exact fM
 exact rfl
 exact ak
 exact ak
 exact ak
 decide +kernel
 exact aj
 decide +kernel
 decide +kernel
 exact bw
 refine ao ?_ ?_
 refine cY ?_ ?_ ?_
 refine aZ ?_ ?_ ?_ ?_
 exact (dO hu)
 refine ah 4 ?_ ?_ ?_
 exact (Or.inl cA)
 exact aP
 exact rfl
 exact ak
 decide +kernel
 refine ay ?_
 refine br ?_
 refine dM ?_
 refine dG ?_
 refine aE ?_ ?_ ?_
 refine bg (CX := cu P w) (k := k) (f := (t.f 20)) (fd := (t.d 20)) (ps := ["_law_draws_here", "_law_pool", "_law_deep"]) ?_ ?_ ?_ ?_ ?_ ?_ ?_ ?_ ?_ ?_
 exact fQ
 exact hr
 exact T.bO
 exact T.j0.kp
 exact T.mj
 exact fU hx
 exact gr
 exact kI
 refine aE ?_ ?_ ?_
 refine ah 0 ?_ ?_ ?_
 exact (Or.inl aU)
 exact aT
 exact rfl
 decide +kernel
 refine aE ?_ ?_ ?_
 refine ah 1 ?_ ?_ ?_
 exact (Or.inl cG)
 exact fO
 exact rfl
 decide +kernel
 refine aE ?_ ?_ ?_
 refine uP ?_ ?_
 refine ah 2 ?_ ?_ ?_
 exact (Or.inl dm)
 exact ig
 exact rfl
 exact ak
 decide +kernel
 exact aj
 decide +kernel
 decide +kernel
 exact aj
 exact bw
 refine ao ?_ ?_
 refine cY ?_ ?_ ?_
 refine aZ ?_ ?_ ?_ ?_
 exact AM
 refine ah 4 ?_ ?_ ?_
 exact (Or.inl cA)
 exact aP
 exact rfl
 exact ak
 decide +kernel
 refine ao ?_ ?_
 refine bU (i := 5) ?_ ?_ ?_ ?_ ?_ ?_
 exact nd
 exact (Or.inl jA)
 refine bg (CX := cu P w) (k := k) (f := (t.f 20)) (fd := (t.d 20)) (ps := ["_law_draws_here", "_law_pool", "_law_deep"]) ?_ ?_ ?_ ?_ ?_ ?_ ?_ ?_ ?_ ?_
 exact fQ
 exact hr
 exact T.bO
 exact T.j0.kp
 exact T.mj
 exact fU hx
 exact gr
 exact kI
 refine aE ?_ ?_ ?_
 refine ah 0 ?_ ?_ ?_
 exact (Or.inl aU)
 exact aT
 exact rfl
 decide +kernel
 refine aE ?_ ?_ ?_
 refine ah 1 ?_ ?_ ?_
 exact (Or.inl cG)
 exact fO
 exact rfl
 decide +kernel
 refine aE ?_ ?_ ?_
 refine uP ?_ ?_
 refine ah 2 ?_ ?_ ?_
 exact (Or.inl dm)
 exact ig
 exact rfl
 exact ak
 decide +kernel
 exact aj
 decide +kernel
 exact Or.inl rfl
 exact rfl
 decide +kernel
 refine ay ?_
 refine br ?_
 refine dM ?_
 refine aE ?_ ?_ ?_
 refine au ?_ ?_ ?_
 refine cR ?_
 refine fS ?_
 refine dG ?_
 refine dG ?_
 exact aj
 refine uP ?_ ?_
 refine ah 4 ?_ ?_ ?_
 exact (Or.inl cA)
 exact aP
 exact rfl
 exact ak
 decide +kernel
 decide +kernel
 refine aE ?_ ?_ ?_
 refine ah 5 ?_ ?_ ?_
 exact (Or.inl jA)
 exact v9
 exact rfl
 decide +kernel
 refine aE ?_ ?_ ?_
 refine bg (CX := cu P w) (k := k) (f := (t.f 20)) (fd := (t.d 20)) (ps := ["_law_draws_here", "_law_pool", "_law_deep"]) ?_ ?_ ?_ ?_ ?_ ?_ ?_ ?_ ?_ ?_
 exact fQ
 exact hr
 exact T.bO
 exact T.j0.kp
 exact T.mj
 exact fU hx
 exact gr
 exact kI
 refine aE ?_ ?_ ?_
 refine ah 0 ?_ ?_ ?_
 exact (Or.inl aU)
 exact aT
 exact rfl
 decide +kernel
 refine aE ?_ ?_ ?_
 refine ah 1 ?_ ?_ ?_
 exact (Or.inl cG)
 exact fO
 exact rfl
 decide +kernel
 refine aE ?_ ?_ ?_
 refine uP ?_ ?_
 refine ah 2 ?_ ?_ ?_
 exact (Or.inl dm)
 exact ig
 exact rfl
 exact ak
 decide +kernel
 exact aj
 decide +kernel
 decide +kernel
 exact aj
 exact bw
 refine ay ?_
 refine br ?_
 refine dM ?_
 refine dG ?_
 refine aE ?_ ?_ ?_
 refine bg (CX := cu P w) (k := k) (f := (t.f 21)) (fd := (t.d 21)) (ps := ["_law_draws_here", "_law_pool", "_law_deep", "_law_many"]) ?_ ?_ ?_ ?_ ?_ ?_ ?_ ?_ ?_ ?_
 exact gA
 exact hr
 exact T.cJ
 exact T.sC.kp
 exact T.ym
 exact fU hx
 exact oX
 exact wc
 refine aE ?_ ?_ ?_
 refine ah 0 ?_ ?_ ?_
 exact (Or.inl aU)
 exact aT
 exact rfl
 decide +kernel
 refine aE ?_ ?_ ?_
 refine ah 1 ?_ ?_ ?_
 exact (Or.inl cG)
 exact fO
 exact rfl
 decide +kernel
 refine aE ?_ ?_ ?_
 refine uP ?_ ?_
 refine ah 2 ?_ ?_ ?_
 exact (Or.inl dm)
 exact ig
 exact rfl
 exact ak
 decide +kernel
 refine aE ?_ ?_ ?_
 refine bX ?_ ?_
 exact ak
 refine eE ?_ ?_
 refine gM ?_ ?_
 refine ah 3 ?_ ?_ ?_
 exact (Or.inl cF)
 exact fM
 exact rfl
 exact ak
 exact ak
 decide +kernel
 exact aj
 decide +kernel
 decide +kernel
 exact aj
theorem wu : bW yg ["_law_draws_here", "_law_pool", "_law_deep", "_law_many"] (aa bG) := ⟨rfl, rfl, rfl, by decide +kernel, rfl, by decide +kernel, by decide +kernel⟩
theorem C5 {k : Nat} {bN di : List D → M D} (hk : tZ ≤ k) (T : Txt K mg t) (fQ : aW P w K mg base (cu P w) k (t.f 20) (t.d 20) ["_law_draws_here", "_law_pool", "_law_deep"] (aQ K mg 3 (bN))) (gA : aW P w K mg base (cu P w) k (t.f 21) (t.d 21) ["_law_draws_here", "_law_pool", "_law_deep", "_law_many"] (aQ K mg 4 (di))) : aW P w K mg base (cu P w) (k + 1) (t.f 21) (t.d 21) ["_law_draws_here", "_law_pool", "_law_deep", "_law_many"] (aQ K mg 4 (fun ds => cH 7 (jE bN di) ds)) := by
 refine wY (k := k) (ms := jE bN di) T.sC wu (by decide) (by decide) (fun _ => rfl) ?_
 intro X EE cdv A outer s H E hX hr hx qY
 subst hX
 have hu := cO hr
 have nd := wu.nd
 have hfr : fy (gR (cu P w) P w K mg base yg "_law_way" (aa bG) (t.f 21) cdv A outer s H E) := ⟨_, outer, s.heap.objs.size, rfl, rfl, rfl⟩
 refine ao ?_ ?_
 refine bU (i := 4) ?_ ?_ ?_ ?_ ?_ ?_
 exact nd
 exact (Or.inl gu)
 refine fS ?_
 exact aj
 exact Or.inl rfl
 exact rfl
 decide +kernel
 refine ao ?_ ?_
 refine pK ?_ ?_ ?_ ?_ ?_ ?_ ?_ ?_
 exact qY
 exact rfl
 exact T.qQ
 exact uh
 refine aE ?_ ?_ ?_
 refine ah 3 ?_ ?_ ?_
 exact (Or.inl o4)
 exact kJ
 exact rfl
 decide +kernel
 exact aj
 refine nF (i := 5) ?_ ?_ ?_ ?_
 exact nd
 exact (Or.inl sG)
 exact Or.inl rfl
 exact rfl
 refine ao ?_ ?_
 refine bU (i := 6) ?_ ?_ ?_ ?_ ?_ ?_
 exact nd
 exact (Or.inl iF)
 exact cC
 exact Or.inl rfl
 exact rfl
 decide +kernel
 refine ao ?_ ?_
 refine cY ?_ ?_ ?_
 refine aZ ?_ ?_ ?_ ?_
 exact uU
 refine gq ?_ ?_ ?_ ?_
 exact T.jj
 exact wK
 refine aE ?_ ?_ ?_
 refine ah 0 ?_ ?_ ?_
 exact (Or.inl eS)
 exact aT
 exact rfl
 decide +kernel
 exact aj
 decide +kernel
 exact ak
 decide +kernel
 refine ay ?_
 refine bU (i := 6) ?_ ?_ ?_ ?_ ?_ ?_
 exact nd
 exact (Or.inl iF)
 refine au ?_ ?_ ?_
 refine cR ?_
 refine fS ?_
 refine dG ?_
 refine dG ?_
 refine dG ?_
 exact aj
 refine eE ?_ ?_
 refine CF ?_ ?_ ?_ ?_ ?_
 refine ah 0 ?_ ?_ ?_
 exact (Or.inl eS)
 exact aT
 exact rfl
 refine IA ?_
 exact aj
 decide +kernel
 decide +kernel
 exact rfl
 exact ak
 decide +kernel
 exact Or.inl rfl
 exact rfl
 decide +kernel
 exact bw
 refine ay ?_
 refine kB ?_ ?_
 refine iW ?_ ?_ ?_ ?_ ?_
 refine ah 4 ?_ ?_ ?_
 exact (Or.inl gu)
 exact rG
 exact rfl
 refine aE ?_ ?_ ?_
 refine dM ?_
 refine aE ?_ ?_ ?_
 refine ah 6 ?_ ?_ ?_
 exact (Or.inl iF)
 exact yp
 exact rfl
 decide +kernel
 refine aE ?_ ?_ ?_
 refine bg (CX := cu P w) (k := k) (f := (t.f 20)) (fd := (t.d 20)) (ps := ["_law_draws_here", "_law_pool", "_law_deep"]) ?_ ?_ ?_ ?_ ?_ ?_ ?_ ?_ ?_ ?_
 exact fQ
 exact hr
 exact T.bO
 exact T.j0.kp
 exact T.mj
 exact fU hx
 exact oZ
 exact kI
 refine aE ?_ ?_ ?_
 refine ah 0 ?_ ?_ ?_
 exact (Or.inl eS)
 exact aT
 exact rfl
 decide +kernel
 refine aE ?_ ?_ ?_
 refine ah 1 ?_ ?_ ?_
 exact (Or.inl o5)
 exact fO
 exact rfl
 decide +kernel
 refine aE ?_ ?_ ?_
 refine uP ?_ ?_
 refine ah 2 ?_ ?_ ?_
 exact (Or.inl oY)
 exact ig
 exact rfl
 exact ak
 decide +kernel
 exact aj
 decide +kernel
 decide +kernel
 exact aj
 decide +kernel
 exact aj
 decide +kernel
 decide +kernel
 exact rfl
 decide +kernel
 decide +kernel
 refine ay ?_
 refine br ?_
 refine Cc ?_ ?_ ?_ ?_
 exact T.xh
 exact um
 refine aE ?_ ?_ ?_
 refine ah 4 ?_ ?_ ?_
 exact (Or.inl gu)
 exact rG
 exact rfl
 decide +kernel
 exact aj
 decide +kernel
theorem rM (T : Txt K mg t) : ∀ n : Nat, aW P w K mg base (cu P w) (0 + n) (t.f 20) (t.d 20) ["_law_draws_here", "_law_pool", "_law_deep"] (aQ K mg 3 (bO n)) ∧ aW P w K mg base (cu P w) (0 + n) (t.f 21) (t.d 21) ["_law_draws_here", "_law_pool", "_law_deep", "_law_many"] (aQ K mg 4 (cJ n))
  | 0 => ⟨by rw [show bO 0 = fun _ => M.stop from by funext ds; rw [bO]]; exact xg, by rw [show cJ 0 = fun _ => M.stop from by funext ds; rw [cJ]]; exact xg⟩
  | n + 1 => by
    obtain ⟨fQ, gA⟩ := rM T n
    have wA := Bv (Nat.le_add_right 0 n) T fQ gA
    rw [show (fun ds => cH 6 (fL (bO n) (cJ n)) ds) = bO (n + 1) from by funext ds; rw [bO]] at wA
    have yG := C5 (Nat.le_add_right 0 n) T fQ gA
    rw [show (fun ds => cH 7 (jE (bO n) (cJ n)) ds) = cJ (n + 1) from by funext ds; rw [cJ]] at yG
    exact ⟨wA, yG⟩
theorem mq : bW jF ["_law_look_here"] (aa bf) := ⟨rfl, rfl, rfl, by decide +kernel, rfl, by decide +kernel, by decide +kernel⟩
theorem uE {k : Nat} {aO bh : List D → M D} (hk : lZ ≤ k) (T : Txt K mg t) (cg : aW P w K mg base (cu P w) k (t.f 22) (t.d 22) ["_law_look_here"] (aQ K mg 1 (aO))) (cQ : aW P w K mg base (cu P w) k (t.f 23) (t.d 23) ["_law_way_here"] (aQ K mg 1 (bh))) : aW P w K mg base (cu P w) (k + 1) (t.f 22) (t.d 22) ["_law_look_here"] (aQ K mg 1 (fun ds => eW (fun ds => cH 1 (b8 aO bh) ds) ds)) := by
 refine aW.imp (sp := aQ K mg 1 (fun ds => cH 1 (b8 aO bh) ds)) ?_ dg
 refine wY (k := k) (ms := b8 aO bh) T.ie mq (by decide) (by decide) (fun _ => rfl) ?_
 intro X EE cdv A outer s H E hX hr hx qY
 subst hX
 have hu := cO hr
 have nd := mq.nd
 have hfr : fy (gR (cu P w) P w K mg base jF "_law_look_text" (aa bf) (t.f 22) cdv A outer s H E) := ⟨_, outer, s.heap.objs.size, rfl, rfl, rfl⟩
 refine ao ?_ ?_
 refine cY ?_ ?_ ?_
 refine aZ ?_ ?_ ?_ ?_
 exact (dO hu)
 refine au ?_ ?_ ?_
 refine ah 0 ?_ ?_ ?_
 exact (Or.inl aK)
 exact bF
 exact rfl
 exact ak
 decide +kernel
 exact cC
 decide +kernel
 refine ay ?_
 refine br ?_
 refine bg (CX := cu P w) (k := k) (f := (t.f 23)) (fd := (t.d 23)) (ps := ["_law_way_here"]) ?_ ?_ ?_ ?_ ?_ ?_ ?_ ?_ ?_ ?_
 exact cQ
 exact hr
 exact T.aI
 exact T.kh.kp
 exact T.oO
 exact fU hx
 exact jx
 exact m8
 refine aE ?_ ?_ ?_
 refine au ?_ ?_ ?_
 refine ah 0 ?_ ?_ ?_
 exact (Or.inl aK)
 exact bF
 exact rfl
 exact ak
 decide +kernel
 decide +kernel
 exact aj
 decide +kernel
 exact bw
 refine ao ?_ ?_
 refine cY ?_ ?_ ?_
 refine aZ ?_ ?_ ?_ ?_
 exact (dO hu)
 refine au ?_ ?_ ?_
 refine ah 0 ?_ ?_ ?_
 exact (Or.inl aK)
 exact bF
 exact rfl
 exact ak
 decide +kernel
 exact cC
 decide +kernel
 refine ay ?_
 refine br ?_
 exact cC
 exact bw
 refine ao ?_ ?_
 refine cY ?_ ?_ ?_
 refine aZ ?_ ?_ ?_ ?_
 exact (dO hu)
 refine au ?_ ?_ ?_
 refine ah 0 ?_ ?_ ?_
 exact (Or.inl aK)
 exact bF
 exact rfl
 exact ak
 decide +kernel
 exact cC
 decide +kernel
 refine ay ?_
 refine br ?_
 refine bX ?_ ?_
 refine bX ?_ ?_
 exact cC
 refine au ?_ ?_ ?_
 refine ah 0 ?_ ?_ ?_
 exact (Or.inl aK)
 exact bF
 exact rfl
 exact ak
 decide +kernel
 exact cC
 exact bw
 refine ay ?_
 refine br ?_
 refine bX ?_ ?_
 refine bX ?_ ?_
 refine bX ?_ ?_
 refine bX ?_ ?_
 exact cC
 refine au ?_ ?_ ?_
 refine ah 0 ?_ ?_ ?_
 exact (Or.inl aK)
 exact bF
 exact rfl
 exact ak
 decide +kernel
 exact cC
 refine E4 ?_ ?_ ?_ ?_ ?_
 exact cC
 refine aE ?_ ?_ ?_
 refine cR ?_
 refine qC (xs := ["_law_one"]) (ow := B6) ?_ ?_ ?_ ?_ ?_ ?_ ?_ ?_ ?_
 exact hx
 exact hfr
 exact gH
 exact mT gH
 exact kN
 exact rfl
 refine cR ?_
 refine jT ?_ ?_ ?_
 refine ah 0 ?_ ?_ ?_
 exact (Or.inl aK)
 exact bF
 exact rfl
 refine jM ?_
 exact ak
 exact qw
 refine jD fun cl C pins s0 H0 fp E1 N3 hx => ?_
 refine bg (CX := cu P w) (k := k) (f := (t.f 22)) (fd := (t.d 22)) (ps := ["_law_look_here"]) ?_ ?_ ?_ ?_ ?_ ?_ ?_ ?_ ?_ ?_
 exact cg
 exact hr
 exact T.aB
 exact T.ie.kp
 exact T.jG
 exact fU hx
 exact (tK iy)
 exact jk
 refine aE ?_ ?_ ?_
 refine ah 0 ?_ ?_ ?_
 exact (mz gH (by simp))
 exact v9
 exact rfl
 decide +kernel
 exact aj
 decide +kernel
 decide +kernel
 decide +kernel
 exact aj
 decide +kernel
 decide +kernel
 exact rfl
 exact cC
theorem nk : bW oM ["_law_way_here"] (aa aS) := ⟨rfl, rfl, rfl, by decide +kernel, rfl, by decide +kernel, by decide +kernel⟩
theorem vD {k : Nat} {aO bh : List D → M D} (hk : lZ ≤ k) (T : Txt K mg t) (cg : aW P w K mg base (cu P w) k (t.f 22) (t.d 22) ["_law_look_here"] (aQ K mg 1 (aO))) (cQ : aW P w K mg base (cu P w) k (t.f 23) (t.d 23) ["_law_way_here"] (aQ K mg 1 (bh))) : aW P w K mg base (cu P w) (k + 1) (t.f 23) (t.d 23) ["_law_way_here"] (aQ K mg 1 (fun ds => eW (fun ds => cH 4 (fF aO bh) ds) ds)) := by
 refine aW.imp (sp := aQ K mg 1 (fun ds => cH 4 (fF aO bh) ds)) ?_ dg
 refine wY (k := k) (ms := fF aO bh) T.kh nk (by decide) (by decide) (fun _ => rfl) ?_
 intro X EE cdv A outer s H E hX hr hx qY
 subst hX
 have hu := cO hr
 have nd := nk.nd
 have hfr : fy (gR (cu P w) P w K mg base oM "_law_way_text" (aa aS) (t.f 23) cdv A outer s H E) := ⟨_, outer, s.heap.objs.size, rfl, rfl, rfl⟩
 refine ao ?_ ?_
 refine bU (i := 1) ?_ ?_ ?_ ?_ ?_ ?_
 exact nd
 exact (Or.inl dw)
 exact cC
 exact Or.inl rfl
 exact rfl
 decide +kernel
 refine ao ?_ ?_
 refine Iu ?_ ?_ ?_ ?_ ?_ ?_
 exact qY
 exact rfl
 refine ah 0 ?_ ?_ ?_
 exact (Or.inl jI)
 exact aP
 exact rfl
 refine K8 (i := 2) (j := 3) ?_ ?_ ?_ ?_ ?_ ?_ ?_ ?_
 exact rfl
 exact nd
 exact (Or.inl iM)
 exact (Or.inl fX)
 exact Or.inl rfl
 exact Or.inl rfl
 exact rfl
 exact rfl
 refine ay ?_
 refine bU (i := 1) ?_ ?_ ?_ ?_ ?_ ?_
 exact nd
 exact (Or.inl dw)
 refine bX ?_ ?_
 refine bX ?_ ?_
 refine bX ?_ ?_
 refine bX ?_ ?_
 refine bX ?_ ?_
 refine ah 1 ?_ ?_ ?_
 exact (Or.inl dw)
 exact ir
 exact rfl
 exact cC
 refine ah 2 ?_ ?_ ?_
 exact (Or.inl iM)
 exact yp
 exact rfl
 exact cC
 refine bg (CX := cu P w) (k := k) (f := (t.f 22)) (fd := (t.d 22)) (ps := ["_law_look_here"]) ?_ ?_ ?_ ?_ ?_ ?_ ?_ ?_ ?_ ?_
 exact cg
 exact hr
 exact T.aB
 exact T.ie.kp
 exact T.jG
 exact fU hx
 exact jz
 exact jk
 refine aE ?_ ?_ ?_
 refine ah 3 ?_ ?_ ?_
 exact (Or.inl fX)
 exact bF
 exact rfl
 decide +kernel
 exact aj
 decide +kernel
 exact cC
 exact Or.inl rfl
 exact rfl
 decide +kernel
 decide +kernel
 refine ay ?_
 refine br ?_
 refine bX ?_ ?_
 refine ah 1 ?_ ?_ ?_
 exact (Or.inl dw)
 exact ir
 exact rfl
 exact cC
theorem lM (T : Txt K mg t) : ∀ n : Nat, aW P w K mg base (cu P w) (0 + n) (t.f 22) (t.d 22) ["_law_look_here"] (aQ K mg 1 (aB n)) ∧ aW P w K mg base (cu P w) (0 + n) (t.f 23) (t.d 23) ["_law_way_here"] (aQ K mg 1 (aI n))
  | 0 => ⟨by rw [show aB 0 = fun _ => M.stop from by funext ds; rw [aB]]; exact xg, by rw [show aI 0 = fun _ => M.stop from by funext ds; rw [aI]]; exact xg⟩
  | n + 1 => by
    obtain ⟨cg, cQ⟩ := lM T n
    have nq := uE (Nat.le_add_right 0 n) T cg cQ
    rw [show (fun ds => eW (fun ds => cH 1 (b8 (aB n) (aI n)) ds) ds) = aB (n + 1) from by funext ds; rw [aB]] at nq
    have oU := vD (Nat.le_add_right 0 n) T cg cQ
    rw [show (fun ds => eW (fun ds => cH 4 (fF (aB n) (aI n)) ds) ds) = aI (n + 1) from by funext ds; rw [aI]] at oU
    exact ⟨nq, oU⟩
theorem Jo : bW Fv ["_law_script"] (aa dI) := ⟨rfl, rfl, rfl, by decide +kernel, rfl, by decide +kernel, by decide +kernel⟩
theorem N4 (T : Txt K mg t) (lN : aW P w K mg base (cu P w) 6 (t.f 1) (t.d 1) ["text"] (aQ K mg 1 fV)) (sU : aW P w K mg base (cu P w) 8 (t.f 14) (t.d 14) ["way"] (aQ K mg 1 iU)) (i9 : aW P w K mg base (cu P w) 7 (t.f 15) (t.d 15) ["look"] (aQ K mg 1 eY)) (ou : aW P w K mg base (cu P w) 1 (t.f 18) (t.d 18) ["_law_script", "_law_many"] (aQ K mg 2 g9)) (ql : aW P w K mg base (cu P w) 1 (t.f 19) (t.d 19) ["_law_draw"] (aQ K mg 1 fK)) (gA : aW P w K mg base (cu P w) 30 (t.f 21) (t.d 21) ["_law_draws_here", "_law_pool", "_law_deep", "_law_many"] (aQ K mg 4 nQ)) (cg : aW P w K mg base (cu P w) 80 (t.f 22) (t.d 22) ["_law_look_here"] (aQ K mg 1 ic)) (cQ : aW P w K mg base (cu P w) 80 (t.f 23) (t.d 23) ["_law_way_here"] (aQ K mg 1 gC)) : rm P w K mg base (cu P w) 81 (t.f 24) (t.d 24) ["_law_script"] (aQ K mg 1 Fx) := by
 refine rm.imp (sp := aQ K mg 1 (fun ds => cH 11 Fw ds)) ?_ dg
 refine UD (k := 80) (ms := Fw) T.Qs Jo (by decide) (by decide) (fun _ => rfl) ?_
 intro X EE cdv A outer s H E hX hr hx qY
 subst hX
 have hu := cO hr
 have nd := Jo.nd
 have hfr : fy (gR (cu P w) P w K mg base Fv "law" (aa dI) (t.f 24) cdv A outer s H E) := ⟨_, outer, s.heap.objs.size, rfl, rfl, rfl⟩
 refine UB (CX := cu P w) (k := ze) (f := (t.f 18)) (fd := (t.d 18)) (ps := ["_law_script", "_law_many"]) (i := 1) (j := 0) ?_ ?_ ?_ ?_ ?_ ?_ ?_ ?_ ?_ ?_ ?_ ?_ ?_ ?_ ?_ ?_
 exact ou
 exact hr.mono (by decide)
 exact T.Bf
 exact T.ua.kp
 exact T.Be
 exact fU hx
 exact ur
 exact zj
 exact nd
 exact (Or.inr aR)
 exact Or.inl rfl
 exact lG
 exact gj
 refine ao ?_ ?_
 refine Qk ?_
 refine Gy (i := 2) (xs := ["_law_k"]) (ow := B6) ?_ ?_ ?_ ?_ ?_ ?_ ?_ ?_ ?_ ?_ ?_ ?_ ?_ ?_ ?_
 exact hx
 exact hfr
 exact nW
 exact mT nW
 exact kN
 exact rfl
 exact nd
 exact jJ
 exact T.qQ
 exact uu
 refine IA ?_
 exact aj
 refine jD fun cl C pins s0 H0 fp E1 N3 hx => ?_
 refine bg (CX := cu P w) (k := A6) (f := (t.f 19)) (fd := (t.d 19)) (ps := ["_law_draw"]) ?_ ?_ ?_ ?_ ?_ ?_ ?_ ?_ ?_ ?_
 exact ql
 exact hr.mono (by decide)
 exact T.CS
 exact T.vZ.kp
 exact T.CQ
 exact fU hx
 exact (tK o6)
 exact Bh
 refine aE ?_ ?_ ?_
 refine au ?_ ?_ ?_
 refine ah 2 ?_ ?_ ?_
 exact (E0 nW nZ)
 exact b9
 exact rfl
 refine ah 0 ?_ ?_ ?_
 exact (mz nW (by simp))
 exact iZ
 exact rfl
 decide +kernel
 decide +kernel
 exact aj
 decide +kernel
 refine Gz ?_ ?_ ?_ ?_
 exact rfl
 exact jJ
 exact rfl
 decide +kernel
 exact rfl
 decide +kernel
 refine ao ?_ ?_
 refine bU (i := 3) ?_ ?_ ?_ ?_ ?_ ?_
 exact nd
 exact (Or.inl eT)
 refine bX ?_ ?_
 refine cR ?_
 refine qC (xs := ["_law_cell"]) (ow := B6) ?_ ?_ ?_ ?_ ?_ ?_ ?_ ?_ ?_
 exact hx
 exact hfr
 exact sE
 exact mT sE
 exact kN
 exact rfl
 refine cR ?_
 refine jT ?_ ?_ ?_
 refine ah 0 ?_ ?_ ?_
 exact (Or.inl lG)
 exact gj
 exact rfl
 refine jM ?_
 exact ak
 refine jM ?_
 exact ak
 refine jD fun cl C pins s0 H0 fp E1 N3 hx => ?_
 refine eE ?_ ?_
 refine ah 0 ?_ ?_ ?_
 exact (mz sE (by simp))
 exact uc
 exact rfl
 refine HS ?_ ?_
 exact ak
 exact ak
 decide +kernel
 refine cR ?_
 refine jT ?_ ?_ ?_
 refine ah 1 ?_ ?_ ?_
 exact (Or.inr (Or.inl aR))
 exact b9
 exact rfl
 refine jM ?_
 exact ak
 refine jM ?_
 exact ak
 exact Or.inl rfl
 exact rfl
 decide +kernel
 refine ao ?_ ?_
 refine bU (i := 4) ?_ ?_ ?_ ?_ ?_ ?_
 exact nd
 exact (Or.inl iz)
 refine bX ?_ ?_
 exact ak
 refine eE ?_ ?_
 refine au ?_ ?_ ?_
 refine ah 1 ?_ ?_ ?_
 exact (Or.inr (Or.inl aR))
 exact b9
 exact rfl
 exact ak
 decide +kernel
 exact ak
 exact Or.inl rfl
 exact rfl
 decide +kernel
 refine ao ?_ ?_
 refine cY ?_ ?_ ?_
 refine aZ ?_ ?_ ?_ ?_
 exact (dO hu)
 refine eE ?_ ?_
 refine gM ?_ ?_
 refine au ?_ ?_ ?_
 refine ah 1 ?_ ?_ ?_
 exact (Or.inr (Or.inl aR))
 exact b9
 exact rfl
 exact ak
 decide +kernel
 exact ak
 exact ak
 exact ak
 decide +kernel
 refine ao ?_ ?_
 refine bU (i := 4) ?_ ?_ ?_ ?_ ?_ ?_
 exact nd
 exact (Or.inl iz)
 refine bX ?_ ?_
 exact ak
 refine eE ?_ ?_
 refine gM ?_ ?_
 refine au ?_ ?_ ?_
 refine ah 1 ?_ ?_ ?_
 exact (Or.inr (Or.inl aR))
 exact b9
 exact rfl
 exact ak
 decide +kernel
 exact ak
 exact ak
 exact Or.inl rfl
 exact rfl
 decide +kernel
 refine ay ?_
 refine bU (i := 3) ?_ ?_ ?_ ?_ ?_ ?_
 exact nd
 exact (Or.inl eT)
 refine jT ?_ ?_ ?_
 refine ah 3 ?_ ?_ ?_
 exact (Or.inl eT)
 exact aT
 exact rfl
 exact qw
 refine jM ?_
 refine bX ?_ ?_
 refine ah 4 ?_ ?_ ?_
 exact (Or.inl iz)
 exact kJ
 exact rfl
 exact ak
 exact Or.inl rfl
 exact rfl
 decide +kernel
 exact bw
 refine ao ?_ ?_
 refine bU (i := 5) ?_ ?_ ?_ ?_ ?_ ?_
 exact nd
 exact (Or.inl aL)
 refine bg (CX := cu P w) (k := CJ) (f := (t.f 21)) (fd := (t.d 21)) (ps := ["_law_draws_here", "_law_pool", "_law_deep", "_law_many"]) ?_ ?_ ?_ ?_ ?_ ?_ ?_ ?_ ?_ ?_
 exact gA
 exact hr.mono (by decide)
 exact T.cJ
 exact T.sC.kp
 exact T.ym
 exact fU hx
 exact wM
 exact wc
 refine aE ?_ ?_ ?_
 refine ah 3 ?_ ?_ ?_
 exact (Or.inl eT)
 exact aT
 exact rfl
 decide +kernel
 refine aE ?_ ?_ ?_
 refine ah 2 ?_ ?_ ?_
 exact (Or.inl jJ)
 exact fO
 exact rfl
 decide +kernel
 refine IA ?_
 refine aE ?_ ?_ ?_
 refine ah 4 ?_ ?_ ?_
 exact (Or.inl iz)
 exact kJ
 exact rfl
 decide +kernel
 exact aj
 decide +kernel
 exact Or.inl rfl
 exact rfl
 decide +kernel
 refine ao ?_ ?_
 refine cY ?_ ?_ ?_
 refine aZ ?_ ?_ ?_ ?_
 exact (dO hu)
 refine eE ?_ ?_
 refine gM ?_ ?_
 refine au ?_ ?_ ?_
 refine ah 1 ?_ ?_ ?_
 exact (Or.inr (Or.inl aR))
 exact b9
 exact rfl
 exact ak
 decide +kernel
 exact ak
 exact ak
 exact ak
 decide +kernel
 refine ao ?_ ?_
 refine bU (i := 6) ?_ ?_ ?_ ?_ ?_ ?_
 exact nd
 exact (Or.inl dJ)
 refine au ?_ ?_ ?_
 refine au ?_ ?_ ?_
 refine ah 5 ?_ ?_ ?_
 exact (Or.inl aL)
 exact aP
 exact rfl
 exact ak
 decide +kernel
 exact ak
 decide +kernel
 exact Or.inl rfl
 exact rfl
 decide +kernel
 refine ao ?_ ?_
 refine pK ?_ ?_ ?_ ?_ ?_ ?_ ?_ ?_
 exact qY
 exact rfl
 exact T.qQ
 exact uu
 refine aE ?_ ?_ ?_
 refine eE ?_ ?_
 refine gM ?_ ?_
 refine au ?_ ?_ ?_
 refine ah 1 ?_ ?_ ?_
 exact (Or.inr (Or.inl aR))
 exact b9
 exact rfl
 exact ak
 decide +kernel
 exact ak
 exact ak
 decide +kernel
 exact aj
 refine nF (i := 7) ?_ ?_ ?_ ?_
 exact nd
 exact (Or.inl mH)
 exact Or.inl rfl
 exact rfl
 refine ay ?_
 refine bU (i := 6) ?_ ?_ ?_ ?_ ?_ ?_
 exact nd
 exact (Or.inl dJ)
 refine au ?_ ?_ ?_
 refine cR ?_
 refine fS ?_
 refine aE ?_ ?_ ?_
 refine dM ?_
 refine dG ?_
 refine aE ?_ ?_ ?_
 refine ah 6 ?_ ?_ ?_
 exact (Or.inl dJ)
 exact bF
 exact rfl
 decide +kernel
 exact aj
 decide +kernel
 refine aE ?_ ?_ ?_
 refine dM ?_
 refine dG ?_
 refine aE ?_ ?_ ?_
 refine dM ?_
 refine aE ?_ ?_ ?_
 refine dM ?_
 refine aE ?_ ?_ ?_
 refine au ?_ ?_ ?_
 refine cR ?_
 refine fS ?_
 refine dG ?_
 refine dG ?_
 refine dG ?_
 exact aj
 refine eE ?_ ?_
 refine ah 7 ?_ ?_ ?_
 exact (Or.inl mH)
 exact iZ
 exact rfl
 exact ak
 decide +kernel
 decide +kernel
 refine aE ?_ ?_ ?_
 refine ah 6 ?_ ?_ ?_
 exact (Or.inl dJ)
 exact bF
 exact rfl
 decide +kernel
 exact aj
 decide +kernel
 exact aj
 decide +kernel
 exact aj
 decide +kernel
 exact aj
 refine eE ?_ ?_
 refine gM ?_ ?_
 refine au ?_ ?_ ?_
 refine ah 1 ?_ ?_ ?_
 exact (Or.inr (Or.inl aR))
 exact b9
 exact rfl
 exact ak
 decide +kernel
 refine bX ?_ ?_
 exact ak
 refine ah 7 ?_ ?_ ?_
 exact (Or.inl mH)
 exact iZ
 exact rfl
 exact ak
 decide +kernel
 exact Or.inl rfl
 exact rfl
 decide +kernel
 decide +kernel
 refine ay ?_
 refine bU (i := 5) ?_ ?_ ?_ ?_ ?_ ?_
 exact nd
 exact (Or.inl aL)
 refine bX ?_ ?_
 refine dM ?_
 refine aE ?_ ?_ ?_
 refine dM ?_
 refine aE ?_ ?_ ?_
 refine au ?_ ?_ ?_
 refine au ?_ ?_ ?_
 refine ah 5 ?_ ?_ ?_
 exact (Or.inl aL)
 exact aP
 exact rfl
 exact ak
 decide +kernel
 exact ak
 decide +kernel
 decide +kernel
 refine aE ?_ ?_ ?_
 refine ah 6 ?_ ?_ ?_
 exact (Or.inl dJ)
 exact bF
 exact rfl
 decide +kernel
 exact aj
 decide +kernel
 exact aj
 refine cR ?_
 refine jT ?_ ?_ ?_
 refine ah 5 ?_ ?_ ?_
 exact (Or.inl aL)
 exact aP
 exact rfl
 refine jM ?_
 exact ak
 exact qw
 exact Or.inl rfl
 exact rfl
 decide +kernel
 exact bw
 refine ao ?_ ?_
 refine bU (i := 8) ?_ ?_ ?_ ?_ ?_ ?_
 exact nd
 exact (Or.inl gm)
 refine bg (CX := cu P w) (k := vh) (f := (t.f 23)) (fd := (t.d 23)) (ps := ["_law_way_here"]) ?_ ?_ ?_ ?_ ?_ ?_ ?_ ?_ ?_ ?_
 exact cQ
 exact hr.mono (by decide)
 exact T.aI
 exact T.kh.kp
 exact T.oO
 exact fU hx
 exact p8
 exact m8
 refine aE ?_ ?_ ?_
 refine ah 5 ?_ ?_ ?_
 exact (Or.inl aL)
 exact aP
 exact rfl
 decide +kernel
 exact aj
 decide +kernel
 exact Or.inl rfl
 exact rfl
 decide +kernel
 refine ao ?_ ?_
 refine bU (i := 9) ?_ ?_ ?_ ?_ ?_ ?_
 exact nd
 exact (Or.inl dZ)
 refine yb (zs := [" ", "  ", "\n "]) ?_ ?_ ?_ ?_ ?_ ?_ ?_ ?_
 exact T.NB
 refine ah 8 ?_ ?_ ?_
 exact (Or.inl gm)
 exact ir
 exact rfl
 refine eE ?_ ?_
 refine au ?_ ?_ ?_
 refine ah 1 ?_ ?_ ?_
 exact (Or.inr (Or.inl aR))
 exact b9
 exact rfl
 exact ak
 decide +kernel
 exact ak
 exact rfl
 decide +kernel
 decide +kernel
 decide +kernel
 exact rfl
 exact Or.inl rfl
 exact rfl
 decide +kernel
 refine ao ?_ ?_
 refine cY ?_ ?_ ?_
 refine aZ ?_ ?_ ?_ ?_
 exact (dO hu)
 refine eE ?_ ?_
 refine gM ?_ ?_
 refine au ?_ ?_ ?_
 refine ah 1 ?_ ?_ ?_
 exact (Or.inr (Or.inl aR))
 exact b9
 exact rfl
 exact ak
 decide +kernel
 exact ak
 exact ak
 exact ak
 decide +kernel
 refine ay ?_
 refine bU (i := 9) ?_ ?_ ?_ ?_ ?_ ?_
 exact nd
 exact (Or.inl dZ)
 refine yb (zs := ["( ", "\n(", " ( "]) ?_ ?_ ?_ ?_ ?_ ?_ ?_ ?_
 exact T.NB
 refine ah 9 ?_ ?_ ?_
 exact (Or.inl dZ)
 exact mF
 exact rfl
 refine eE ?_ ?_
 refine au ?_ ?_ ?_
 refine ah 1 ?_ ?_ ?_
 exact (Or.inr (Or.inl aR))
 exact b9
 exact rfl
 exact ak
 decide +kernel
 exact ak
 exact rfl
 decide +kernel
 decide +kernel
 decide +kernel
 exact rfl
 exact Or.inl rfl
 exact rfl
 decide +kernel
 exact bw
 refine ao ?_ ?_
 refine cY ?_ ?_ ?_
 refine aZ ?_ ?_ ?_ ?_
 exact (dO hu)
 refine eE ?_ ?_
 refine gM ?_ ?_
 refine au ?_ ?_ ?_
 refine ah 1 ?_ ?_ ?_
 exact (Or.inr (Or.inl aR))
 exact b9
 exact rfl
 exact ak
 decide +kernel
 exact ak
 exact ak
 exact ak
 decide +kernel
 refine ay ?_
 refine bU (i := 9) ?_ ?_ ?_ ?_ ?_ ?_
 exact nd
 exact (Or.inl dZ)
 refine yb (zs := [" )", ")\n", "\n ) "]) ?_ ?_ ?_ ?_ ?_ ?_ ?_ ?_
 exact T.NB
 refine ah 9 ?_ ?_ ?_
 exact (Or.inl dZ)
 exact mF
 exact rfl
 refine eE ?_ ?_
 refine au ?_ ?_ ?_
 refine ah 1 ?_ ?_ ?_
 exact (Or.inr (Or.inl aR))
 exact b9
 exact rfl
 exact ak
 decide +kernel
 exact ak
 exact rfl
 decide +kernel
 decide +kernel
 decide +kernel
 exact rfl
 exact Or.inl rfl
 exact rfl
 decide +kernel
 exact bw
 refine ao ?_ ?_
 refine cY ?_ ?_ ?_
 refine yY ?_
 refine zP ?_ ?_
 refine aZ ?_ ?_ ?_ ?_
 exact (uR hu)
 refine bg (CX := cu P w) (k := CI) (f := (t.f 14)) (fd := (t.d 14)) (ps := ["way"]) ?_ ?_ ?_ ?_ ?_ ?_ ?_ ?_ ?_ ?_
 exact sU
 exact hr.mono (by decide)
 exact T.Em
 exact T.yl.kp
 exact T.El
 exact fU hx
 exact wN
 exact CV
 refine aE ?_ ?_ ?_
 refine ah 5 ?_ ?_ ?_
 exact (Or.inl aL)
 exact aP
 exact rfl
 decide +kernel
 exact aj
 decide +kernel
 refine ah 8 ?_ ?_ ?_
 exact (Or.inl gm)
 exact ir
 exact rfl
 decide +kernel
 refine zP ?_ ?_
 refine aZ ?_ ?_ ?_ ?_
 exact (uR hu)
 refine bg (CX := cu P w) (k := pT) (f := (t.f 1)) (fd := (t.d 1)) (ps := ["text"]) ?_ ?_ ?_ ?_ ?_ ?_ ?_ ?_ ?_ ?_
 exact lN
 exact hr.mono (by decide)
 exact T.su
 exact T.nR.kp
 exact T.sr
 exact fU hx
 exact kj
 exact pY
 refine aE ?_ ?_ ?_
 refine ah 8 ?_ ?_ ?_
 exact (Or.inl gm)
 exact ir
 exact rfl
 decide +kernel
 exact aj
 decide +kernel
 refine ah 5 ?_ ?_ ?_
 exact (Or.inl aL)
 exact aP
 exact rfl
 decide +kernel
 refine AL ?_
 refine aZ ?_ ?_ ?_ ?_
 exact (uR hu)
 refine bg (CX := cu P w) (k := pT) (f := (t.f 1)) (fd := (t.d 1)) (ps := ["text"]) ?_ ?_ ?_ ?_ ?_ ?_ ?_ ?_ ?_ ?_
 exact lN
 exact hr.mono (by decide)
 exact T.su
 exact T.nR.kp
 exact T.sr
 exact fU hx
 exact kj
 exact pY
 refine aE ?_ ?_ ?_
 refine ah 9 ?_ ?_ ?_
 exact (Or.inl dZ)
 exact mF
 exact rfl
 decide +kernel
 exact aj
 decide +kernel
 refine ah 5 ?_ ?_ ?_
 exact (Or.inl aL)
 exact aP
 exact rfl
 decide +kernel
 refine ay ?_
 refine br ?_
 exact ES
 exact bw
 refine ao ?_ ?_
 refine cY ?_ ?_ ?_
 refine aZ ?_ ?_ ?_ ?_
 exact (uR hu)
 refine bg (CX := cu P w) (k := pT) (f := (t.f 1)) (fd := (t.d 1)) (ps := ["text"]) ?_ ?_ ?_ ?_ ?_ ?_ ?_ ?_ ?_ ?_
 exact lN
 exact hr.mono (by decide)
 exact T.su
 exact T.nR.kp
 exact T.sr
 exact fU hx
 exact kj
 exact pY
 refine aE ?_ ?_ ?_
 refine AX ?_ ?_ ?_
 refine ah 8 ?_ ?_ ?_
 exact (Or.inl gm)
 exact ir
 exact rfl
 decide +kernel
 exact rfl
 decide +kernel
 exact aj
 decide +kernel
 refine ah 5 ?_ ?_ ?_
 exact (Or.inl aL)
 exact aP
 exact rfl
 decide +kernel
 refine ay ?_
 refine br ?_
 exact ES
 exact bw
 refine ao ?_ ?_
 refine bU (i := 10) ?_ ?_ ?_ ?_ ?_ ?_
 exact nd
 exact (Or.inl lF)
 refine dM ?_
 refine dG ?_
 refine aE ?_ ?_ ?_
 refine dM ?_
 refine dG ?_
 exact aj
 decide +kernel
 refine aE ?_ ?_ ?_
 refine au ?_ ?_ ?_
 refine au ?_ ?_ ?_
 refine ah 5 ?_ ?_ ?_
 exact (Or.inl aL)
 exact aP
 exact rfl
 exact ak
 decide +kernel
 exact ak
 decide +kernel
 decide +kernel
 exact aj
 exact Or.inl rfl
 exact rfl
 decide +kernel
 refine ay ?_
 refine br ?_
 refine PL ?_ ?_ ?_
 exact hu
 refine bg (CX := cu P w) (k := tY) (f := (t.f 15)) (fd := (t.d 15)) (ps := ["look"]) ?_ ?_ ?_ ?_ ?_ ?_ ?_ ?_ ?_ ?_
 exact i9
 exact hr.mono (by decide)
 exact T.vW
 exact T.pW.kp
 exact T.vV
 exact fU hx
 exact vp
 exact ud
 refine aE ?_ ?_ ?_
 refine ah 10 ?_ ?_ ?_
 exact (Or.inl lF)
 exact yq
 exact rfl
 decide +kernel
 exact aj
 decide +kernel
 refine bX ?_ ?_
 refine bX ?_ ?_
 exact cC
 refine bg (CX := cu P w) (k := t7) (f := (t.f 22)) (fd := (t.d 22)) (ps := ["_law_look_here"]) ?_ ?_ ?_ ?_ ?_ ?_ ?_ ?_ ?_ ?_
 exact cg
 exact hr.mono (by decide)
 exact T.aB
 exact T.ie.kp
 exact T.jG
 exact fU hx
 exact pe
 exact jk
 refine aE ?_ ?_ ?_
 refine au ?_ ?_ ?_
 refine au ?_ ?_ ?_
 refine ah 5 ?_ ?_ ?_
 exact (Or.inl aL)
 exact aP
 exact rfl
 exact ak
 decide +kernel
 exact ak
 decide +kernel
 decide +kernel
 exact aj
 decide +kernel
 exact cC
 exact rfl
 exact rfl
end
theorem qZ {p : List Value → Prop} (h : ∀ a0, p [a0]) : ∀ us : List Value, us.length = 1 → p us := fun us e => by
  rcases us with _ | ⟨a0, us⟩
  · cases e
  rcases us with _ | ⟨z, us⟩
  · exact h a0
  · cases e
theorem G5 {p : List Value → Prop} (h : ∀ a0 a1, p [a0, a1]) : ∀ us : List Value, us.length = 2 → p us := fun us e => by
  rcases us with _ | ⟨a0, us⟩
  · cases e
  rcases us with _ | ⟨a1, us⟩
  · cases e
  rcases us with _ | ⟨z, us⟩
  · exact h a0 a1
  · cases e
theorem Qx {p : List Value → Prop} (h : ∀ a0 a1 a2, p [a0, a1, a2]) : ∀ us : List Value, us.length = 3 → p us := fun us e => by
  rcases us with _ | ⟨a0, us⟩
  · cases e
  rcases us with _ | ⟨a1, us⟩
  · cases e
  rcases us with _ | ⟨a2, us⟩
  · cases e
  rcases us with _ | ⟨z, us⟩
  · exact h a0 a1 a2
  · cases e
theorem UJ {p : List Value → Prop} (h : ∀ a0 a1 a2 a3, p [a0, a1, a2, a3]) : ∀ us : List Value, us.length = 4 → p us := fun us e => by
  rcases us with _ | ⟨a0, us⟩
  · cases e
  rcases us with _ | ⟨a1, us⟩
  · cases e
  rcases us with _ | ⟨a2, us⟩
  · cases e
  rcases us with _ | ⟨a3, us⟩
  · cases e
  rcases us with _ | ⟨z, us⟩
  · exact h a0 a1 a2 a3
  · cases e
theorem N5 {K : PySem.W.Frag} {h : Heap} {mg : Str → Option Value} (X : K.In h) (G : h.Ns mainGlobals mg) {f0 : Addr} {YN UK : Option Addr} {YO : Array (Option Value)} {YQ UL UM UN SA UO : Value} (a0 : PySem.W.nsIn K mainGlobals "is_name" = some (some (.ref f0))) (l0 : K.lookup f0 = some ⟨YQ, YN, .func (PySem.W.fnOf "is_name" "is_name" (aF bZ) (aD bZ) (aa bZ) .none UL UM UN UK SA UO), YO⟩) (c0 : PySem.W.codeIn K SA "is_name" = true) (k0 : PySem.W.keepIn K (.ref f0) = true) {f1 : Addr} {YR Wt : Option Addr} {YS : Array (Option Value)} {YT Wu Wv Ww UP Wx : Value} (a1 : PySem.W.nsIn K mainGlobals "read_way" = some (some (.ref f1))) (l1 : K.lookup f1 = some ⟨YT, YR, .func (PySem.W.fnOf "read_way" "read_way" (aF dh) (aD dh) (aa dh) .none Wu Wv Ww Wt UP Wx), YS⟩) (c1 : PySem.W.codeIn K UP "read_way" = true) (k1 : PySem.W.keepIn K (.ref f1) = true) {f2 : Addr} {YU Wz : Option Addr} {sl2 : Array (Option Value)} {YV WA WB WC UQ WD : Value} (a2 : PySem.W.nsIn K mainGlobals "words_of" = some (some (.ref f2))) (l2 : K.lookup f2 = some ⟨YV, YU, .func (PySem.W.fnOf "words_of" "words_of" (aF cI) (aD cI) (aa cI) .none WA WB WC Wz UQ WD), sl2⟩) (c2 : PySem.W.codeIn K UQ "words_of" = true) (k2 : PySem.W.keepIn K (.ref f2) = true) {f3 : Addr} {YW WE : Option Addr} {YX : Array (Option Value)} {YY WG WH WI UR WJ : Value} (a3 : PySem.W.nsIn K mainGlobals "read_bracket" = some (some (.ref f3))) (l3 : K.lookup f3 = some ⟨YY, YW, .func (PySem.W.fnOf "read_bracket" "read_bracket" (aF aM) (aD aM) (aa aM) .none WG WH WI WE UR WJ), YX⟩) (c3 : PySem.W.codeIn K UR "read_bracket" = true) (k3 : PySem.W.keepIn K (.ref f3) = true) {f4 : Addr} {YZ WK : Option Addr} {Y0 : Array (Option Value)} {Y3 WL WM WN US WO : Value} (a4 : PySem.W.nsIn K mainGlobals "value_of" = some (some (.ref f4))) (l4 : K.lookup f4 = some ⟨Y3, YZ, .func (PySem.W.fnOf "value_of" "value_of" (aF cS) (aD cS) (aa cS) .none WL WM WN WK US WO), Y0⟩) (c4 : PySem.W.codeIn K US "value_of" = true) (k4 : PySem.W.keepIn K (.ref f4) = true) {f5 : Addr} {Y4 WQ : Option Addr} {Y5 : Array (Option Value)} {Y6 WR WS WT UT WU : Value} (a5 : PySem.W.nsIn K mainGlobals "values_of" = some (some (.ref f5))) (l5 : K.lookup f5 = some ⟨Y6, Y4, .func (PySem.W.fnOf "values_of" "values_of" (aF cV) (aD cV) (aa cV) .none WR WS WT WQ UT WU), Y5⟩) (c5 : PySem.W.codeIn K UT "values_of" = true) (k5 : PySem.W.keepIn K (.ref f5) = true) {f6 : Addr} {Y7 WV : Option Addr} {Y8 : Array (Option Value)} {Y9 WW WX WY UU WZ : Value} (a6 : PySem.W.nsIn K mainGlobals "name_of" = some (some (.ref f6))) (l6 : K.lookup f6 = some ⟨Y9, Y7, .func (PySem.W.fnOf "name_of" "name_of" (aF eZ) (aD eZ) (aa eZ) .none WW WX WY WV UU WZ), Y8⟩) (c6 : PySem.W.codeIn K UU "name_of" = true) (k6 : PySem.W.keepIn K (.ref f6) = true) {f7 : Addr} {Za W0 : Option Addr} {Zb : Array (Option Value)} {Zc W2 W3 W4 UW W5 : Value} (a7 : PySem.W.nsIn K mainGlobals "make_in_way" = some (some (.ref f7))) (l7 : K.lookup f7 = some ⟨Zc, Za, .func (PySem.W.fnOf "make_in_way" "make_in_way" (aF bC) (aD bC) (aa bC) .none W2 W3 W4 W0 UW W5), Zb⟩) (c7 : PySem.W.codeIn K UW "make_in_way" = true) (k7 : PySem.W.keepIn K (.ref f7) = true) {f8 : Addr} {Zd W6 : Option Addr} {Ze : Array (Option Value)} {Zf W7 W8 W9 UX Xa : Value} (a8 : PySem.W.nsIn K mainGlobals "way_value" = some (some (.ref f8))) (l8 : K.lookup f8 = some ⟨Zf, Zd, .func (PySem.W.fnOf "way_value" "way_value" (aF cL) (aD cL) (aa cL) .none W7 W8 W9 W6 UX Xa), Ze⟩) (c8 : PySem.W.codeIn K UX "way_value" = true) (k8 : PySem.W.keepIn K (.ref f8) = true) {f9 : Addr} {Zg Xb : Option Addr} {Zh : Array (Option Value)} {Zi Xd Xe Xf UY Xg : Value} (a9 : PySem.W.nsIn K mainGlobals "look_value" = some (some (.ref f9))) (l9 : K.lookup f9 = some ⟨Zi, Zg, .func (PySem.W.fnOf "look_value" "look_value" (aF bS) (aD bS) (aa bS) .none Xd Xe Xf Xb UY Xg), Zh⟩) (c9 : PySem.W.codeIn K UY "look_value" = true) (k9 : PySem.W.keepIn K (.ref f9) = true) {SD : Addr} {UZ Qy : Option Addr} {U0 : Array (Option Value)} {U1 Qz QB QC N6 QD : Value} (C6 : PySem.W.nsIn K mainGlobals "look_of" = some (some (.ref SD))) (Zj : K.lookup SD = some ⟨U1, UZ, .func (PySem.W.fnOf "look_of" "look_of" (aF dY) (aD dY) (aa dY) .none Qz QB QC Qy N6 QD), U0⟩) (Zk : PySem.W.codeIn K N6 "look_of" = true) (Zl : PySem.W.keepIn K (.ref SD) = true) {SE : Addr} {U3 QF : Option Addr} {U4 : Array (Option Value)} {U5 QH QJ QK N7 QL : Value} (Zm : PySem.W.nsIn K mainGlobals "look_parts" = some (some (.ref SE))) (Zn : K.lookup SE = some ⟨U5, U3, .func (PySem.W.fnOf "look_parts" "look_parts" (aF cD) (aD cD) (aa cD) .none QH QJ QK QF N7 QL), U4⟩) (Zo : PySem.W.codeIn K N7 "look_parts" = true) (Zp : PySem.W.keepIn K (.ref SE) = true) {K2 : Addr} {U6 QM : Option Addr} {U7 : Array (Option Value)} {U8 QN QU QV N8 QX : Value} (Zq : PySem.W.nsIn K mainGlobals "all_within" = some (some (.ref K2))) (Zr : K.lookup K2 = some ⟨U8, U6, .func (PySem.W.fnOf "all_within" "all_within" (aF bz) (aD bz) (aa bz) .none QN QU QV QM N8 QX), U7⟩) (c12 : PySem.W.codeIn K N8 "all_within" = true) (Zs : PySem.W.keepIn K (.ref K2) = true) {SG : Addr} {U9 QY : Option Addr} {Va : Array (Option Value)} {Vb QZ Q0 Q2 N9 Q3 : Value} (Zt : PySem.W.nsIn K mainGlobals "folded" = some (some (.ref SG))) (Zu : K.lookup SG = some ⟨Vb, U9, .func (PySem.W.fnOf "folded" "folded" (aF cN) (aD cN) (aa cN) .none QZ Q0 Q2 QY N9 Q3), Va⟩) (Zv : PySem.W.codeIn K N9 "folded" = true) (Zw : PySem.W.keepIn K (.ref SG) = true) {SH : Addr} {Vc Q4 : Option Addr} {Vd : Array (Option Value)} {Ve Q5 Q6 Q7 Oa Q8 : Value} (Zx : PySem.W.nsIn K mainGlobals "show_way" = some (some (.ref SH))) (Zy : K.lookup SH = some ⟨Ve, Vc, .func (PySem.W.fnOf "show_way" "show_way" (aF d9) (aD d9) (aa d9) .none Q5 Q6 Q7 Q4 Oa Q8), Vd⟩) (Zz : PySem.W.codeIn K Oa "show_way" = true) (ZA : PySem.W.keepIn K (.ref SH) = true) {SI : Addr} {Vf Q9 : Option Addr} {Vg : Array (Option Value)} {Vh Ra Rb Rc Ob Rf : Value} (ZC : PySem.W.nsIn K mainGlobals "show_look" = some (some (.ref SI))) (ZD : K.lookup SI = some ⟨Vh, Vf, .func (PySem.W.fnOf "show_look" "show_look" (aF cM) (aD cM) (aa cM) .none Ra Rb Rc Q9 Ob Rf), Vg⟩) (ZE : PySem.W.codeIn K Ob "show_look" = true) (ZF : PySem.W.keepIn K (.ref SI) = true) {SJ : Addr} {Vi Rg : Option Addr} {Vj : Array (Option Value)} {Vk Rh Ri Rj Oc Rk : Value} (ZG : PySem.W.nsIn K mainGlobals "bracket" = some (some (.ref SJ))) (ZH : K.lookup SJ = some ⟨Vk, Vi, .func (PySem.W.fnOf "bracket" "bracket" (aF gh) (aD gh) (aa gh) .none Rh Ri Rj Rg Oc Rk), Vj⟩) (ZI : PySem.W.codeIn K Oc "bracket" = true) (ZJ : PySem.W.keepIn K (.ref SJ) = true) {SK : Addr} {Vl Rl : Option Addr} {Vm : Array (Option Value)} {Vn Rm Rn Ro Od Rp : Value} (ZK : PySem.W.nsIn K mainGlobals "look_text" = some (some (.ref SK))) (ZL : K.lookup SK = some ⟨Vn, Vl, .func (PySem.W.fnOf "look_text" "look_text" (aF cz) (aD cz) (aa cz) .none Rm Rn Ro Rl Od Rp), Vm⟩) (ZM : PySem.W.codeIn K Od "look_text" = true) (ZN : PySem.W.keepIn K (.ref SK) = true) {SM : Addr} {Vo Rq : Option Addr} {Vp : Array (Option Value)} {Vq Rr Rt Ru Oe Rv : Value} (ZO : PySem.W.nsIn K mainGlobals "_law_draws" = some (some (.ref SM))) (ZP : K.lookup SM = some ⟨Vq, Vo, .func (PySem.W.fnOf "_law_draws" "_law_draws" (aF bA) (aD bA) (aa bA) .none Rr Rt Ru Rq Oe Rv), Vp⟩) (ZQ : PySem.W.codeIn K Oe "_law_draws" = true) (ZR : PySem.W.keepIn K (.ref SM) = true) {SN : Addr} {Vr Rw : Option Addr} {Vt : Array (Option Value)} {Vu Rx Ry Rz Of RA : Value} (ZS : PySem.W.nsIn K mainGlobals "_law_name" = some (some (.ref SN))) (ZT : K.lookup SN = some ⟨Vu, Vr, .func (PySem.W.fnOf "_law_name" "_law_name" (aF bM) (aD bM) (aa bM) .none Rx Ry Rz Rw Of RA), Vt⟩) (ZU : PySem.W.codeIn K Of "_law_name" = true) (ZV : PySem.W.keepIn K (.ref SN) = true) {SO : Addr} {Vv RB : Option Addr} {Vw : Array (Option Value)} {Vx RC RD RG Og RH : Value} (yH : PySem.W.nsIn K mainGlobals "_law_look" = some (some (.ref SO))) (ZW : K.lookup SO = some ⟨Vx, Vv, .func (PySem.W.fnOf "_law_look" "_law_look" (aF bB) (aD bB) (aa bB) .none RC RD RG RB Og RH), Vw⟩) (ZX : PySem.W.codeIn K Og "_law_look" = true) (ZY : PySem.W.keepIn K (.ref SO) = true) {SQ : Addr} {Vy RI : Option Addr} {Vz : Array (Option Value)} {VA RJ RK RL Oh RM : Value} (Fz : PySem.W.nsIn K mainGlobals "_law_way" = some (some (.ref SQ))) (ZZ : K.lookup SQ = some ⟨VA, Vy, .func (PySem.W.fnOf "_law_way" "_law_way" (aF bG) (aD bG) (aa bG) .none RJ RK RL RI Oh RM), Vz⟩) (Z0 : PySem.W.codeIn K Oh "_law_way" = true) (Z1 : PySem.W.keepIn K (.ref SQ) = true) {SR : Addr} {VB RN : Option Addr} {VC : Array (Option Value)} {VD RO RP RQ Oi RS : Value} (Z3 : PySem.W.nsIn K mainGlobals "_law_look_text" = some (some (.ref SR))) (Z4 : K.lookup SR = some ⟨VD, VB, .func (PySem.W.fnOf "_law_look_text" "_law_look_text" (aF bf) (aD bf) (aa bf) .none RO RP RQ RN Oi RS), VC⟩) (Z5 : PySem.W.codeIn K Oi "_law_look_text" = true) (Z6 : PySem.W.keepIn K (.ref SR) = true) {SS : Addr} {VE RT : Option Addr} {VF : Array (Option Value)} {VG RU RV RW Oj RX : Value} (Z7 : PySem.W.nsIn K mainGlobals "_law_way_text" = some (some (.ref SS))) (Z8 : K.lookup SS = some ⟨VG, VE, .func (PySem.W.fnOf "_law_way_text" "_law_way_text" (aF aS) (aD aS) (aa aS) .none RU RV RW RT Oj RX), VF⟩) (Z9 : PySem.W.codeIn K Oj "_law_way_text" = true) (k23 : PySem.W.keepIn K (.ref SS) = true) {SV : Addr} {VH RY : Option Addr} {VI : Array (Option Value)} {VJ RZ R0 R1 Ol R3 : Value} (a24 : PySem.W.nsIn K mainGlobals "law" = some (some (.ref SV))) (l24 : K.lookup SV = some ⟨VJ, VH, .func (PySem.W.fnOf "law" "law" (aF dI) (aD dI) (aa dI) .none RZ R0 R1 RY Ol R3), VI⟩) (c24 : PySem.W.codeIn K Ol "law" = true) (k24 : PySem.W.keepIn K (.ref SV) = true) (z0 : PySem.W.nsIn K mainGlobals "all" = some none) (z1 : PySem.W.nsIn K mainGlobals "int" = some none) (z2 : PySem.W.nsIn K mainGlobals "isinstance" = some none) (z3 : PySem.W.nsIn K mainGlobals "len" = some none) (z4 : PySem.W.nsIn K mainGlobals "list" = some none) (z5 : PySem.W.nsIn K mainGlobals "max" = some none) (z6 : PySem.W.nsIn K mainGlobals "range" = some none) (z7 : PySem.W.nsIn K mainGlobals "reversed" = some none) (z8 : PySem.W.nsIn K mainGlobals "str" = some none) (z9 : PySem.W.nsIn K mainGlobals "tuple" = some none) (z10 : PySem.W.nsIn K mainGlobals "zip" = some none) {zb : Addr} {VL : Array Value} {Xh : Nat} {E6 : Array (Option Value)} (g0 : PySem.W.nsIn K mainGlobals "GOES" = some (some (.ref zb))) (gl0 : K.lookup zb = some ⟨.type "tuple", none, .seq VL Xh, E6⟩) (Xi : Vals [V.str "down", V.str "deep", V.str "later"] VL.toList) {J2 : Addr} {VM : Array Value} {Xj : Nat} {Ul : Array (Option Value)} (g1 : PySem.W.nsIn K mainGlobals "KEPT_WORDS" = some (some (.ref J2))) (gl1 : K.lookup J2 = some ⟨.type "tuple", none, .seq VM Xj, Ul⟩) (Xk : Vals [V.str "start", V.str "rule", V.str "row", V.str "mix", V.str "many", V.str "any", V.str "kind", V.str "not", V.str "both", V.str "either", V.str "way", V.str "mark"] VM.toList) {gt2 : Tok} (g2 : PySem.W.nsIn K mainGlobals "LETTERS" = some (some (.str "abcdefghijklmnopqrstuvwxyz" gt2))) {gt3 : Tok} (g3 : PySem.W.nsIn K mainGlobals "LONGEST" = some (some (.int (8) gt3))) (nb0 : PySem.W.nsOkIn K cStatics = true) (nb1 : PySem.W.nsIn K cStatics sharingNotToldKey = some none) {VN : Addr} (cm0 : PySem.W.nsIn K mainGlobals "NoText" = some (some (.ref VN))) (ce0 : PySem.W.excIn K VN DT "ValueError.__new__" = true) : ∃ t, Txt K mg t ∧ ∃ kV dc pm an cd ct, (t.d 24) = PySem.W.fnOf "law" "law" (aF dI) (aD dI) (aa dI) .none kV dc pm an cd ct := by
  have F0 := d8 (st := bZ) l0 c0 k0
  have F1 := d8 (st := dh) l1 c1 k1
  have F2 := d8 (st := cI) l2 c2 k2
  have F3 := d8 (st := aM) l3 c3 k3
  have F4 := d8 (st := cS) l4 c4 k4
  have F5 := d8 (st := cV) l5 c5 k5
  have F6 := d8 (st := eZ) l6 c6 k6
  have F7 := d8 (st := bC) l7 c7 k7
  have F8 := d8 (st := cL) l8 c8 k8
  have F9 := d8 (st := bS) l9 c9 k9
  have Xl := d8 (st := dY) Zj Zk Zl
  have Xm := d8 (st := cD) Zn Zo Zp
  have Xn := d8 (st := bz) Zr c12 Zs
  have Xo := d8 (st := cN) Zu Zv Zw
  have Xp := d8 (st := d9) Zy Zz ZA
  have Xq := d8 (st := cM) ZD ZE ZF
  have Xr := d8 (st := gh) ZH ZI ZJ
  have Xs := d8 (st := cz) ZL ZM ZN
  have Xu := d8 (st := bA) ZP ZQ ZR
  have Xv := d8 (st := bM) ZT ZU ZV
  have Xw := d8 (st := bB) ZW ZX ZY
  have Xx := d8 (st := bG) ZZ Z0 Z1
  have Xy := d8 (st := bf) Z4 Z5 Z6
  have Xz := d8 (st := aS) Z8 Z9 k23
  have XA := d8 (st := dI) l24 c24 k24
  exact ⟨⟨fun i => [f0, f1, f2, f3, f4, f5, f6, f7, f8, f9, SD, SE, K2, SG, SH, SI, SJ, SK, SM, SN, SO, SQ, SR, SS, SV].getD i f0, fun i => [PySem.W.fnOf "is_name" "is_name" (aF bZ) (aD bZ) (aa bZ) .none UL UM UN UK SA UO, PySem.W.fnOf "read_way" "read_way" (aF dh) (aD dh) (aa dh) .none Wu Wv Ww Wt UP Wx, PySem.W.fnOf "words_of" "words_of" (aF cI) (aD cI) (aa cI) .none WA WB WC Wz UQ WD, PySem.W.fnOf "read_bracket" "read_bracket" (aF aM) (aD aM) (aa aM) .none WG WH WI WE UR WJ, PySem.W.fnOf "value_of" "value_of" (aF cS) (aD cS) (aa cS) .none WL WM WN WK US WO, PySem.W.fnOf "values_of" "values_of" (aF cV) (aD cV) (aa cV) .none WR WS WT WQ UT WU, PySem.W.fnOf "name_of" "name_of" (aF eZ) (aD eZ) (aa eZ) .none WW WX WY WV UU WZ, PySem.W.fnOf "make_in_way" "make_in_way" (aF bC) (aD bC) (aa bC) .none W2 W3 W4 W0 UW W5, PySem.W.fnOf "way_value" "way_value" (aF cL) (aD cL) (aa cL) .none W7 W8 W9 W6 UX Xa, PySem.W.fnOf "look_value" "look_value" (aF bS) (aD bS) (aa bS) .none Xd Xe Xf Xb UY Xg, PySem.W.fnOf "look_of" "look_of" (aF dY) (aD dY) (aa dY) .none Qz QB QC Qy N6 QD, PySem.W.fnOf "look_parts" "look_parts" (aF cD) (aD cD) (aa cD) .none QH QJ QK QF N7 QL, PySem.W.fnOf "all_within" "all_within" (aF bz) (aD bz) (aa bz) .none QN QU QV QM N8 QX, PySem.W.fnOf "folded" "folded" (aF cN) (aD cN) (aa cN) .none QZ Q0 Q2 QY N9 Q3, PySem.W.fnOf "show_way" "show_way" (aF d9) (aD d9) (aa d9) .none Q5 Q6 Q7 Q4 Oa Q8, PySem.W.fnOf "show_look" "show_look" (aF cM) (aD cM) (aa cM) .none Ra Rb Rc Q9 Ob Rf, PySem.W.fnOf "bracket" "bracket" (aF gh) (aD gh) (aa gh) .none Rh Ri Rj Rg Oc Rk, PySem.W.fnOf "look_text" "look_text" (aF cz) (aD cz) (aa cz) .none Rm Rn Ro Rl Od Rp, PySem.W.fnOf "_law_draws" "_law_draws" (aF bA) (aD bA) (aa bA) .none Rr Rt Ru Rq Oe Rv, PySem.W.fnOf "_law_name" "_law_name" (aF bM) (aD bM) (aa bM) .none Rx Ry Rz Rw Of RA, PySem.W.fnOf "_law_look" "_law_look" (aF bB) (aD bB) (aa bB) .none RC RD RG RB Og RH, PySem.W.fnOf "_law_way" "_law_way" (aF bG) (aD bG) (aa bG) .none RJ RK RL RI Oh RM, PySem.W.fnOf "_law_look_text" "_law_look_text" (aF bf) (aD bf) (aa bf) .none RO RP RQ RN Oi RS, PySem.W.fnOf "_law_way_text" "_law_way_text" (aF aS) (aD aS) (aa aS) .none RU RV RW RT Oj RX, PySem.W.fnOf "law" "law" (aF dI) (aD dI) (aa dI) .none RZ R0 R1 RY Ol R3].getD i (PySem.W.fnOf "is_name" "is_name" (aF bZ) (aD bZ) (aa bZ) .none UL UM UN UK SA UO), fun i => [VN].getD i 0⟩, ⟨F0, F0.binds (fun _ _ _ _ _ _ => qZ fun _ => rfl), PySem.W.mg_of X G a0, F1, F1.binds (fun _ _ _ _ _ _ => qZ fun _ => rfl), PySem.W.mg_of X G a1, F2, F2.binds (fun _ _ _ _ _ _ => qZ fun _ => rfl), PySem.W.mg_of X G a2, F3, F3.binds (fun _ _ _ _ _ _ => G5 fun _ _ => rfl), PySem.W.mg_of X G a3, F4, F4.binds (fun _ _ _ _ _ _ => G5 fun _ _ => rfl), PySem.W.mg_of X G a4, F5, F5.binds (fun _ _ _ _ _ _ => G5 fun _ _ => rfl), PySem.W.mg_of X G a5, F6, F6.binds (fun _ _ _ _ _ _ => qZ fun _ => rfl), PySem.W.mg_of X G a6, F7, F7.binds (fun _ _ _ _ _ _ => qZ fun _ => rfl), PySem.W.mg_of X G a7, F8, F8.binds (fun _ _ _ _ _ _ => qZ fun _ => rfl), PySem.W.mg_of X G a8, F9, F9.binds (fun _ _ _ _ _ _ => qZ fun _ => rfl), PySem.W.mg_of X G a9, Xl, Xl.binds (fun _ _ _ _ _ _ => qZ fun _ => rfl), PySem.W.mg_of X G C6, Xm, Xm.binds (fun _ _ _ _ _ _ => qZ fun _ => rfl), PySem.W.mg_of X G Zm, Xn, Xn.binds (fun _ _ _ _ _ _ => G5 fun _ _ => rfl), PySem.W.mg_of X G Zq, Xo, Xo.binds (fun _ _ _ _ _ _ => Qx fun _ _ _ => rfl), PySem.W.mg_of X G Zt, Xp, Xp.binds (fun _ _ _ _ _ _ => qZ fun _ => rfl), PySem.W.mg_of X G Zx, Xq, Xq.binds (fun _ _ _ _ _ _ => qZ fun _ => rfl), PySem.W.mg_of X G ZC, Xr, Xr.binds (fun _ _ _ _ _ _ => qZ fun _ => rfl), PySem.W.mg_of X G ZG, Xs, Xs.binds (fun _ _ _ _ _ _ => G5 fun _ _ => rfl), PySem.W.mg_of X G ZK, Xu, Xu.binds (fun _ _ _ _ _ _ => G5 fun _ _ => rfl), PySem.W.mg_of X G ZO, Xv, Xv.binds (fun _ _ _ _ _ _ => qZ fun _ => rfl), PySem.W.mg_of X G ZS, Xw, Xw.binds (fun _ _ _ _ _ _ => Qx fun _ _ _ => rfl), PySem.W.mg_of X G yH, Xx, Xx.binds (fun _ _ _ _ _ _ => UJ fun _ _ _ _ => rfl), PySem.W.mg_of X G Fz, Xy, Xy.binds (fun _ _ _ _ _ _ => qZ fun _ => rfl), PySem.W.mg_of X G Z3, Xz, Xz.binds (fun _ _ _ _ _ _ => qZ fun _ => rfl), PySem.W.mg_of X G Z7, XA, XA.binds (fun _ _ _ _ _ _ => qZ fun _ => rfl), PySem.W.mg_of X G a24, PySem.W.mg_none_of X G z0, PySem.W.mg_none_of X G z1, PySem.W.mg_none_of X G z2, PySem.W.mg_none_of X G z3, PySem.W.mg_none_of X G z4, PySem.W.mg_none_of X G z5, PySem.W.mg_none_of X G z6, PySem.W.mg_none_of X G z7, PySem.W.mg_none_of X G z8, PySem.W.mg_none_of X G z9, PySem.W.mg_none_of X G z10, ⟨.ref zb, .ref zb, PySem.W.mg_of X G g0, rfl, fun ρ H => by unfold sf Rep; exact ⟨zb, _, rfl, .inr ⟨_, VL, Xh, gl0, rfl, rfl, by have := Xi.length; rw [← Array.length_toList, ← this]; decide, Xi⟩, by simp only [aG, Rep]; simp⟩⟩, ⟨.ref J2, .ref J2, PySem.W.mg_of X G g1, rfl, fun ρ H => by unfold kC Rep; exact ⟨J2, _, rfl, .inr ⟨_, VM, Xj, gl1, rfl, rfl, by have := Xk.length; rw [← Array.length_toList, ← this]; decide, Xk⟩, by simp only [aG, Rep]; simp⟩⟩, ⟨_, V.str "abcdefghijklmnopqrstuvwxyz", PySem.W.mg_of X G g2, ⟨_, rfl⟩, fun ρ H => by unfold kP Rep; rfl⟩, ⟨_, V.int (8), PySem.W.mg_of X G g3, ⟨_, rfl⟩, fun ρ H => by unfold qH Rep; rfl⟩, NZ nb0 nb1, PySem.W.mg_of X G cm0, ce0⟩, _, _, _, _, _, _, rfl⟩
section
variable {P : Program} {w : World} {K : PySem.W.Frag} {mg : Str → Option Value} {base : Heap} {t : UI}
theorem Om (T : Txt K mg t) : rm P w K mg base (cu P w) 81 (t.f 24) (t.d 24) ["_law_script"] (aQ K mg 1 Fx) := by
  have vB := Et (P := P) (w := w) (base := base) T
  have sS := C1 (P := P) (w := w) (base := base) T
  have gy := C2 (P := P) (w := w) (base := base) T
  have eU := zv (P := P) (w := w) (base := base) T
  have kR := Eu (P := P) (w := w) (base := base) T
  have ou := zw (P := P) (w := w) (base := base) T
  have ql := Bq (P := P) (w := w) (base := base) T
  have qg := Br (P := P) (w := w) (base := base) T gy
  have vC := Ew (P := P) (w := w) (base := base) T vB
  have i8 := Ex (P := P) (w := w) (base := base) T gy
  have qk := Bs (P := P) (w := w) (base := base) T kR
  have qj := Bt (P := P) (w := w) (base := base) T qg
  have om := zx (P := P) (w := w) (base := base) T vC i8
  have dR := yE (P := P) (w := w) (base := base) T qj om i8
  have lK := wR (P := P) (w := w) (base := base) T sS dR eU
  have oq := zy (P := P) (w := w) (base := base) T dR eU
  have lN := C3 (P := P) (w := w) (base := base) T lK gy
  have yF := G4 (P := P) (w := w) (base := base) T dR eU oq qk
  have i9 := Bu (P := P) (w := w) (base := base) T yF
  have sU := C4 (P := P) (w := w) (base := base) T i9
  obtain ⟨fQ, gA⟩ := rM (P := P) (w := w) (base := base) T 30
  obtain ⟨cg, cQ⟩ := lM (P := P) (w := w) (base := base) T 80
  have R4 := N4 (P := P) (w := w) (base := base) T lN sU i9 ou ql gA cg cQ
  exact R4
end
end K14
end
section
open PySem PySem.Spec L2 L3
local macro_rules
 | `(tactic| simp! [$a,*]) => `(tactic| simp [cZ, gg, zV, rC, zc, GH, kg, oH, AY, II, xT, Ci, tM, iD, bR, kX, iR, r9, pN, qE, iS, iN, Cj, xU, Ck, E7, IJ, E8, IK, w6, jV, qF, Cm, E9, Fb, Fc, Cn, xV, u7, Fd, L5, Fe, Ff, Fg, IL, IM, Co, L7, tN, IP, mV, IX, Fp, IY, L8, CB, Jc, fh, uQ, cX, bE, jS, rT, g8, bu, eF, iE, fZ, rV, B0, Ss, Ty.is, $a,*])
local macro_rules
 | `(tactic| dsimp! [$a,*]) => `(tactic| simp [cZ, gg, zV, rC, zc, GH, kg, oH, AY, II, xT, Ci, tM, iD, bR, kX, iR, r9, pN, qE, iS, iN, Cj, xU, Ck, E7, IJ, E8, IK, w6, jV, qF, Cm, E9, Fb, Fc, Cn, xV, u7, Fd, L5, Fe, Ff, Fg, IL, IM, Co, L7, tN, IP, mV, IX, Fp, IY, L8, CB, Jc, fh, uQ, cX, bE, jS, rT, g8, Qq, eF, iE, fZ, rV, B0, Ss, Ty.is, $a,*])
section
set_option Elab.async false
set_option linter.all false
set_option maxRecDepth 100000
set_option maxHeartbeats 1000000
namespace K14
open PySem PySem.Spec L2 L3
structure Nm (l : List Nat) : Prop where
 ne : l ≠ []
 le : l.length ≤ 8
 az : ∀ x ∈ l, 97 ≤ x ∧ x ≤ 122
 kw : ((["start", "rule", "row", "mix", "many", "any", "kind", "not", "both", "either", "way", "mark"] : List Str).any (· == av l)) = false
noncomputable def Bw (w : List Nat) : Prop := ∀ x ∈ w, x ≠ 32 ∧ x ≠ 10 ∧ x ≠ 40 ∧ x ≠ 41
theorem Nm.wd {l : List Nat} (h : Nm l) : Bw l := fun x hx => by have := h.az x hx; omega
theorem C7 : ∀ (w cur r : List Nat), Bw w → bY cur (w ++ r) = bY (cur ++ w) r
 | [], cur, r, _ => by simp
 | x :: w, cur, r, h => by
  have hx := h x (by simp)
  rw [List.cons_append, bY, if_neg hx.1, if_neg hx.2.1, if_neg hx.2.2.1, if_neg hx.2.2.2, C7 w (cur ++ [x]) r fun y hy => h y (by simp [hy])]
  simp
noncomputable def Ends (r : List Nat) : Prop := (∃ r', r = 32 :: r') ∨ ∃ r', r = 41 :: r'
theorem kL {w r : List Nat} (hn : w ≠ []) (hw : Bw w) (hr : Ends r) : bY [] (w ++ r) = w :: bY [] r := by
 rw [C7 w [] r hw, List.nil_append]
 have hf : GN w = [w] := by cases w with
  | nil => exact absurd rfl hn
  | cons a b => rfl
 rcases hr with ⟨r', rfl⟩ | ⟨r', rfl⟩
 ·simp [bY, hf, jO]
 ·simp [bY, hf, jO]
theorem Al (r : List Nat) : bY [] (32 :: r) = bY [] r := by simp [bY, jO]
theorem Am (r : List Nat) : bY [] (40 :: r) = [40] :: bY [] r := by simp [bY, jO]
theorem An (r : List Nat) : bY [] (41 :: r) = [41] :: bY [] r := by simp [bY, jO]
theorem R5 (r : List Nat) : Ends (32 :: r) := .inl ⟨r, rfl⟩
theorem OV (r : List Nat) : Ends (41 :: r) := .inr ⟨r, rfl⟩
theorem rN {l : List Nat} (h : ∀ x ∈ l, x < 1114112) : PyData.strOk (av l) = true := by
 unfold PyData.strOk av
 rw [Array.all_eq_true_iff_forall_mem]
 intro x hx
 simpa using h x (by simpa using hx)
theorem Nm.gd {l : List Nat} (h : Nm l) : PyData.strOk (av l) = true := rN fun x hx => by have := h.az x hx; omega
theorem iA (l : List Nat) : (av l).length = l.length := by simp [av, Str.length]
mutual
inductive Lk where
 | any
 | mark
 | kind (nm : List Nat)
 | not (l : Lk)
 | bin (e : Bool) (l r : Lk)
 | way (w : Wy)
inductive Wy where
 | nil
 | cons (g : Nat) (l : Lk) (w : Wy)
end
noncomputable def jb (g : Nat) : List Nat := if g = 0 then [100, 111, 119, 110] else if g = 1 then [100, 101, 101, 112] else [108, 97, 116, 101, 114]
noncomputable def dU (e : Bool) : List Nat := if e then [101, 105, 116, 104, 101, 114] else [98, 111, 116, 104]
noncomputable def uF : List Nat := [97, 110, 121]
noncomputable def markL : List Nat := [109, 97, 114, 107]
noncomputable def gF : List Nat := [107, 105, 110, 100]
noncomputable def ef : List Nat := [110, 111, 116]
noncomputable def fk : List Nat := [119, 97, 121]
mutual
noncomputable def Lk.D : Lk → L3.D
 | .any => .tup [.str (av uF)]
 | .mark => .tup [.str (av markL)]
 | .kind nm => .tup [.str (av gF), .str (av nm)]
 | .not l => .tup [.str (av ef), l.D]
 | .bin e l r => .tup [.str (av (dU e)), l.D, r.D]
 | .way w => .tup [.str (av fk), .tup w.Ds]
noncomputable def Wy.Ds : Wy → List L3.D
 | .nil => []
 | .cons g l w => .tup [.str (av (jb g)), l.D] :: w.Ds
end
mutual
noncomputable def Lk.L : Lk → List Nat
 | .any => uF
 | .mark => markL
 | .kind nm => 40 :: (gF ++ 32 :: (nm ++ [41]))
 | .not l => 40 :: (ef ++ 32 :: (l.L ++ [41]))
 | .bin e l r => 40 :: (dU e ++ 32 :: (l.L ++ 32 :: (r.L ++ [41])))
 | .way w => 40 :: (fk ++ (w.L ++ [41]))
noncomputable def Wy.L : Wy → List Nat
 | .nil => []
 | .cons g l w => 32 :: 40 :: (jb g ++ 32 :: (l.L ++ 41 :: w.L))
end
mutual
noncomputable def Lk.W : Lk → List (List Nat)
 | .any => [uF]
 | .mark => [markL]
 | .kind nm => [[40], gF, nm, [41]]
 | .not l => [40] :: ef :: (l.W ++ [[41]])
 | .bin e l r => [40] :: dU e :: (l.W ++ (r.W ++ [[41]]))
 | .way w => [40] :: fk :: (w.W ++ [[41]])
noncomputable def Wy.W : Wy → List (List Nat)
 | .nil => []
 | .cons g l w => [40] :: jb g :: (l.W ++ [41] :: w.W)
end
mutual
noncomputable def Lk.sz : Lk → Nat
 | .any => 1
 | .mark => 1
 | .kind _ => 1
 | .not l => 1 + l.sz
 | .bin _ l r => 1 + (l.sz + r.sz)
 | .way w => 1 + w.sz
noncomputable def Wy.sz : Wy → Nat
 | .nil => 0
 | .cons _ l w => l.sz + w.sz
end
mutual
noncomputable def Lk.Ok : Lk → Prop
 | .any => True
 | .mark => True
 | .kind nm => Nm nm
 | .not l => l.Ok
 | .bin _ l r => l.Ok ∧ r.Ok
 | .way w => w.Ok
noncomputable def Wy.Ok : Wy → Prop
 | .nil => True
 | .cons _ l w => l.Ok ∧ w.Ok
end
mutual
noncomputable def Lk.Nk : Lk → Prop
 | .any => True
 | .mark => False
 | .kind _ => True
 | .not l => l.Nk
 | .bin _ l r => l.Nk ∧ r.Nk
 | .way w => w.Nk ∧ w ≠ .nil
noncomputable def Wy.Nk : Wy → Prop
 | .nil => True
 | .cons _ l w => l.Nk ∧ w.Nk
end
mutual
noncomputable def Lk.dep : Lk → Nat
 | .any => 1
 | .mark => 1
 | .kind _ => 1
 | .not l => 1 + l.dep
 | .bin _ l r => 1 + max l.dep r.dep
 | .way w => 1 + w.dep
noncomputable def Wy.dep : Wy → Nat
 | .nil => 1
 | .cons _ l w => max (1 + l.dep) w.dep
end
theorem Jp (g : Nat) : jb g ≠ [] ∧ Bw (jb g) := by
 unfold jb
 split
 ·exact ⟨by decide, by unfold Bw; decide⟩
 ·split <;> exact ⟨by decide, by unfold Bw; decide⟩
theorem Ey (e : Bool) : dU e ≠ [] ∧ Bw (dU e) := by cases e <;> exact ⟨by decide, by unfold Bw; decide⟩
theorem Jq (w : Wy) (r : List Nat) (hr : Ends r) : Ends (w.L ++ r) := by
 cases w with
 | nil => simpa [Wy.L] using hr
 | cons g l w => rw [Wy.L]; exact .inl ⟨_, rfl⟩
mutual
theorem Bx : ∀ (l : Lk), l.Ok → ∀ r, Ends r → bY [] (l.L ++ r) = l.W ++ bY [] r
 | .any, _, r, hr => by rw [Lk.L, kL (by decide) (by unfold Bw; decide) hr]; rfl
 | .mark, _, r, hr => by rw [Lk.L, kL (by decide) (by unfold Bw; decide) hr]; rfl
 | .kind nm, h, r, hr => by
  rw [Lk.Ok] at h
  have e : (Lk.kind nm).L ++ r = 40 :: (gF ++ 32 :: (nm ++ 41 :: r)) := by simp [Lk.L]
  rw [e, Am, kL (by decide) (by unfold Bw; decide) (R5 _), Al, kL h.ne h.wd (OV _), An]
  simp [Lk.W]
 | .not l, h, r, hr => by
  rw [Lk.Ok] at h
  have e : (Lk.not l).L ++ r = 40 :: (ef ++ 32 :: (l.L ++ 41 :: r)) := by simp [Lk.L]
  rw [e, Am, kL (by decide) (by unfold Bw; decide) (R5 _), Al, Bx l h _ (OV _), An]
  simp [Lk.W]
 | .bin b l1 l2, h, r, hr => by
  rw [Lk.Ok] at h
  have e : (Lk.bin b l1 l2).L ++ r = 40 :: (dU b ++ 32 :: (l1.L ++ 32 :: (l2.L ++ 41 :: r))) := by simp [Lk.L]
  rw [e, Am, kL (Ey b).1 (Ey b).2 (R5 _), Al, Bx l1 h.1 _ (R5 _), Al, Bx l2 h.2 _ (OV _), An]
  simp [Lk.W]
 | .way w, h, r, hr => by
  rw [Lk.Ok] at h
  have e : (Lk.way w).L ++ r = 40 :: (fk ++ (w.L ++ 41 :: r)) := by simp [Lk.L]
  rw [e, Am, kL (by decide) (by unfold Bw; decide) (Jq w _ (OV _)), Ez w h _ , An]
  simp [Lk.W]
theorem Ez : ∀ (w : Wy), w.Ok → ∀ r, bY [] (w.L ++ r) = w.W ++ bY [] r
 | .nil, _, r => by simp [Wy.L, Wy.W]
 | .cons g l w, h, r => by
  rw [Wy.Ok] at h
  have e : (Wy.cons g l w).L ++ r = 32 :: 40 :: (jb g ++ 32 :: (l.L ++ 41 :: (w.L ++ r))) := by simp [Wy.L]
  rw [e, Al, Am, kL (Jp g).1 (Jp g).2 (R5 _), Al, Bx l h.1 _ (OV _), An, Ez w h.2]
  simp [Wy.W]
end
theorem xj (g : Nat) : (jb g).length ≤ 5 := by
 unfold jb
 split
 ·decide
 ·split <;> decide
theorem yI (e : Bool) : (dU e).length ≤ 6 := by cases e <;> decide
mutual
theorem g6 : ∀ (l : Lk), l.Ok → l.L.length + 9 ≤ 25 * l.sz
 | .any, _ => by simp [Lk.L, Lk.sz, uF]
 | .mark, _ => by simp [Lk.L, Lk.sz, markL]
 | .kind nm, h => by
  rw [Lk.Ok] at h
  have := h.le
  simp only [Lk.L, Lk.sz, gF, List.length_cons, List.length_append, List.length_nil]; omega
 | .not l, h => by
  rw [Lk.Ok] at h
  have := g6 l h
  simp only [Lk.L, Lk.sz, ef, List.length_cons, List.length_append, List.length_nil]; omega
 | .bin b l r, h => by
  rw [Lk.Ok] at h
  have := g6 l h.1
  have := g6 r h.2
  have := yI b
  simp only [Lk.L, Lk.sz, List.length_cons, List.length_append, List.length_nil]; omega
 | .way w, h => by
  rw [Lk.Ok] at h
  have := Jr w h
  simp only [Lk.L, Lk.sz, fk, List.length_cons, List.length_append, List.length_nil]; omega
theorem Jr : ∀ (w : Wy), w.Ok → w.L.length ≤ 25 * w.sz
 | .nil, _ => by simp [Wy.L, Wy.sz]
 | .cons g l w, h => by
  rw [Wy.Ok] at h
  have := g6 l h.1
  have := Jr w h.2
  have := xj g
  simp only [Wy.L, Wy.sz, List.length_cons, List.length_append]; omega
end
mutual
theorem uG : ∀ (l : Lk), l.W.length + 3 ≤ 9 * l.sz
 | .any => by simp [Lk.W, Lk.sz]
 | .mark => by simp [Lk.W, Lk.sz]
 | .kind nm => by simp [Lk.W, Lk.sz]
 | .not l => by
  have := uG l
  simp only [Lk.W, Lk.sz, List.length_cons, List.length_append, List.length_nil]; omega
 | .bin b l r => by
  have := uG l
  have := uG r
  simp only [Lk.W, Lk.sz, List.length_cons, List.length_append, List.length_nil]; omega
 | .way w => by
  have := FA w
  simp only [Lk.W, Lk.sz, List.length_cons, List.length_append, List.length_nil]; omega
theorem FA : ∀ (w : Wy), w.W.length ≤ 9 * w.sz
 | .nil => by simp [Wy.W, Wy.sz]
 | .cons g l w => by
  have := uG l
  have := FA w
  simp only [Wy.W, Wy.sz, List.length_cons, List.length_append]; omega
end
theorem EA (g : Nat) : ∀ c ∈ jb g, c < 1114112 := by
 unfold jb
 split
 ·decide
 ·split <;> decide
theorem By (e : Bool) : ∀ c ∈ dU e, c < 1114112 := by cases e <;> decide
mutual
theorem uH : ∀ (l : Lk), l.Ok → ∀ c ∈ l.L, c < 1114112
 | .any, _ => by rw [Lk.L]; decide
 | .mark, _ => by rw [Lk.L]; decide
 | .kind nm, h => fun c hc => by
  rw [Lk.Ok] at h
  simp only [Lk.L, gF, List.mem_cons, List.mem_append, List.not_mem_nil, or_false] at hc
  rcases hc with hc | (hc | hc | hc | hc) | hc | hc | hc <;> first | omega | (have := h.az c hc; omega)
 | .not l, h => fun c hc => by
  rw [Lk.Ok] at h
  simp only [Lk.L, ef, List.mem_cons, List.mem_append, List.not_mem_nil, or_false] at hc
  rcases hc with hc | (hc | hc | hc) | hc | hc | hc <;> first | omega | exact uH l h c hc
 | .bin b l r, h => fun c hc => by
  rw [Lk.Ok] at h
  simp only [Lk.L, List.mem_cons, List.mem_append, List.not_mem_nil, or_false] at hc
  rcases hc with hc | hc | hc | hc | hc | hc | hc <;> first | omega | exact By b c hc | exact uH l h.1 c hc | exact uH r h.2 c hc
 | .way w, h => fun c hc => by
  rw [Lk.Ok] at h
  simp only [Lk.L, fk, List.mem_cons, List.mem_append, List.not_mem_nil, or_false] at hc
  rcases hc with hc | (hc | hc | hc) | hc | hc <;> first | omega | exact Mc w h c hc
theorem Mc : ∀ (w : Wy), w.Ok → ∀ c ∈ w.L, c < 1114112
 | .nil, _ => by simp [Wy.L]
 | .cons g l w, h => fun c hc => by
  rw [Wy.Ok] at h
  simp only [Wy.L, List.mem_cons, List.mem_append] at hc
  rcases hc with hc | hc | hc | hc | hc | hc | hc <;> first | omega | exact EA g c hc | exact uH l h.1 c hc | exact Mc w h.2 c hc
end
end K14
end
section
set_option Elab.async false
set_option linter.all false
set_option maxRecDepth 100000
set_option maxHeartbeats 1000000
namespace K14
open PySem PySem.Spec L2 L3
section
variable {a b c d : D}
theorem yH : j8 [a, b] 0 = some a := rfl
theorem Fz : j8 [a, b] 1 = some b := rfl
theorem SW : j8 [a, b, c] 0 = some a := rfl
theorem a31 : j8 [a, b, c] 1 = some b := rfl
theorem a32 : j8 [a, b, c] 2 = some c := rfl
end
noncomputable def jr : Str := "abcdefghijklmnopqrstuvwxyz"
noncomputable def sgn (c : Nat) : Bool := !(Builtin.Str.occurrences jr ⟨#[c]⟩ 0 jr.length 1).isEmpty
theorem Oo {c : Nat} (h : 97 ≤ c ∧ c ≤ 122) : sgn c = true := by
 have VO : ∀ k < 26, sgn (97 + k) = true := by decide +kernel
 have := VO (c - 97) (by omega)
 rwa [show 97 + (c - 97) = c by omega] at this
noncomputable def words : List Str := ["start", "rule", "row", "mix", "many", "any", "kind", "not", "both", "either", "way", "mark"]
theorem yJ (τ : DS) (G0 : DH) : ∀ (cs : List Nat) (acc : List D), acc.length + cs.length ≤ 1000 → (∀ c ∈ cs, 97 ≤ c ∧ c ≤ 122) →
  e9 oN [] kc (aC (uK false) (ai 0) (eC kP)) G0.length (cs.map fun c => .str ⟨#[c]⟩) τ (G0 ++ [.lst acc]) = .ok (.obj G0.length) (G0 ++ [.lst (acc ++ cs.map fun _ => .bl true)])
 | [], acc, hl, _ => by simp [e9]
 | c :: cs, acc, hl, h => by
  have hs : acc.length < sizeLine := Nat.lt_of_lt_of_le (by simp at hl; omega) (lz (n := 2000) (by omega))
  have hc := Oo (h c (by simp))
  unfold sgn jr at hc
  have e : fH oN [] kc (aC (uK false) (ai 0) (eC kP)) G0.length (.str ⟨#[c]⟩) τ (G0 ++ [.lst acc]) = .ok () (G0 ++ [.lst (acc ++ [.bl true])]) := by
   simp [fH, oN, kc, kX, pN, iR, iD, bR, r9, kP, uK, bE, hs, hc]
  rw [List.map_cons, e9, e]
  dsimp only
  rw [yJ τ G0 cs (acc ++ [D.bl true]) (by simp at hl ⊢; omega) fun c hc => h c (by simp [hc])]
  simp
theorem Lr (bs : List Bool) : tH (bs.map D.bl) = some bs := by
 induction bs with
 | nil => rfl
 | cons b r ih => simp [tH, ih]
theorem EB {l : List Nat} (h : Nm l) (G : DH) : mZ [.str (av l)] G = .ok (.bl true) G := by
 have hz : l.length ≤ sizeLine := lz (by have := h.le; omega)
 have hk := mU (av l) words G h.gd (by decide +kernel)
 rw [show words.any (· == av l) = false from h.kw] at hk
 have ek : kC = .tup (words.map D.str) := rfl
 have h8 := h.le
 have h1 : 1 ≤ l.length := by cases l with
  | nil => exact absurd rfl h.ne
  | cons a b => simp
 have hc := yJ [some (.str (av l))] G l [] (by simp only [List.length_nil]; omega) h.az
 have hb : tH (l.map fun c => D.bl true) = some (l.map fun _ => true) := by
  have := Lr (l.map fun _ => true)
  rw [List.map_map] at this
  exact this
 have h0' : ((l.length : Int) == 0) = false := beq_eq_false_iff_ne.mpr (by omega)
 have h9 : ¬ 8 < l.length := by omega
 have h9I : ¬ (8 : Int) < (l.length : Int) := by omega
 have hcl : bx (l.map fun c => D.bl true) = true := dB fun _ => rfl
 have hcs : (av l).cps.toList = l := gU l
 simp only [List.nil_append] at hc
 unfold mZ
 refine bK ?_ rfl
 simp! [qI, uK, ek, hk, hz, cW, h0', qH, h9, h9I, iA, hcs, hc, Ie, hb, dQ, mD hcl]
theorem EC {l : List Nat} (h : Nm l) (G : DH) : m5 [.str (av l)] G = .ok (.str (av l)) G := by
 have e := EB h G
 unfold m5
 refine bK ?_ aN
 simp! [qK, e]
theorem yK (s : Str) (hs : PyData.strOk s = true) (v : D) (hv : v.closed = true) (G : DH) : fj [.tup [.str s, v], .str s] G = .ok v G := by
 have e := gb false s s G hs hs
 have e' : (s == s) = true := by simp
 rw [e'] at e
 have a0 : j8 [D.str s, v] 0 = some (.str s) := rfl
 have a1 : j8 [D.str s, v] 1 = some v := rfl
 unfold fj
 refine bK ?_ hv
 simp! [nJ, e, a0, a1]
theorem G6 (s : Str) (hs : PyData.strOk s = true) (vs : List D) (hv : ∀ v ∈ vs, v.closed = true) (hl : vs.length ≤ 1000) (G : DH) : jY [.con (vs.map fun v => .tup [.str s, v]), .str s] G = .ok (.tup vs) G := by
 have hz : vs.length ≤ sizeLine := lz (by omega)
 have hcl : bx vs = true := nG hv
 have hc := vd (gO := oN) (ks := [false, true]) (te := aV 2 fj (af (ai 0) (af (ai 2) (aq)))) (own := fun d => [d]) (f := fun d => match d with | .tup [_, v] => v | d => d) (G := G) (τ := [some (.con (vs.map fun v => .tup [.str s, v])), some (.str s)]) (vs.map fun v => .tup [.str s, v]) [] (by simp; omega) (fun _ _ => rfl) (by
  intro x hx acc
  obtain ⟨v, hvm, rfl⟩ := List.mem_map.mp hx
  have e := yK s hs v (hv v hvm) (G ++ [.lst acc])
  simp! [mask, e])
 rw [List.map_map] at hc
 have hid : (vs.map ((fun d => match d with | D.tup [_, v] => v | d => d) ∘ fun v => D.tup [D.str s, v])) = vs := by
  conv => rhs; rw [← List.map_id vs]
  exact List.map_congr_left fun _ _ => rfl
 rw [hid, List.nil_append] at hc
 unfold jY
 refine bK ?_ (by rw [D.closed]; exact hcl)
 simp! [lV, hc, dQ, mD hcl, rZ, hz]
theorem VP (k : Nat) (l r : List D) (h : l.length = k) : cutD (l ++ r) (some k) none = r := by
 subst h
 simp [cutD, HT.wU, HT.xA]
theorem Js (a : D) (r : List D) : cutD (a :: r) none (some 1) = [a] := by
 simp [cutD, HT.iI]
theorem yL (c : Nat) : ∀ l, (bV c l).length ≤ l.length + 1
 | [] => by simp [bV]
 | x :: xs => by
  have ih := yL c xs
  unfold bV
  split
  ·simp; omega
  ·split
   ·rename_i e; rw [e] at ih; simp at ih ⊢; omega
   ·simp
theorem oz {c : Nat} : ∀ {y l : List Nat} {a : Nat}, l ∈ bV c y → a ∈ l → a ∈ y
 | [], l, a, h, ha => by simp [bV] at h; subst h; simp at ha
 | x :: xs, l, a, h, ha => by
  unfold bV at h
  split at h
  ·rcases List.mem_cons.mp h with rfl | h
   ·simp at ha
   ·exact List.mem_cons_of_mem _ (oz h ha)
  ·split at h
   ·rename_i p ps e
    rcases List.mem_cons.mp h with rfl | h
    ·rcases List.mem_cons.mp ha with rfl | ha
     ·simp
     ·exact List.mem_cons_of_mem _ (oz (y := xs) (l := p) (by rw [e]; simp) ha)
    ·exact List.mem_cons_of_mem _ (oz (y := xs) (l := l) (by rw [e]; simp [h]) ha)
   ·simp at h; subst h; simp at ha; simp [ha]
theorem BA {c : Nat} {b y : List Nat} {a : Nat} (h : a ∈ rp c b y) : a ∈ b ∨ a ∈ y := by
 unfold rp at h
 obtain ⟨x, hx, h⟩ := List.mem_flatMap.mp h
 split at h
 ·exact .inl h
 ·simp at h; subst h; exact .inr hx
theorem str_len (x : Str) : x.length = x.cps.toList.length := by simp [Str.length]
theorem Jt (x : Str) (hx : ∀ c ∈ x.cps.toList, c < 1114112) (hl : x.length ≤ 100000) (G : DH) : lq [.str x] G = .ok (.con ((bY [] x.cps.toList).map fun w => .str (av w))) G := by
 have s1 : (Txt.replace x "\n" " ").cps.toList = rp 10 [32] x.cps.toList := kO x " " 10
 have s2 : (Txt.replace (Txt.replace x "\n" " ") "(" " ( ").cps.toList = rp 40 [32, 40, 32] (rp 10 [32] x.cps.toList) := by rw [← s1]; exact kO _ " ( " 40
 have s3 : (Txt.replace (Txt.replace (Txt.replace x "\n" " ") "(" " ( ") ")" " ) ").cps.toList = A4 x.cps.toList := by unfold A4; rw [← s2]; exact kO _ " ) " 41
 have l1 : (Txt.replace x "\n" " ").length ≤ 1 * x.length := by rw [str_len, str_len, s1]; exact yc 10 1 _ (by decide) (by decide) _
 have l2 : (Txt.replace (Txt.replace x "\n" " ") "(" " ( ").length ≤ 3 * (Txt.replace x "\n" " ").length := by rw [str_len, str_len, s2, s1]; exact yc 40 3 _ (by decide) (by decide) _
 have l3 : (Txt.replace (Txt.replace (Txt.replace x "\n" " ") "(" " ( ") ")" " ) ").length ≤ 3 * (Txt.replace (Txt.replace x "\n" " ") "(" " ( ").length := by rw [str_len, str_len, s3, s2]; unfold A4; exact yc 41 3 _ (by decide) (by decide) _
 have r1 := Ft (G := G) (y := "\n") (z := " ") (x := x) (by decide +kernel) (by omega) (by decide +kernel)
 have r2 := Ft (G := G) (y := "(") (z := " ( ") (x := Txt.replace x "\n" " ") (by decide +kernel) (by omega) (by decide +kernel)
 have r3 := Ft (G := G) (y := ")") (z := " ) ") (x := Txt.replace (Txt.replace x "\n" " ") "(" " ( ") (by decide +kernel) (by omega) (by decide +kernel)
 have FZ : Txt.split (Txt.replace (Txt.replace (Txt.replace x "\n" " ") "(" " ( ") ")" " ) ") " " = (bV 32 (A4 x.cps.toList)).map av := by rw [← s3]; exact IT _ 32
 have l3' : (Txt.replace (Txt.replace (Txt.replace x "\n" " ") "(" " ( ") ")" " ) ").length ≤ 900000 := by omega
 have hsl : (bV 32 (A4 x.cps.toList)).length ≤ 900001 := by
  have := yL 32 (A4 x.cps.toList)
  rw [← s3, ← str_len] at this
  rw [← s3]; omega
 generalize Txt.replace (Txt.replace (Txt.replace x "\n" " ") "(" " ( ") ")" " ) " = x3 at r3 FZ l3'
 generalize Txt.replace (Txt.replace x "\n" " ") "(" " ( " = x2 at r2 r3
 generalize Txt.replace x "\n" " " = x1 at r1 r2
 have hmem : ∀ l ∈ bV 32 (A4 x.cps.toList), PyData.strOk (av l) = true := fun l hl => rN fun a ha => by
  have := oz hl ha
  rcases BA this with h | h
  ·simp at h; omega
  ·rcases BA h with h | h
   ·simp at h; omega
   ·rcases BA h with h | h
    ·simp at h; omega
    ·exact hx a h
 have hw := wl x.cps.toList [] (by simp)
 rw [List.nil_append] at hw
 generalize bV 32 (A4 x.cps.toList) = ps at FZ hsl hmem hw
 have hc1 : bx ((ps.map av).map D.str) = true := dB fun _ => aN
 have hz : (ps.map av).length ≤ sizeLine := by rw [List.length_map]; exact lz (by omega)
 have f1 : (bQ ((ps.map av).map D.str) G).fw G = .ok (.con ((ps.map av).map D.str)) G := eG (by simpa using hz) hc1
 have hc := fJ (gO := oN) (ks := []) (tt := gn (aC (g7 true) (ai 0) (eC (.str "")))) (te := ai 0) (own := fun l => [D.str (av l)]) (dat := fun l => D.str (av l)) (f := fun l => D.str (av l)) (c := fun l => !l.isEmpty) (G := G) (τ := [some (.str x), some (.str x3)]) ps [] (by simp; omega) (fun _ _ => rfl) (fun l hl acc => by
   have e := gb true (av l) "" (G ++ [.lst acc]) (hmem l hl) (by decide +kernel)
   have e2 : (av l == ("" : Str)) = l.isEmpty := by
    cases l with
    | nil => decide +kernel
    | cons a r =>
     cases e : (av (a :: r) == ("" : Str)) with
     | false => rfl
     | true =>
      rw [beq_iff_eq] at e
      have := congrArg (fun s : Str => s.cps.toList) e
      simp only [gU] at this
      cases this
   rw [e2] at e
   simp! [mask, e]) (fun l hl acc => by simp! [mask])
 rw [hw, List.nil_append] at hc
 have hc2 : bx ((bY [] x.cps.toList).map fun w => D.str (av w)) = true := dB fun _ => aN
 have hfm : (ps.map av).map D.str = ps.map fun l => D.str (av l) := by rw [List.map_map]; rfl
 rw [hfm] at f1
 have f2 : (bQ (ps.map (D.str ∘ av)) G).fw G = .ok (.con (ps.map fun l => D.str (av l))) G := f1
 have hsz : x3.length + 2 ≤ sizeLine := lz (by omega)
 have hy : ¬ (" " : Str).length = 0 := by decide +kernel
 unfold lq
 refine bK ?_ (by rw [nH]; exact hc2)
 simp! [nI, r1, r2, r3, xQ, hsz, hy, FZ, f2, dQ, hc, mD hc2]
theorem Ju (g : Bool) (a b : Str) (G : DH) (ha : PyData.strOk a = true) (hb : PyData.strOk b = true) : g7 g (.con [.str a]) (.con [.str b]) G = .ok (.bl (g ^^ (a == b))) G := by
 simp [g7, BU, oV, deep, fT, PyData.canLay0, PyData.canLayAll0, PyData.depth, PyData.depthAll, PyData.eqv, PyData.eqvAll, ha, hb]
mutual
theorem lR : ∀ (l : Lk), l.D.closed = true
 | .any => by simp [Lk.D, D.closed, bI, cy, aN]
 | .mark => by simp [Lk.D, D.closed, bI, cy, aN]
 | .kind nm => by simp [Lk.D, D.closed, bI, cy, aN]
 | .not l => by simp [Lk.D, D.closed, bI, cy, aN, lR l]
 | .bin e l r => by simp [Lk.D, D.closed, bI, cy, aN, lR l, lR r]
 | .way w => by simp [Lk.D, D.closed, bI, cy, aN, Jv w]
theorem Jv : ∀ (w : Wy), bx w.Ds = true
 | .nil => by simp [Wy.Ds, cy]
 | .cons g l w => by
  rw [Wy.Ds, bI, Jv w]
  simp [D.closed, bI, cy, aN, lR l]
end
theorem ED (g : Nat) : PyData.strOk (av (jb g)) = true := rN (EA g)
theorem jt (e : Bool) : PyData.strOk (av (dU e)) = true := rN (By e)
theorem sV : PyData.strOk (av uF) = true := by decide +kernel
theorem xm : PyData.strOk (av markL) = true := by decide +kernel
theorem ju : PyData.strOk (av gF) = true := by decide +kernel
theorem jL : PyData.strOk (av ef) = true := by decide +kernel
theorem qp : PyData.strOk (av fk) = true := by decide +kernel
mutual
theorem C8 : ∀ (l : Lk), l.Ok → l.D.plain = true
 | .any, _ => by simp [Lk.D, D.plain, fC, sV]
 | .mark, _ => by simp [Lk.D, D.plain, fC, xm]
 | .kind nm, h => by rw [Lk.Ok] at h; simp [Lk.D, D.plain, fC, ju, h.gd]
 | .not l, h => by rw [Lk.Ok] at h; simp [Lk.D, D.plain, fC, jL, C8 l h]
 | .bin e l r, h => by rw [Lk.Ok] at h; simp [Lk.D, D.plain, fC, jt, C8 l h.1, C8 r h.2]
 | .way w, h => by rw [Lk.Ok] at h; simp [Lk.D, D.plain, fC, qp, Jw w h]
theorem Jw : ∀ (w : Wy), w.Ok → fC w.Ds = true
 | .nil, _ => by simp [Wy.Ds, fC]
 | .cons g l w, h => by
  rw [Wy.Ok] at h
  simp [Wy.Ds, fC, D.plain, ED, C8 l h.1, Jw w h.2]
end
mutual
theorem C9 : ∀ (l : Lk), l.D.dp ≤ 4 * l.sz
 | .any => by simp [Lk.D, D.dp, zY, Lk.sz]
 | .mark => by simp [Lk.D, D.dp, zY, Lk.sz]
 | .kind nm => by simp [Lk.D, D.dp, zY, Lk.sz]
 | .not l => by have := C9 l; simp only [Lk.D, D.dp, zY, Lk.sz]; omega
 | .bin e l r => by have := C9 l; have := C9 r; simp only [Lk.D, D.dp, zY, Lk.sz]; omega
 | .way w => by have := Jx w; simp only [Lk.D, D.dp, zY, Lk.sz]; omega
theorem Jx : ∀ (w : Wy), zY w.Ds ≤ 4 * w.sz + 1
 | .nil => by simp [Wy.Ds, zY]
 | .cons g l w => by have := C9 l; have := Jx w; simp only [Wy.Ds, D.dp, zY, Wy.sz]; omega
end
noncomputable def Lk.V : Lk → L3.D
 | .any => .str (av uF)
 | .way w => .tup [.str (av fk), .tup w.Ds]
 | l => .tup [.str "look", l.D]
theorem R6 (l : Lk) : l.V.closed = true := by
 cases l <;> simp [Lk.V, D.closed, bI, cy, aN, lR, Jv]
theorem Jy (g : Bool) (ds : List D) (s : Str) (G : DH) (h : fC ds = true) (hn : zY ds ≤ 570) (hs : PyData.strOk s = true) : g7 g (.tup ds) (.str s) G = .ok (.bl (g ^^ false)) G := by
 have hp : (D.tup ds).plain = true := by rw [D.plain]; exact h
 have hd := IZ (.tup ds)
 have SX : (D.tup ds).dp ≤ 580 := by rw [D.dp]; omega
 unfold g7 BU
 rw [A0 G (.tup ds) deep hp (by show (D.tup ds).dp < 600; omega), A0 G (.str s) deep (by rw [D.plain]; exact hs) (by show (D.str s).dp < 600; simp [D.dp])]
 dsimp only
 rw [if_pos (by rw [lay_of _ hp, lay_of (.str s) (by rw [D.plain]; exact hs)]; simp; omega)]
 simp [D.pd, PyData.eqv]
theorem oA (d : D) (hp : d.plain = true) (hd : d.dp ≤ 500) (hc : d.closed = true) (G : DH) : fE [.tup [.str "look", d]] G = .ok d G := by
 have Ht : fC [D.str "look", d] = true := by simp [fC, D.plain, hp]; decide +kernel
 have hd' : zY [D.str "look", d] ≤ 570 := by simp only [zY, D.dp]; omega
 have e := Jy false [D.str "look", d] "any" G Ht hd' (by decide +kernel)
 have e2 := gb false "look" "way" G (by decide +kernel) (by decide +kernel)
 rw [show (("look" : Str) == ("way" : Str)) = false by decide +kernel] at e2
 have e3 := yK "look" (by decide +kernel) d hc G
 unfold fE
 refine bK ?_ hc
 simp! [kQ, e, yH, e2, e3]
theorem oB {l : Lk} (h : l.Ok) (hk : l.Nk) (hsz : l.sz ≤ 120) (G : DH) : fE [l.V] G = .ok l.D G := by
 have hl := C9 l
 have hp := C8 l h
 have z1 : (1 : Nat) ≤ sizeLine := lz (by omega)
 have z2 : (2 : Nat) ≤ sizeLine := lz (by omega)
 cases l with
 | any =>
  unfold fE
  refine bK ?_ (lR _)
  have e := gb false (av uF) "any" G sV (by decide +kernel)
  rw [show (av uF == ("any" : Str)) = true by decide +kernel] at e
  simp! [kQ, Lk.V, e, z1, Lk.D]
  rfl
 | mark => exact hk.elim
 | way w =>
  unfold fE
  refine bK ?_ (lR _)
  rw [Lk.D] at hp hl
  have Ht : fC [D.str (av fk), .tup w.Ds] = true := by rw [D.plain] at hp; exact hp
  have hd' : zY [D.str (av fk), .tup w.Ds] ≤ 570 := by rw [D.dp] at hl; omega
  have e := Jy false [D.str (av fk), .tup w.Ds] "any" G Ht hd' (by decide +kernel)
  have e2 := gb false (av fk) "way" G qp (by decide +kernel)
  rw [show (av fk == ("way" : Str)) = true by decide +kernel] at e2
  simp! [kQ, Lk.V, e, yH, Fz, e2, z2, Lk.D]
  rfl
 | kind nm => exact oA _ hp (by omega) (lR _) G
 | not l => exact oA _ hp (by omega) (lR _) G
 | bin e l r => exact oA _ hp (by omega) (lR _) G
theorem Oq (g : Nat) (G : DH) : uK false (.str (av (jb g))) sf G = .ok (.bl true) G := by
 have hk := mU (av (jb g)) ["down", "deep", "later"] G (ED g) (by decide +kernel)
 have ha : (["down", "deep", "later"] : List Str).any (· == av (jb g)) = true := by
  unfold jb
  split
  ·decide +kernel
  ·split <;> decide +kernel
 rw [ha] at hk
 simp only [List.map_cons, List.map_nil] at hk
 simp [uK, sf, bE, hk]
theorem Dc (s : Str) (h : PyData.strOk s = true) (hn : (["down", "deep", "later"] : List Str).any (· == s) = false) (G : DH) : uK false (.str s) sf G = .ok (.bl false) G := by
 have hk := mU s ["down", "deep", "later"] G h (by decide +kernel)
 rw [hn] at hk
 simp only [List.map_cons, List.map_nil] at hk
 simp [uK, sf, bE, hk]
theorem Ls (e : Bool) (G : DH) : uK false (.str (av (dU e))) (.tup [.str "both", .str "either"]) G = .ok (.bl true) G := by
 have hk := mU (av (dU e)) ["both", "either"] G (jt e) (by decide +kernel)
 have ha : (["both", "either"] : List Str).any (· == av (dU e)) = true := by cases e <;> decide +kernel
 rw [ha] at hk
 simp only [List.map_cons, List.map_nil] at hk
 simp [uK, bE, hk]
section
variable (G : DH)
theorem FD (s : Str) (hs : PyData.strOk s = true) (hne : (s == ("way" : Str)) = false) : g7 false (.con [.str s]) (.con [.str "way"]) G = .ok (.bl false) G := by
 have := Ju false s "way" G hs (by decide +kernel)
 rw [hne] at this
 exact this
theorem De (s : Str) : (bQ [.str s] G).fw G = .ok (.con [.str s]) G := eG (by simpa using (lz (by omega) : (1 : Nat) ≤ sizeLine)) rfl
end
theorem Lu {nm : List Nat} (h : Nm nm) (G : DH) : aJ [.con [.str (av gF), .str (av nm)]] G = .ok (Lk.kind nm).V G := by
 have z2 : (2 : Nat) ≤ sizeLine := lz (by omega)
 have q := FD G (av gF) ju (by decide +kernel)
 have f := De G
 have c1 : cutD [D.str (av gF), .str (av nm)] none (some 1) = [.str (av gF)] := Js _ _
 have e1 := Dc (av gF) ju (by decide +kernel) G
 have e2 := gb false (av gF) "kind" G ju (by decide +kernel)
 rw [show (av gF == ("kind" : Str)) = true by decide +kernel] at e2
 have e3 := EC h G
 have lv : eN [.con [.str (av gF), .str (av nm)]] G = .ok (Lk.kind nm).D G := by
  unfold eN
  refine bK ?_ (lR _)
  simp! [ia, z2, cW, yH, Fz, e2, e3, Lk.D]
  rfl
 unfold aJ
 refine bK ?_ (R6 _)
 simp! [eX, yS, dQ, c1, f, q, z2, cW, yH, e1, lv, Lk.V]
theorem Ot {l : Lk} (h : l.Ok) (hk : l.Nk) (hsz : l.sz ≤ 120) (G : DH) : aJ [.con [.str (av ef), l.V]] G = .ok (Lk.not l).V G := by
 have z2 : (2 : Nat) ≤ sizeLine := lz (by omega)
 have q := FD G (av ef) jL (by decide +kernel)
 have f := De G
 have c1 : cutD [D.str (av ef), l.V] none (some 1) = [.str (av ef)] := Js _ _
 have e1 := Dc (av ef) jL (by decide +kernel) G
 have e0 := gb false (av ef) "kind" G jL (by decide +kernel)
 rw [show (av ef == ("kind" : Str)) = false by decide +kernel] at e0
 have e2 := gb false (av ef) "not" G jL (by decide +kernel)
 rw [show (av ef == ("not" : Str)) = true by decide +kernel] at e2
 have e3 := oB h hk hsz G
 generalize l.V = v at c1 e3
 have lv : eN [.con [.str (av ef), v]] G = .ok (Lk.not l).D G := by
  unfold eN
  refine bK ?_ (lR _)
  simp! [ia, z2, cW, yH, Fz, e0, e2, e3, Lk.D]
  rfl
 unfold aJ
 refine bK ?_ (R6 _)
 simp! [eX, yS, dQ, c1, f, q, z2, cW, yH, e1, lv, Lk.V]
theorem Ou (e : Bool) {l r : Lk} (h : l.Ok ∧ r.Ok) (hk : l.Nk ∧ r.Nk) (hsz : l.sz ≤ 120 ∧ r.sz ≤ 120) (G : DH) : aJ [.con [.str (av (dU e)), l.V, r.V]] G = .ok (Lk.bin e l r).V G := by
 have z2 : (2 : Nat) ≤ sizeLine := lz (by omega)
 have z3 : (3 : Nat) ≤ sizeLine := lz (by omega)
 have q := FD G (av (dU e)) (jt e) (by cases e <;> decide +kernel)
 have f := De G
 have c1 : cutD [D.str (av (dU e)), l.V, r.V] none (some 1) = [.str (av (dU e))] := Js _ _
 have e1 := Ls e G
 have e3 := oB h.1 hk.1 hsz.1 G
 have e4 := oB h.2 hk.2 hsz.2 G
 generalize l.V = v at c1 e3
 generalize r.V = u at c1 e4
 have lv : eN [.con [.str (av (dU e)), v, u]] G = .ok (Lk.bin e l r).D G := by
  unfold eN
  refine bK ?_ (lR _)
  simp! [ia, z2, z3, cW, SW, a31, a32, e1, e3, e4, Lk.D]
 unfold aJ
 refine bK ?_ (R6 _)
 simp! [eX, yS, dQ, c1, f, q, z2, z3, cW, lv, Lk.V]
noncomputable def Df (g : Nat) (l : Lk) : D := .tup [.str "step", .tup [.str (av (jb g)), l.D]]
theorem Lv (g : Nat) {l : Lk} (h : l.Ok) (hk : l.Nk) (hsz : l.sz ≤ 120) (G : DH) : aJ [.con [.str (av (jb g)), l.V]] G = .ok (Df g l) G := by
 have z2 : (2 : Nat) ≤ sizeLine := lz (by omega)
 have q := FD G (av (jb g)) (ED g) (by
  unfold jb
  split
  ·decide +kernel
  ·split <;> decide +kernel)
 have f := De G
 have c1 : cutD [D.str (av (jb g)), l.V] none (some 1) = [.str (av (jb g))] := Js _ _
 have e1 := Oq g G
 have e3 := oB h hk hsz G
 generalize l.V = v at c1 e3
 unfold aJ
 refine bK ?_ (by simp [Df, D.closed, bI, cy, aN, lR])
 simp! [eX, yS, dQ, c1, f, q, z2, cW, yH, Fz, e1, e3, Df]
noncomputable def Wy.Vs : Wy → List L3.D
 | .nil => []
 | .cons g l w => Df g l :: w.Vs
theorem BB : ∀ w : Wy, w.Vs = w.Ds.map fun v => .tup [.str "step", v]
 | .nil => rfl
 | .cons g l w => by rw [Wy.Vs, BB w, Wy.Ds]; rfl
theorem EF : ∀ w : Wy, w.Ds.length ≤ w.sz
 | .nil => by simp [Wy.Ds]
 | .cons g l w => by
  have := EF w
  have : 1 ≤ l.sz := by cases l <;> simp [Lk.sz]
  simp only [Wy.Ds, Wy.sz, List.length_cons]; omega
theorem Ov : ∀ w : Wy, ∀ v ∈ w.Ds, v.closed = true
 | .nil, v, hv => by simp [Wy.Ds] at hv
 | .cons g l w, v, hv => by
  rw [Wy.Ds] at hv
  rcases List.mem_cons.mp hv with rfl | hv
  ·simp [D.closed, bI, cy, aN, lR]
  ·exact Ov w v hv
theorem Ow {w : Wy} (hn : w ≠ .nil) (hsz : w.sz ≤ 1000) (G : DH) : aJ [.con (.str (av fk) :: w.Vs)] G = .ok (Lk.way w).V G := by
 have hl := EF w
 have z2 : (2 : Nat) ≤ sizeLine := lz (by omega)
 have q := Ju false (av fk) "way" G qp (by decide +kernel)
 rw [show (av fk == ("way" : Str)) = true by decide +kernel] at q
 have f := De G
 have c1 : cutD (D.str (av fk) :: w.Vs) none (some 1) = [.str (av fk)] := Js _ _
 have c2 : cutD (D.str (av fk) :: w.Vs) (some 1) none = w.Vs := VP 1 [.str (av fk)] w.Vs rfl
 have e3 := G6 "step" (by decide +kernel) w.Ds (Ov w) (by omega) G
 rw [← BB] at e3
 have hvl : w.Vs.length = w.Ds.length := by rw [BB]; simp
 have hcl : bx w.Vs = true := by
  rw [BB]
  refine nG fun x hx => ?_
  obtain ⟨v, hv, rfl⟩ := List.mem_map.mp hx
  simp [D.closed, bI, cy, aN, Ov w v hv]
 have hz : w.Ds.length + 1 ≤ sizeLine := lz (by omega)
 have f2 : (bQ w.Vs G).fw G = .ok (.con w.Vs) G := eG (by rw [hvl]; exact lz (by omega)) hcl
 have hpos : 0 < w.Ds.length := by cases w with
  | nil => exact absurd rfl hn
  | cons g l w => simp [Wy.Ds]
 have h2 : ¬ w.Ds.length + 1 < 2 := by omega
 have h2I : ¬ ((w.Ds.length : Int) + 1 < 2) := by omega
 have hlen : (D.str (av fk) :: w.Vs).length = w.Ds.length + 1 := by simp [hvl]
 generalize hps : D.str (av fk) :: w.Vs = ps at c1 c2 hlen
 have wv : jZ [.con ps] G = .ok (.tup w.Ds) G := by
  unfold jZ
  refine bK ?_ (by rw [D.closed]; exact Jv w)
  simp! [lW, hlen, hz, J0, h2, h2I, yS, c2, dQ, f2, e3]
 unfold aJ
 refine bK ?_ (R6 _)
 simp! [eX, yS, dQ, c1, f, q, wv, z2, Lk.V]
 rfl
end K14
end
section
set_option Elab.async false
set_option linter.all false
set_option maxRecDepth 100000
set_option maxHeartbeats 1000000
namespace K14
open PySem PySem.Spec L2 L3
noncomputable def Fr (G : DH) : List Nat → List (List D) → Prop
 | [], [] => True
 | o :: os, ds :: sk => G[o]? = some (.lst ds) ∧ Fr G os sk
 | _, _ => False
theorem Fr.mono {G G' : DH} : ∀ {os : List Nat} {sk : List (List D)}, (∀ o ∈ os, ∀ x, G[o]? = some x → G'[o]? = some x) → Fr G os sk → Fr G' os sk
 | [], [], _, _ => trivial
 | o :: os, ps :: sk, hg, ⟨e, f⟩ => ⟨hg o (by simp) _ e, Fr.mono (fun o ho => hg o (by simp [ho])) f⟩
 | [], _ :: _, _, f => f.elim
 | _ :: _, [], _, f => f.elim
theorem Fr.len {G : DH} : ∀ {os : List Nat} {sk : List (List D)}, Fr G os sk → os.length = sk.length
 | [], [], _ => rfl
 | o :: os, ps :: sk, ⟨e, f⟩ => congrArg (· + 1) (Fr.len f)
 | [], _ :: _, f => f.elim
 | _ :: _, [], f => f.elim
structure St (G0 G : DH) (u : Nat) (ok : List Nat) (sk : List (List D)) : Prop where
 pre : ∃ X, G = G0 ++ X
 hu : G[u]? = some (.lst (ok.reverse.map .obj))
 fr : Fr G ok sk
 nd : ok.Nodup
 nu : u ∉ ok
 ge : G0.length ≤ u ∧ ∀ o ∈ ok, G0.length ≤ o
theorem xo {G0 G : DH} (h : ∃ X, G = G0 ++ X) {i : Nat} (hi : G0.length ≤ i) (x : DO) : ∃ X, G.set i x = G0 ++ X := by
 obtain ⟨X, rfl⟩ := h
 exact ⟨_, List.set_append_right _ _ hi⟩
theorem pre_app {G0 G : DH} (h : ∃ X, G = G0 ++ X) (E : DH) : ∃ X, G ++ E = G0 ++ X := by
 obtain ⟨X, rfl⟩ := h
 exact ⟨X ++ E, by simp⟩
theorem get_set {G : DH} {i j : Nat} {x y : DO} (h : G[j]? = some y) (hn : i ≠ j) : (G.set i x)[j]? = some y := by rw [List.getElem?_set_ne hn]; exact h
theorem BC {G : DH} {i : Nat} {x y : DO} (h : G[i]? = some y) : (G.set i x)[i]? = some x := by
 have := (List.getElem?_eq_some_iff.mp h).1
 rw [List.getElem?_set, if_pos rfl, if_pos this]
theorem Ao {G : DH} {i : Nat} {y : DO} (h : G[i]? = some y) : i < G.length := (List.getElem?_eq_some_iff.mp h).1
variable {G0 G : DH} {u : Nat} {ok : List Nat} {sk : List (List D)}
theorem Me : ∀ {ok : List Nat} {sk : List (List D)}, Fr G ok sk → ∀ o ∈ ok, o < G.length
 | [], [], _, o, ho => by simp at ho
 | p :: os, ps :: sk, ⟨e, f⟩, o, ho => by
  rcases List.mem_cons.mp ho with rfl | ho
  ·exact Ao e
  ·exact Me f o ho
 | [], _ :: _, f, _, _ => f.elim
 | _ :: _, [], f, _, _ => f.elim
theorem St.push (s : St G0 G u ok sk) : St G0 ((G ++ [DO.lst []]).set u (DO.lst ((G.length :: ok).reverse.map D.obj))) u (G.length :: ok) ([] :: sk) := by
 have lu := Ao s.hu
 have hlt := Me s.fr
 have hG0 : G0.length ≤ G.length := by obtain ⟨X, rfl⟩ := s.pre; simp
 have nn : G.length ∉ ok := fun h => absurd (hlt _ h) (Nat.lt_irrefl _)
 refine ⟨xo (pre_app s.pre _) s.ge.1 _, BC (u6 s.hu), ⟨get_set (zb _ _ _) (by omega), s.fr.mono fun o ho x e => get_set (u6 e) fun z => s.nu (z ▸ ho)⟩, List.nodup_cons.mpr ⟨nn, s.nd⟩, ?_, s.ge.1, ?_⟩
 ·intro h; rcases List.mem_cons.mp h with h | h
  ·omega
  ·exact s.nu h
 ·intro o ho
  rcases List.mem_cons.mp ho with rfl | ho
  ·exact hG0
  ·exact s.ge.2 o ho
theorem St.add {o : Nat} {d : D} {ds : List D} (s : St G0 G u (o :: ok) (ds :: sk)) : St G0 (G.set o (.lst (ds ++ [d]))) u (o :: ok) ((ds ++ [d]) :: sk) := by
 have nd := List.nodup_cons.mp s.nd
 have no : u ≠ o := fun z => s.nu (by simp [z])
 exact ⟨xo s.pre (s.ge.2 o (by simp)) _, get_set s.hu no.symm, ⟨BC s.fr.1, s.fr.2.mono fun q hq x e => get_set e fun z => nd.1 (z ▸ hq)⟩, s.nd, s.nu, s.ge⟩
theorem St.pop {o : Nat} {ds : List D} (s : St G0 G u (o :: ok) (ds :: sk)) : St G0 (G.set u (.lst (ok.reverse.map .obj))) u ok sk := by
 have nd := List.nodup_cons.mp s.nd
 exact ⟨xo s.pre s.ge.1 _, BC s.hu, s.fr.2.mono fun q hq x e => get_set e fun z => s.nu (by simp [z, hq]), nd.2, fun h => s.nu (by simp [h]), s.ge.1, fun q hq => s.ge.2 q (by simp [hq])⟩
theorem St.die {o : Nat} (s : St G0 G u ok sk) (h0 : G0.length ≤ o) (hu : u ≠ o) (ho : o ∉ ok) : St G0 (G.set o .dead) u ok sk :=
 ⟨xo s.pre h0 _, get_set s.hu hu.symm, s.fr.mono fun q hq x e => get_set e fun z => ho (z ▸ hq), s.nd, s.nu, s.ge⟩
theorem FE {α : Type} (xs : List α) (x : α) : j8 (xs ++ [x]) (-1) = some x := by
 unfold j8 LR
 rw [if_neg (by omega), if_pos (by simp; omega)]
 show (xs ++ [x])[(-1 + ((xs ++ [x]).length : Int)).toNat]? = some x
 rw [show (-1 + ((xs ++ [x]).length : Int)).toNat = xs.length by simp; omega]
 simp
structure Wo (w : List Nat) : Prop where
 ok : PyData.strOk (av w) = true
 o : (av w == ("(" : Str)) = false
 s : (av w == (")" : Str)) = false
theorem G7 (s : St G0 G u ok sk) (hlen : ok.length ≤ 100000) (t f b4 : Option D) :
  dD [t, f, some (.obj u), some (.str (av [40])), b4] G = .nx [t, f, some (.obj u), some (.str (av [40])), b4] ((G ++ [DO.lst []]).set u (DO.lst ((G.length :: ok).reverse.map D.obj))) := by
 have e := gb false (av [40]) "(" G (by decide +kernel) (by decide +kernel)
 rw [show (av [40] == ("(" : Str)) = true by decide +kernel] at e
 have hz : ok.length < sizeLine := Nat.lt_of_lt_of_le (by omega) (lz (n := 100001) (by omega))
 have hu' : (G ++ [DO.lst []])[u]? = some (.lst (ok.reverse.map .obj)) := u6 s.hu
 have hu := s.hu
 simp! [dD, e, hu, hu', hz, bQ]
theorem G8 {w : List Nat} (hw : Wo w) {o : Nat} {ds : List D} (s : St G0 G u (o :: ok) (ds :: sk)) (hl : ds.length ≤ 100000) (t f b4 : Option D) :
  dD [t, f, some (.obj u), some (.str (av w)), b4] G = .nx [t, f, some (.obj u), some (.str (av w)), b4] (G.set o (.lst (ds ++ [.str (av w)]))) := by
 have e := gb false (av w) "(" G hw.ok (by decide +kernel)
 have e1 := gb false (av w) ")" G hw.ok (by decide +kernel)
 rw [hw.o] at e
 rw [hw.s] at e1
 have hz : ds.length < sizeLine := Nat.lt_of_lt_of_le (by omega) (lz (n := 100001) (by omega))
 have hu := s.hu
 have hd := s.fr.1
 simp only [List.reverse_cons, List.map_append, List.map_cons, List.map_nil] at hu
 simp! [dD, e, e1, hu, FE, hd, hz]
theorem Lw : List.lookup ("make_in_way" : Str) [("make_in_way", aJ), ("look_parts", cP)] = some aJ := by
 have h : (("make_in_way" : Str) == "look_parts") = false := by decide +kernel
 simp only [List.lookup, h, beq_self_eq_true]
noncomputable def Mk (p : List D) (v : D) : Prop := ∀ G, aJ [.con p] G = .ok v G
theorem G9 {o o2 : Nat} {ds BK : List D} {v : D} (hm : Mk ds v) (s : St G0 G u (o :: o2 :: ok) (ds :: BK :: sk)) (hl : BK.length ≤ 100000) (t b4 : Option D) :
  ∃ G', dD [t, some (.fn "make_in_way"), some (.obj u), some (.str (av [41])), b4] G = .nx [t, some (.fn "make_in_way"), some (.obj u), some (.str (av [41])), some (.obj o)] G' ∧ St G0 G' u (o2 :: ok) ((BK ++ [v]) :: sk) := by
 have e := gb false (av [41]) "(" G (by decide +kernel) (by decide +kernel)
 have e1 := gb false (av [41]) ")" G (by decide +kernel) (by decide +kernel)
 rw [show (av [41] == ("(" : Str)) = false by decide +kernel] at e
 rw [show (av [41] == (")" : Str)) = true by decide +kernel] at e1
 have nd := List.nodup_cons.mp s.nd
 have no : u ≠ o := fun z => s.nu (by simp [z])
 have no2 : o ≠ o2 := fun z => nd.1 (by simp [z])
 have sp := s.pop
 have sd := sp.die (s.ge.2 o (by simp)) no nd.1
 have sa := sd.add (d := v)
 refine ⟨_, ?_, sa⟩
 have hz : BK.length < sizeLine := Nat.lt_of_lt_of_le (by omega) (lz (n := 100001) (by omega))
 have hu := s.hu
 have OT := sp.hu
 have hd' : (G.set u (.lst ((o2 :: ok).reverse.map .obj)))[o]? = some (.lst ds) := get_set s.fr.1 no
 have hd2 := sp.fr.1
 have XC := sd.fr.1
 have hm' := hm ((G.set u (.lst ((o2 :: ok).reverse.map .obj))).set o .dead)
 generalize XE : G.set u (.lst ((o2 :: ok).reverse.map .obj)) = G1 at sp OT hd' hd2 XC hm'
 simp only [List.reverse_cons, List.map_append, List.map_cons, List.map_nil] at OT XE hu
 have hne : ((ok.length : Int) + 1 == 0) = false := by simp; omega
 have hdl : (((ok.reverse.map D.obj) ++ [D.obj o2]) ++ [D.obj o]).dropLast = (ok.reverse.map D.obj) ++ [D.obj o2] := List.dropLast_concat
 have hix : (((ok.reverse.map D.obj) ++ [D.obj o2]) ++ [D.obj o])[(((ok.reverse.map D.obj) ++ [D.obj o2]) ++ [D.obj o]).length - 1]? = some (D.obj o) := by simp
 have ep : (bT 4 (ck "list" rV (ai 2) aq)) [t, some (.fn "make_in_way"), some (.obj u), some (.str (av [41])), b4] G = .nx [t, some (.fn "make_in_way"), some (.obj u), some (.str (av [41])), some (.obj o)] G1 := by
  simp only [kg, jV, iR, List.getElem?_cons_succ, List.getElem?_cons_zero, iD, iE, hu, iS, rV, hix, hdl, beq_self_eq_true, if_true, oH, List.set_cons_succ, List.set_cons_zero, XE]
 have ei : (jw (gn (aC (g7 false) (aA g8 (af (ai 2) (aq))) (eC (.int 0)))) (kW "NoText" (af (eC (.str "a bracket is shut that was never begun")) (aq))) (bJ)) [t, some (.fn "make_in_way"), some (.obj u), some (.str (av [41])), some (.obj o)] G1 = .nx [t, some (.fn "make_in_way"), some (.obj u), some (.str (av [41])), some (.obj o)] G1 := by
  simp! [OT, cW, hne]
 have R7 : (Out.ok (D.obj o) G1).fz = .ok (.con ds) (G1.set o .dead) := by simp only [Out.fz, hd']
 simp only [dD, rC, Cj, pN, iR, r9, List.getElem?_cons_succ, List.getElem?_cons_zero, iD, bR, e, e1, xU, zc, GH, Bool.false_xor]
 rw [oJ, cZ, ep, gg, cZ, ei, gg]
 simp! [OT, FE, hd2, R7, hm', XC, hz, Lw]
inductive Rd : List (List D) → List (List Nat) → List (List D) → Prop
 | nil (fs) : Rd fs [] fs
 | op {fs ws fs'} : Rd ([] :: fs) ws fs' → Rd fs ([40] :: ws) fs'
 | wd {w p r ws fs'} : Wo w → Rd ((p ++ [.str (av w)]) :: r) ws fs' → Rd (p :: r) (w :: ws) fs'
 | sh {p v q r ws fs'} : Mk p v → Rd ((q ++ [v]) :: r) ws fs' → Rd (p :: q :: r) ([41] :: ws) fs'
theorem Lx {G0 : DH} {u : Nat} {t : Option D} {fs : List (List D)} {ws : List (List Nat)} {fs' : List (List D)} (h : Rd fs ws fs') : ∀ (G : DH) (ok : List Nat) (b3 b4 : Option D), St G0 G u ok fs → (∀ f ∈ fs, f.length + ws.length ≤ 100000) → fs.length + ws.length ≤ 100000 →
  ∃ G' ok' Mf Mg, fq (gN 3) dD (ws.map fun w => .str (av w)) [t, some (.fn "make_in_way"), some (.obj u), b3, b4] G = .nx [t, some (.fn "make_in_way"), some (.obj u), Mf, Mg] G' ∧ St G0 G' u ok' fs' := by
 induction h with
 | nil fs => exact fun G ok b3 b4 s _ _ => ⟨G, ok, b3, b4, by simp [fq], s⟩
 | @op fs ws fs' h ih =>
  intro G ok b3 b4 s h1 h2
  have hl := s.fr.len
  have e := G7 s (by simp at h2; omega) t (some (.fn "make_in_way")) b4
  obtain ⟨G', ok', Mf, Mg, e', s'⟩ := ih _ _ (some (.str (av [40]))) b4 s.push (fun f hf => by
   rcases List.mem_cons.mp hf with rfl | hf
   ·simp at h2 ⊢; omega
   ·have := h1 f hf
    simp at this; omega) (by simp at h2 ⊢; omega)
  refine ⟨G', ok', Mf, Mg, ?_, s'⟩
  rw [List.map_cons, gG rfl]
  simp only [List.set_cons_succ, List.set_cons_zero, e, mV]
  exact e'
 | @wd w p r ws fs' hw h ih =>
  intro G ok b3 b4 s h1 h2
  match ok, s with
  | o :: ok, s =>
   have hp := h1 p (by simp)
   have e := G8 hw s (by simp at hp; omega) t (some (.fn "make_in_way")) b4
   obtain ⟨G', ok', Mf, Mg, e', s'⟩ := ih _ _ (some (.str (av w))) b4 (s.add (d := .str (av w))) (fun f hf => by
    rcases List.mem_cons.mp hf with rfl | hf
    ·simp at hp ⊢; omega
    ·have := h1 f (by simp [hf])
     simp at this; omega) (by simp at h2 ⊢; omega)
   refine ⟨G', ok', Mf, Mg, ?_, s'⟩
   rw [List.map_cons, gG rfl]
   simp only [List.set_cons_succ, List.set_cons_zero, e, mV]
   exact e'
  | [], s => exact s.fr.elim
 | @sh p v q r ws fs' hm h ih =>
  intro G ok b3 b4 s h1 h2
  match ok, s with
  | o :: o2 :: ok, s =>
   have hq := h1 q (by simp)
   obtain ⟨G1, e, s1⟩ := G9 hm s (by simp at hq; omega) t b4
   obtain ⟨G', ok', Mf, Mg, e', s'⟩ := ih _ _ (some (.str (av [41]))) (some (.obj o)) s1 (fun f hf => by
    rcases List.mem_cons.mp hf with rfl | hf
    ·simp at hq ⊢; omega
    ·have := h1 f (by simp [hf])
     simp at this; omega) (by simp at h2 ⊢; omega)
   refine ⟨G', ok', Mf, Mg, ?_, s'⟩
   rw [List.map_cons, gG rfl]
   simp only [List.set_cons_succ, List.set_cons_zero, e, mV]
   exact e'
  | [_], s => exact s.fr.2.elim
  | [], s => exact s.fr.elim
theorem yM {w : List Nat} (h : Bw w) (hx : ∀ x ∈ w, x < 1114112) : Wo w := by
 refine ⟨rN hx, ?_, ?_⟩
 ·cases e : (av w == ("(" : Str)) with
  | false => rfl
  | true =>
   rw [beq_iff_eq] at e
   have e2 := congrArg (fun s : Str => s.cps.toList) e
   rw [gU] at e2
   have e3 : w = [40] := e2
   exact absurd rfl (h 40 (by simp [e3])).2.2.1
 ·cases e : (av w == (")" : Str)) with
  | false => rfl
  | true =>
   rw [beq_iff_eq] at e
   have e2 := congrArg (fun s : Str => s.cps.toList) e
   rw [gU] at e2
   have e3 : w = [41] := e2
   exact absurd rfl (h 41 (by simp [e3])).2.2.2
theorem Nm.wo {l : List Nat} (h : Nm l) : Wo l := yM h.wd fun x hx => by have := h.az x hx; omega
theorem Ox : Wo uF := yM (by unfold Bw; decide) (by decide)
theorem Ly : Wo gF := yM (by unfold Bw; decide) (by decide)
theorem Oz : Wo ef := yM (by unfold Bw; decide) (by decide)
theorem OA : Wo fk := yM (by unfold Bw; decide) (by decide)
theorem R8 (g : Nat) : Wo (jb g) := yM (Jp g).2 (EA g)
theorem OB (e : Bool) : Wo (dU e) := yM (Ey e).2 (By e)
mutual
theorem Dg : ∀ (l : Lk), l.Ok → l.Nk → l.sz ≤ 120 → ∀ {p : List D} {r ws fs'}, Rd ((p ++ [l.V]) :: r) ws fs' → Rd (p :: r) (l.W ++ ws) fs'
 | .any, _, _, _, p, r, ws, fs', hr => .wd Ox hr
 | .mark, _, hk, _, p, r, ws, fs', hr => hk.elim
 | .kind nm, h, _, _, p, r, ws, fs', hr => by
  rw [Lk.Ok] at h
  exact .op (.wd Ly (.wd h.wo (.sh (v := (Lk.kind nm).V) (Lu h) hr)))
 | .not l, h, hk, hz, p, r, ws, fs', hr => by
  rw [Lk.Ok] at h; rw [Lk.Nk] at hk; rw [Lk.sz] at hz
  have e : (Lk.not l).W ++ ws = [40] :: ef :: (l.W ++ [41] :: ws) := by simp [Lk.W]
  rw [e]
  exact .op (.wd Oz (Dg l h hk (by omega) (.sh (v := (Lk.not l).V) (Ot h hk (by omega)) hr)))
 | .bin b l1 l2, h, hk, hz, p, r, ws, fs', hr => by
  rw [Lk.Ok] at h; rw [Lk.Nk] at hk; rw [Lk.sz] at hz
  have e : (Lk.bin b l1 l2).W ++ ws = [40] :: dU b :: (l1.W ++ (l2.W ++ [41] :: ws)) := by simp [Lk.W]
  rw [e]
  exact .op (.wd (OB b) (Dg l1 h.1 hk.1 (by omega) (Dg l2 h.2 hk.2 (by omega) (.sh (v := (Lk.bin b l1 l2).V) (Ou b h hk ⟨by omega, by omega⟩) hr))))
 | .way w, h, hk, hz, p, r, ws, fs', hr => by
  rw [Lk.Ok] at h; rw [Lk.Nk] at hk; rw [Lk.sz] at hz
  have e : (Lk.way w).W ++ ws = [40] :: fk :: (w.W ++ [41] :: ws) := by simp [Lk.W]
  rw [e]
  exact .op (.wd OA (Mh w h hk.1 (by omega) (.sh (v := (Lk.way w).V) (Ow hk.2 (by omega)) hr)))
theorem Mh : ∀ (w : Wy), w.Ok → w.Nk → w.sz ≤ 120 → ∀ {p : List D} {r ws fs'}, Rd ((p ++ w.Vs) :: r) ws fs' → Rd (p :: r) (w.W ++ ws) fs'
 | .nil, _, _, _, p, r, ws, fs', hr => by simpa [Wy.W, Wy.Vs] using hr
 | .cons g l w, h, hk, hz, p, r, ws, fs', hr => by
  rw [Wy.Ok] at h; rw [Wy.Nk] at hk; rw [Wy.sz] at hz
  have e : (Wy.cons g l w).W ++ ws = [40] :: jb g :: (l.W ++ [41] :: (w.W ++ ws)) := by simp [Wy.W]
  rw [e]
  refine .op (.wd (R8 g) (Dg l h.1 hk.1 (by omega) (.sh (v := Df g l) (Lv g h.1 hk.1 (by omega)) (Mh w h.2 hk.2 (by omega) ?_))))
  simpa [Wy.Vs] using hr
end
theorem EG {w : Wy} (h : w.Ok) (hk : w.Nk) (hn : w ≠ .nil) (hsz : w.sz ≤ 119) (x : Str) (hx : ∀ c ∈ x.cps.toList, c < 1114112) (hl : x.length ≤ 100000) (hw : bY [] x.cps.toList = (Lk.way w).W) (G : DH) : gX [.str x, .fn "make_in_way"] G = .ok (Lk.way w).V G := by
 have ew := Jt x hx hl (G ++ [.lst [], .lst [.obj G.length]])
 rw [hw] at ew
 have hlW := uG (.way w)
 have hz2 : (Lk.way w).sz ≤ 120 := by rw [Lk.sz]; omega
 have s0 : St G (G ++ [.lst [], .lst [.obj G.length]]) (G.length + 1) [G.length] [[]] := by
  refine ⟨⟨_, rfl⟩, ?_, ⟨zb _ _ _, trivial⟩, by simp, by simp, by omega, by simp⟩
  exact J2 _ _ _ _
 have hrd : Rd [[]] (Lk.way w).W [[(Lk.way w).V]] := by
  have := Dg (.way w) (by rw [Lk.Ok]; exact h) (by rw [Lk.Nk]; exact ⟨hk, hn⟩) hz2 (p := []) (r := []) (ws := []) (Rd.nil [[(Lk.way w).V]])
  rwa [List.append_nil] at this
 obtain ⟨G', ok', Mf, Mg, e, s'⟩ := Lx (t := some (.str x)) hrd _ _ none none s0 (by simp; omega) (by simp; omega)
 have XF := R6 (.way w)
 generalize (Lk.way w).V = v at e s' XF
 match ok', s' with
 | [o], s' =>
  have hu := s'.hu
  have hd := s'.fr.1
  obtain ⟨X, hX⟩ := s'.pre
  have z1 : (1 : Nat) ≤ sizeLine := lz (by omega)
  unfold gX
  refine qG (R := X) ?_ XF
  rw [← hX]
  simp only [List.reverse_cons, List.reverse_nil, List.nil_append, List.map_cons, List.map_nil] at hu
  have a0 : j8 [D.obj o] 0 = some (.obj o) := rfl
  have a1 : j8 [v] 0 = some v := rfl
  simp! [jh, bQ, z1, ew, e, oK, hu, hd, wF, cW, a0, a1]
 | [], s' => exact s'.fr.elim
 | _ :: _ :: _, s' => exact s'.fr.2.elim
theorem BD {w : Wy} (h : w.Ok) (hk : w.Nk) (hn : w ≠ .nil) (hsz : w.sz ≤ 119) (x : Str) (hx : ∀ c ∈ x.cps.toList, c < 1114112) (hl : x.length ≤ 100000) (hw : bY [] x.cps.toList = (Lk.way w).W) (G : DH) : fV [.str x] G = .ok (.tup w.Ds) G := by
 have e := EG h hk hn hsz x hx hl hw G
 have hc : (D.tup w.Ds).closed = true := by rw [D.closed]; exact Jv w
 have e2 : fj [.tup [.str (av fk), .tup w.Ds], .str "way"] G = .ok (.tup w.Ds) G := yK "way" (by decide +kernel) (.tup w.Ds) hc G
 rw [Lk.V] at e
 unfold fV
 refine bK ?_ hc
 simp! [nO, e, e2]
end K14
end
section
set_option Elab.async false
set_option linter.all false
set_option maxRecDepth 100000
set_option maxHeartbeats 1000000
namespace K14
open PySem PySem.Spec L2 L3
theorem Jz (a b : Str) (G : DH) (h : a.length + b.length ≤ 2000000) : ∃ t, bu (.str a) (.str b) G = .ok (.str t) G ∧ t.cps.toList = a.cps.toList ++ b.cps.toList ∧ t.length = a.length + b.length := by
 refine ⟨a ++ b, ?_, ?_, K9 a b⟩
 ·simp [bu, lz h]
 ·show (a.cps ++ b.cps).toList = _
  simp
theorem strs_map (ws : List Str) : strsOf (ws.map D.str) = some ws := by
 induction ws with
 | nil => rfl
 | cons w ws ih => simp [strsOf, ih]
theorem vE : ∀ (ws : List Str) (n : Nat), ws.foldl (fun a (w : Str) => a + w.length + 1) n = n + (ws.map fun w => w.length + 1).sum
 | [], n => by simp
 | w :: ws, n => by
  rw [List.foldl_cons, vE ws]
  simp; omega
theorem j6 (ws : List Str) (hl : (ws.map fun w => w.length + 1).sum ≤ 100000) (G : DH) : cE [.con (ws.map .str)] G = .ok (.str (av (40 :: cK [32] (ws.map fun w => w.cps.toList) ++ [41]))) G := by
 have hj : JoinOk " " ws = true := by
  have n2 : (" " : Str).length = 1 := by decide +kernel
  have e : ws.toArray.foldl (fun a (w : Str) => a + w.length + (" " : Str).length) 0 = (ws.map fun w => w.length + 1).sum := by
   rw [n2, List.foldl_toArray, vE]; simp
  unfold JoinOk
  rw [e]
  rw [Bool.not_eq_true']
  unfold Builtin.Str.tooLong
  exact decide_eq_false (by have := lz (n := 100000) (by omega); omega)
 have hs := strs_map ws
 have hjl : (Txt.join " " ws).cps.toList = cK [32] (ws.map fun w => w.cps.toList) := by
  show (Builtin.Str.glued " " ws).cps.toList = _
  rw [StrLaws.glued_eq_join]
  exact mC " " ws
 have hlen : (Txt.join " " ws).length ≤ 100000 := by
  have := StrLaws.join_length_le " " ws
  have e1 : Txt.join " " ws = Str.join " " ws := StrLaws.glued_eq_join ..
  have n2 : (" " : Str).length = 1 := by decide +kernel
  rw [n2] at this
  have e2 : (ws.map fun w => w.length + 1).sum = (ws.map (·.length)).sum + ws.length := by
   clear this hl hj hs hjl e1
   induction ws with
   | nil => rfl
   | cons w ws ih => simp [ih]; omega
  rw [e1]; omega
 have n1 : ("(" : Str).length = 1 := by decide +kernel
 have n3 : (")" : Str).length = 1 := by decide +kernel
 have ej : pL (.str " ") [.con (ws.map .str)] G = .ok (.str (Txt.join " " ws)) G := by
  simp [pL, bE, hs, hj]
 generalize Txt.join " " ws = j at hjl hlen ej
 obtain ⟨t1, e1, c1, k1⟩ := Jz "(" j G (by omega)
 obtain ⟨t2, e2, c2, k2⟩ := Jz t1 ")" G (by omega)
 have ht : t2 = av (40 :: cK [32] (ws.map fun w => w.cps.toList) ++ [41]) := by
  apply tO
  rw [c2, c1, hjl, gU]
  rfl
 rw [← ht]
 unfold cE
 refine bK ?_ aN
 dsimp! [qJ, ej, e1, e2]
theorem yN : ∀ (ps : List (List Nat)) (p : List Nat), cK [32] (p :: ps) = p ++ ps.flatMap (fun q => 32 :: q)
 | [], p => by simp [cK]
 | q :: ps, p => by
  rw [cK, yN ps q]
  simp
theorem Lz (a b : List D) (G : DH) : bu (.con a) (.con b) G = bQ (a ++ b) G := by simp [bu, tT]
noncomputable def Wy.ps : Wy → List (Nat × Lk)
 | .nil => []
 | .cons g l w => (g, l) :: w.ps
noncomputable def csl : Lk → List Lk
 | .not l => [l]
 | .bin _ l r => [l, r]
 | .way w => w.ps.map (·.2)
 | _ => []
noncomputable def LA (q : Nat × Lk) : D := .tup [.str (av (jb q.1)), q.2.D]
theorem FF : ∀ w : Wy, w.Ds = w.ps.map LA
 | .nil => rfl
 | .cons g l w => by rw [Wy.Ds, FF w]; rfl
theorem BE : ∀ w : Wy, w.ps.length ≤ w.sz
 | .nil => by simp [Wy.ps]
 | .cons g l w => by
  have := BE w
  have : 1 ≤ l.sz := by cases l <;> simp [Lk.sz]
  simp only [Wy.ps, Wy.sz, List.length_cons]; omega
theorem eqs (s t : Str) (G : DH) (hs : PyData.strOk s = true) (ht : PyData.strOk t = true) {b : Bool} (h : (s == t) = b) : g7 false (.str s) (.str t) G = .ok (.bl b) G := by
 rw [gb false s t G hs ht, h]; simp
theorem ins (s : Str) (ws : List Str) (G : DH) (hs : PyData.strOk s = true) (hw : PyData.canLayAll0 (ws.map PyData.str) = true) {b : Bool} (h : ws.any (· == s) = b) : uK false (.str s) (.tup (ws.map .str)) G = .ok (.bl b) G := by
 have hk := mU s ws G hs hw
 rw [h] at hk
 simp [uK, bE, hk]
theorem R9 (s : Str) (G : DH) (hs : PyData.strOk s = true) {b : Bool} (h : (["not", "both", "either"] : List Str).any (· == s) = b) : uK false (.str s) (.tup [.str "not", .str "both", .str "either"]) G = .ok (.bl b) G := ins s ["not", "both", "either"] G hs (by decide +kernel) h
theorem OW (s : Str) (G : DH) (hs : PyData.strOk s = true) {b : Bool} (h : (["any", "mark"] : List Str).any (· == s) = b) : uK false (.str s) (.tup [.str "any", .str "mark"]) G = .ok (.bl b) G := ins s ["any", "mark"] G hs (by decide +kernel) h
theorem Dh (l : Lk) (hsz : l.sz ≤ 1000) (G : DH) : cP [l.D] G = .ok (.con ((csl l).map Lk.D)) G := by
 have z1 : (1 : Nat) ≤ sizeLine := lz (by omega)
 have z2 : (2 : Nat) ≤ sizeLine := lz (by omega)
 have z3 : (3 : Nat) ≤ sizeLine := lz (by omega)
 have hcl : bx ((csl l).map Lk.D) = true := dB lR
 have n0 : (bQ [] G).fw G = .ok (.con []) G := eG (Nat.zero_le _) rfl
 unfold cP
 refine bK ?_ (by rw [nH]; exact hcl)
 have OC : ∀ a : D, j8 [a] 0 = some a := fun a => rfl
 cases l with
 | any =>
  have e1 := eqs (av uF) "way" G sV (by decide +kernel) (b := false) (by decide +kernel)
  have e2 := R9 (av uF) G sV (b := false) (by decide +kernel)
  simp! [eH, Lk.D, csl, OC, e1, e2, z3, dQ, n0]
 | mark =>
  have e1 := eqs (av markL) "way" G xm (by decide +kernel) (b := false) (by decide +kernel)
  have e2 := R9 (av markL) G xm (b := false) (by decide +kernel)
  simp! [eH, Lk.D, csl, OC, e1, e2, z3, dQ, n0]
 | kind nm =>
  have e1 := eqs (av gF) "way" G ju (by decide +kernel) (b := false) (by decide +kernel)
  have e2 := R9 (av gF) G ju (b := false) (by decide +kernel)
  simp! [eH, Lk.D, csl, yH, e1, e2, z3, dQ, n0]
 | not l =>
  have e1 := eqs (av ef) "way" G jL (by decide +kernel) (b := false) (by decide +kernel)
  have e2 := R9 (av ef) G jL (b := true) (by decide +kernel)
  have hs : yS (.tup [.str (av ef), l.D]) (some 1) none G = .ok (.tup [l.D]) G := by simp [yS, bE, cutD, HT.iI, eF, z1]
  have f : (bQ [l.D] G).fw G = .ok (.con [l.D]) G := eG (by simpa using z1) (by simp [bI, cy, lR])
  simp! [eH, Lk.D, csl, yH, e1, e2, z3, dQ, hs, u0, f]
 | bin e l r =>
  have e1 := eqs (av (dU e)) "way" G (jt e) (by decide +kernel) (b := false) (by cases e <;> decide +kernel)
  have e2 := R9 (av (dU e)) G (jt e) (b := true) (by cases e <;> decide +kernel)
  have hs : yS (.tup [.str (av (dU e)), l.D, r.D]) (some 1) none G = .ok (.tup [l.D, r.D]) G := by simp [yS, bE, cutD, HT.iI, eF, z2]
  have f : (bQ [l.D, r.D] G).fw G = .ok (.con [l.D, r.D]) G := eG (by simpa using z2) (by simp [bI, cy, lR])
  simp! [eH, Lk.D, csl, SW, e1, e2, z3, dQ, hs, u0, f]
 | way w =>
  have e1 := eqs (av fk) "way" G qp (by decide +kernel) (b := true) (by decide +kernel)
  have hl := BE w
  rw [Lk.sz] at hsz
  have hc := fJ (gO := oT 2) (ks := []) (tt := kc) (te := ai 1) (own := fun q : Nat × Lk => [D.str (av (jb q.1)), q.2.D]) (dat := LA) (f := fun q => q.2.D) (c := fun _ => true) (G := G) (τ := [some (Lk.way w).D]) w.ps [] (by simp; omega) (fun _ _ => rfl) (fun i hi acc => rfl) (fun i hi acc => by simp! [mask])
  rw [List.nil_append, List.filter_eq_self.mpr (fun _ _ => rfl)] at hc
  have JA : bx (w.ps.map fun q => q.2.D) = true := dB fun _ => lR _
  rw [Lk.D] at hc
  rw [← FF] at hc
  simp! [eH, Lk.D, csl, yH, Fz, e1, hc, dQ, mD JA]
end K14
end
section
set_option Elab.async false
set_option linter.all false
set_option maxRecDepth 100000
set_option maxHeartbeats 1000000
namespace K14
open PySem PySem.Spec L2 L3
noncomputable def iJ (l : Lk) : D := .str (av l.L)
theorem LB {ml : DS → M (List D)} {τ : DS} {G : DH} : vN ml τ G = (ml τ G).bd fun ds => match ds with
 | [d, e] => fun G => match fh G d, fh G e with
  | some (_, xs), some (_, ys) => .ok (min xs.length ys.length + 1, vM d e) G
  | _, _ => .stuck
 | _ => M.stop := bR
theorem EH {gO : D → Option (List D)} {ks : List Bool} {tt : DS → M Bool} {te : DS → M D} {n : Nat} {τ : DS} {G : DH} {xs ys : List D} : rB gO ks tt te n (vM (.tup xs) (.con ys)) (min xs.length ys.length + 1) 0 τ G = e9 gO ks tt te n (List.zipWith (fun x y => .tup [x, y]) xs ys) τ G := by
 have := zX (n := n) (gO := gO) (ks := ks) (tt := tt) (te := te) (xs := List.zipWith (fun x y => D.tup [x, y]) xs ys) (vw := vM (.tup xs) (.con ys)) (fun G i h => by
  simp only [vM, fh, bE, List.getElem?_zipWith]
  cases xs[i]? <;> cases ys[i]? <;> rfl) (min xs.length ys.length + 1) 0 τ G (by simp) (by simp)
 simpa using this
theorem zip_map {α : Type} (f g : α → D) : ∀ as : List α, List.zipWith (fun x y => D.tup [x, y]) (as.map f) (as.map g) = as.map fun a => .tup [f a, g a]
 | [] => rfl
 | a :: as => by simp [zip_map f g as]
noncomputable def Aq (q : Nat × Lk) : List Nat := 40 :: (jb q.1 ++ 32 :: (q.2.L ++ [41]))
theorem Di : ∀ w : Wy, w.L = (w.ps.map Aq).flatMap fun q => 32 :: q
 | .nil => rfl
 | .cons g l w => by
  rw [Wy.L, Di w]
  simp [Wy.ps, Aq]
theorem Dj : ∀ {w : Wy}, w.Ok → ∀ q ∈ w.ps, q.2.Ok ∧ q.2.sz ≤ w.sz
 | .nil, _, q, hq => by simp [Wy.ps] at hq
 | .cons g l w, h, q, hq => by
  rw [Wy.Ok] at h
  rw [Wy.ps] at hq
  rw [Wy.sz]
  rcases List.mem_cons.mp hq with rfl | hq
  ·exact ⟨h.1, by simp⟩
  ·have := Dj h.2 q hq
   exact ⟨this.1, by omega⟩
theorem EI : ∀ w : Wy, w.Ok → (w.ps.map fun q => (Aq q).length + 1).sum ≤ 25 * w.sz
 | .nil, _ => by simp [Wy.ps]
 | .cons g l w, h => by
  rw [Wy.Ok] at h
  have := EI w h.2
  have := g6 l h.1
  have := xj g
  have hs : (Aq (g, l)).length = (jb g).length + l.L.length + 3 := by simp [Aq]; omega
  simp only [Wy.ps, List.map_cons, List.sum_cons, Wy.sz]; omega
theorem BF {l : Lk} (h : l.Ok) (hsz : l.sz ≤ 1000) (G : DH) : gW [l.D, .con ((csl l).map iJ)] G = .ok (iJ l) G := by
 have z1 : (1 : Nat) ≤ sizeLine := lz (by omega)
 have z2 : (2 : Nat) ≤ sizeLine := lz (by omega)
 have f1 : ∀ (x : Str) (G : DH), (bQ [.str x] G).fw G = .ok (.con [.str x]) G := fun x G => eG (by simpa using z1) rfl
 have f2 : ∀ (x y : Str) (G : DH), (bQ [.str x, .str y] G).fw G = .ok (.con [.str x, .str y]) G := fun x y G => eG (by simpa using z2) rfl
 have OC : ∀ a : D, j8 [a] 0 = some a := fun a => rfl
 have Sa := g6 l h
 unfold gW
 refine bK ?_ aN
 cases l with
 | any =>
  have e1 := OW (av uF) G sV (b := true) (by decide +kernel)
  simp! [dS, Lk.D, OC, e1, z2, iJ, Lk.L]
 | mark =>
  have e1 := OW (av markL) G xm (b := true) (by decide +kernel)
  simp! [dS, Lk.D, OC, e1, z2, iJ, Lk.L]
 | kind nm =>
  rw [Lk.Ok] at h
  have hle := h.le
  have e1 := OW (av gF) G ju (b := false) (by decide +kernel)
  have e2 := eqs (av gF) "kind" G ju (by decide +kernel) (b := true) (by decide +kernel)
  have b := j6 ["kind", av nm] (by
   have : ("kind" : Str).length = 4 := by decide +kernel
   simp [iA, this]; omega) G
  have hL : 40 :: cK [32] ((["kind", av nm] : List Str).map fun w => w.cps.toList) ++ [41] = (Lk.kind nm).L := by
   simp only [List.map_cons, List.map_nil, gU, cK]
   show 40 :: (gF ++ [32] ++ nm) ++ [41] = _
   simp [Lk.L]
  rw [hL] at b
  simp only [List.map_cons, List.map_nil] at b
  simp! [dS, Lk.D, yH, Fz, e1, e2, z2, dQ, f2, b, iJ]
 | not l =>
  have e1 := OW (av ef) G jL (b := false) (by decide +kernel)
  have e2 := eqs (av ef) "kind" G jL (by decide +kernel) (b := false) (by decide +kernel)
  have e3 := eqs (av ef) "way" G jL (by decide +kernel) (b := false) (by decide +kernel)
  rw [Lk.Ok] at h
  rw [Lk.sz] at hsz
  have hl2 := g6 l h
  have b := j6 [av ef, av l.L] (by simp [iA, ef]; omega) G
  have hL : 40 :: cK [32] (([av ef, av l.L] : List Str).map fun w => w.cps.toList) ++ [41] = (Lk.not l).L := by
   simp only [List.map_cons, List.map_nil, gU, cK]
   simp [Lk.L]
  rw [hL] at b
  simp only [List.map_cons, List.map_nil] at b
  have hf : (bQ [.str (av ef), iJ l] G).fw G = .ok (.con [.str (av ef), iJ l]) G := f2 _ _ _
  have b' : cE [.con [.str (av ef), iJ l]] G = .ok (.str (av (Lk.not l).L)) G := b
  have et : iJ (.not l) = .str (av (Lk.not l).L) := rfl
  dsimp! [dS, Lk.D, csl, yH, e1, e2, e3, z2, dQ, f1, Lz, hf, b', et]
 | bin e l r =>
  have e1 := OW (av (dU e)) G (jt e) (b := false) (by cases e <;> decide +kernel)
  have e2 := eqs (av (dU e)) "kind" G (jt e) (by decide +kernel) (b := false) (by cases e <;> decide +kernel)
  have e3 := eqs (av (dU e)) "way" G (jt e) (by decide +kernel) (b := false) (by cases e <;> decide +kernel)
  rw [Lk.Ok] at h
  rw [Lk.sz] at hsz
  have hl2 := g6 l h.1
  have hl3 := g6 r h.2
  have hbl := yI e
  have z3 : (3 : Nat) ≤ sizeLine := lz (by omega)
  have b := j6 [av (dU e), av l.L, av r.L] (by simp [iA]; omega) G
  have hL : 40 :: cK [32] (([av (dU e), av l.L, av r.L] : List Str).map fun w => w.cps.toList) ++ [41] = (Lk.bin e l r).L := by
   simp only [List.map_cons, List.map_nil, gU, cK]
   simp [Lk.L]
  rw [hL] at b
  simp only [List.map_cons, List.map_nil] at b
  have hf : (bQ [.str (av (dU e)), iJ l, iJ r] G).fw G = .ok (.con [.str (av (dU e)), iJ l, iJ r]) G := eG (by simpa using z3) rfl
  have b' : cE [.con [.str (av (dU e)), iJ l, iJ r]] G = .ok (.str (av (Lk.bin e l r).L)) G := b
  have et : iJ (.bin e l r) = .str (av (Lk.bin e l r).L) := rfl
  dsimp! [dS, Lk.D, csl, SW, e1, e2, e3, z2, dQ, f1, Lz, hf, b', et]
 | way w =>
  have e1 := OW (av fk) G qp (b := false) (by decide +kernel)
  have e2 := eqs (av fk) "kind" G qp (by decide +kernel) (b := false) (by decide +kernel)
  have e3 := eqs (av fk) "way" G qp (by decide +kernel) (b := true) (by decide +kernel)
  rw [Lk.Ok] at h
  rw [Lk.sz] at hsz
  have hpl := BE w
  have hsw := EI w h
  have hc := fJ (gO := oT 2) (ks := []) (tt := kc) (te := aV 1 cE (af (eFn (aA bQ (af (aC cX (ai 0) (eC (.int 0))) (af (ai 1) (aq))))) (aq))) (own := fun q : Nat × Lk => [LA q, iJ q.2]) (dat := fun q => .tup [LA q, iJ q.2]) (f := fun q => D.str (av (Aq q))) (c := fun _ => true) (G := G) (τ := [some (Lk.way w).D, some (.con ((csl (.way w)).map iJ))]) w.ps [] (by simp; omega) (fun _ _ => rfl) (fun i hi acc => rfl) (fun q hq acc => by
   have ho := Dj h q hq
   have hl2 := g6 q.2 ho.1
   have Hq := xj q.1
   have b := j6 [av (jb q.1), av q.2.L] (by simp [iA]; omega) (G ++ [.lst acc])
   have hL : 40 :: cK [32] (([av (jb q.1), av q.2.L] : List Str).map fun w => w.cps.toList) ++ [41] = Aq q := by
    simp only [List.map_cons, List.map_nil, gU, cK]
    simp [Aq]
   rw [hL] at b
   simp only [List.map_cons, List.map_nil] at b
   have b' : cE [.con [.str (av (jb q.1)), iJ q.2]] (G ++ [.lst acc]) = .ok (.str (av (Aq q))) (G ++ [.lst acc]) := b
   have hf : (bQ [.str (av (jb q.1)), iJ q.2] (G ++ [.lst acc])).fw (G ++ [.lst acc]) = .ok (.con [.str (av (jb q.1)), iJ q.2]) (G ++ [.lst acc]) := f2 _ _ _
   simp! [mask, LA, yH, dQ, hf, b'])
  rw [List.nil_append, List.filter_eq_self.mpr (fun _ _ => rfl), ← zip_map] at hc
  have JA : bx (w.ps.map fun q => D.str (av (Aq q))) = true := dB fun _ => aN
  have hcs : (csl (.way w)).map iJ = w.ps.map fun q => iJ q.2 := by rw [csl, List.map_map]; rfl
  have hD : (Lk.way w).D = .tup [.str (av fk), .tup (w.ps.map LA)] := by rw [Lk.D, FF]
  rw [hcs, hD] at hc
  rw [hcs, hD]
  have Sb := EH (gO := oT 2) (ks := []) (tt := kc) (te := aV 1 cE (af (eFn (aA bQ (af (aC cX (ai 0) (eC (.int 0))) (af (ai 1) (aq))))) (aq))) (n := G.length) (τ := [some (.tup [.str (av fk), .tup (w.ps.map LA)]), some (.con (w.ps.map fun q => iJ q.2))]) (G := G ++ [.lst []]) (xs := w.ps.map LA) (ys := w.ps.map fun q => iJ q.2)
  rw [hc, List.length_map, List.length_map, Nat.min_self] at Sb
  have b := j6 ("way" :: w.ps.map fun q => av (Aq q)) (by
   have n3 : ("way" : Str).length = 3 := by decide +kernel
   simp only [List.map_cons, List.map_map, List.sum_cons, n3]
   have e : (w.ps.map ((fun w : Str => w.length + 1) ∘ fun q => av (Aq q))) = w.ps.map fun q => (Aq q).length + 1 := List.map_congr_left fun i _ => by simp [iA]
   rw [e]; omega) G
  have hL : 40 :: cK [32] ((("way" : Str) :: w.ps.map fun q => av (Aq q)).map fun w => w.cps.toList) ++ [41] = (Lk.way w).L := by
   simp only [List.map_cons, yN, List.map_map]
   have e : (w.ps.map ((fun w : Str => w.cps.toList) ∘ fun q => av (Aq q))) = w.ps.map Aq := List.map_congr_left fun i _ => gU _
   rw [e, ← Di]
   show 40 :: (fk ++ w.L) ++ [41] = _
   simp [Lk.L]
  rw [hL] at b
  simp only [List.map_cons, List.map_map] at b
  have b' : cE [.con (.str "way" :: w.ps.map fun q => D.str (av (Aq q)))] G = .ok (.str (av (Lk.way w).L)) G := b
  have VQ : bx (.str "way" :: w.ps.map fun q => D.str (av (Aq q))) = true := by rw [bI, aN, JA]; rfl
  have hz : (D.str "way" :: w.ps.map fun q => D.str (av (Aq q))).length ≤ sizeLine := lz (by simp; omega)
  have f5 := eG (G := G) hz VQ
  have et : iJ (.way w) = .str (av (Lk.way w).L) := rfl
  rw [et]
  generalize (w.ps.map fun q => D.str (av (Aq q))) = ss at Sb f5 b' JA
  generalize (Lk.way w).L = tl at b' ⊢
  generalize hxs : w.ps.map LA = xs at Sb
  generalize hys : (w.ps.map fun q => iJ q.2) = ys at Sb
  have lx : xs.length = w.ps.length := by rw [← hxs]; simp
  have ly : ys.length = w.ps.length := by rw [← hys]; simp
  have ez : vN (af (aC cX (ai 0) (eC (.int 1))) (af (ai 1) (aq))) [some (.tup [.str (av fk), .tup xs]), some (.con ys)] G = .ok (w.ps.length + 1, vM (.tup xs) (.con ys)) G := by
   simp only [LB, iN, pN, iR, r9, List.getElem?_cons_succ, List.getElem?_cons_zero, iD, bR, cX, bE, Fz, iS, kX, fh, lx, ly, Nat.min_self]
  have ec : eFn (pM (oT 2) [] (vN (af (aC cX (ai 0) (eC (.int 1))) (af (ai 1) (aq)))) (kc) (aV 1 cE (af (eFn (aA bQ (af (aC cX (ai 0) (eC (.int 0))) (af (ai 1) (aq))))) (aq)))) [some (.tup [.str (av fk), .tup xs]), some (.con ys)] G = .ok (.con ss) G := by
   rw [dQ, xV, ez, iD]
   rw [Sb]
   exact mD JA
  have eg : eFn (aC bu (eFn (aA bQ (af (eC (.str "way")) (aq)))) (eFn (pM (oT 2) [] (vN (af (aC cX (ai 0) (eC (.int 1))) (af (ai 1) (aq)))) (kc) (aV 1 cE (af (eFn (aA bQ (af (aC cX (ai 0) (eC (.int 0))) (af (ai 1) (aq))))) (aq)))))) [some (.tup [.str (av fk), .tup xs]), some (.con ys)] G = .ok (.con (.str "way" :: ss)) G := by
   rw [dQ, pN]
   have eh : eFn (aA bQ (af (eC (.str "way")) (aq))) [some (.tup [.str (av fk), .tup xs]), some (.con ys)] G = .ok (.con [.str "way"]) G := by
    simp only [dQ, qE, iN, r9, iD, bR, iS, kX, f1]
   rw [eh, iD, bR, ec, iD, Lz]
   exact f5
  have er : (dF (aV 1 cE (af (eFn (aC bu (eFn (aA bQ (af (eC (.str "way")) (aq)))) (eFn (pM (oT 2) [] (vN (af (aC cX (ai 0) (eC (.int 1))) (af (ai 1) (aq)))) (kc) (aV 1 cE (af (eFn (aA bQ (af (aC cX (ai 0) (eC (.int 0))) (af (ai 1) (aq))))) (aq))))))) (aq)))) [some (.tup [.str (av fk), .tup xs]), some (.con ys)] G = .rt (.str (av tl)) G := by
   simp only [xT, w6, iN, eg, iD, bR, iS, kX]
   simp [b', Ci]
  have s1 : (jw (gn (aC (uK false) (aC cX (ai 0) (eC (.int 0))) (aA eF (af (eC (.str "any")) (af (eC (.str "mark")) (aq)))))) (dF (aC cX (ai 0) (eC (.int 0)))) (bJ)) [some (.tup [.str (av fk), .tup xs]), some (.con ys)] G = .nx [some (.tup [.str (av fk), .tup xs]), some (.con ys)] G := by
   simp! [yH, e1, z2]
  have s2 : (jw (gn (aC (g7 false) (aC cX (ai 0) (eC (.int 0))) (eC (.str "kind")))) (dF (aV 1 cE (af (eFn (aA bQ (af (eC (.str "kind")) (af (aC cX (ai 0) (eC (.int 1))) (aq))))) (aq)))) (bJ)) [some (.tup [.str (av fk), .tup xs]), some (.con ys)] G = .nx [some (.tup [.str (av fk), .tup xs]), some (.con ys)] G := by
   simp! [yH, e2]
  have s3 : gn (aC (g7 false) (aC cX (ai 0) (eC (.int 0))) (eC (.str "way"))) [some (.tup [.str (av fk), .tup xs]), some (.con ys)] G = .ok true G := by
   simp! [yH, e3]
  have hb : dS [some (.tup [.str (av fk), .tup xs]), some (.con ys)] G = .rt (.str (av tl)) G := by
   rw [dS, cZ, s1, gg, cZ, s2, gg, cZ, rC, s3, zc, er, zV]
  rw [u7]
  show (dS [some (.tup [.str (av fk), .tup xs]), some (.con ys)] G).fn = _
  rw [hb]; rfl
end K14
end
section
set_option Elab.async false
set_option linter.all false
set_option maxRecDepth 100000
set_option maxHeartbeats 1000000
namespace K14
open PySem PySem.Spec L2 L3
mutual
noncomputable def Lk.pre : Lk → List Lk
 | .any => [.any]
 | .mark => [.mark]
 | .kind nm => [.kind nm]
 | .not l => .not l :: l.pre
 | .bin e l r => .bin e l r :: (l.pre ++ r.pre)
 | .way w => .way w :: w.pre
noncomputable def Wy.pre : Wy → List Lk
 | .nil => []
 | .cons _ l w => l.pre ++ w.pre
end
theorem Sd : ∀ w : Wy, w.pre = (w.ps.map (·.2)).flatMap Lk.pre
 | .nil => by simp [Wy.pre, Wy.ps]
 | .cons g l w => by rw [Wy.pre, Sd w, Wy.ps]; simp
theorem JB (l : Lk) : l.pre = l :: (csl l).flatMap Lk.pre := by
 cases l <;> simp [Lk.pre, csl, Sd, List.flatMap_map]
noncomputable def szl : List Lk → Nat
 | [] => 0
 | l :: ls => l.sz + szl ls
theorem FG : ∀ a b : List Lk, szl (a ++ b) = szl a + szl b
 | [], b => by simp [szl]
 | t :: a, b => by rw [List.cons_append, szl, szl, FG a b]; omega
theorem XG : ∀ w : Wy, w.sz = szl (w.ps.map (·.2))
 | .nil => by simp [Wy.sz, Wy.ps, szl]
 | .cons g l w => by rw [Wy.sz, XG w, Wy.ps]; simp [szl]
theorem yO (l : Lk) : l.sz = 1 + szl (csl l) := by
 cases l <;> simp [Lk.sz, csl, XG, szl]
theorem Hf : ∀ ls : List Lk, ls.length ≤ szl ls
 | [] => by simp [szl]
 | l :: ls => by
  have := Hf ls
  have : 1 ≤ l.sz := by rw [yO]; omega
  simp only [szl, List.length_cons]; omega
theorem OD (l : Lk) (h : l.Ok) : ∀ c ∈ csl l, c.Ok := by
 cases l with
 | not l => intro c hc; rw [Lk.Ok] at h; simp [csl] at hc; subst hc; exact h
 | bin e l r => intro c hc; rw [Lk.Ok] at h; simp [csl] at hc; rcases hc with rfl | rfl; exact h.1; exact h.2
 | way w =>
  intro c hc
  rw [Lk.Ok] at h
  simp only [csl, List.mem_map] at hc
  obtain ⟨q, hq, rfl⟩ := hc
  exact (Dj h q hq).1
 | any => intro c hc; simp [csl] at hc
 | mark => intro c hc; simp [csl] at hc
 | kind nm => intro c hc; simp [csl] at hc
theorem JC : List.lookup ("look_parts" : Str) [("make_in_way", aJ), ("look_parts", cP)] = some cP := by
 have n : (("look_parts" : Str) == "make_in_way") = false := by decide +kernel
 simp only [List.lookup, n, beq_self_eq_true]
theorem LC : List.lookup ("look_text" : Str) [("look_text", gW)] = some gW := by
 simp only [List.lookup, beq_self_eq_true]
theorem Dk (G : DH) (a0 : Option D) (t : Lk) (rest acc : List Lk) (one : Option D) (h1 : acc.length ≤ 10000) (h2 : rest.length ≤ 10000) (h3 : t.sz ≤ 1000) :
  jP [a0, some (.fn "look_parts"), some (.obj G.length), some (.obj (G.length + 1)), one] (G ++ [.lst (acc.map Lk.D), .lst ((t :: rest).reverse.map Lk.D)]) =
   .nx [a0, some (.fn "look_parts"), some (.obj G.length), some (.obj (G.length + 1)), some t.D] (G ++ [.lst ((acc ++ [t]).map Lk.D), .lst ((csl t ++ rest).reverse.map Lk.D)]) := by
 have hl := Hf (csl t)
 have hs := yO t
 have ep := fun G => Dh t h3 G
 generalize csl t = ts at hl hs ep ⊢
 have hz1 : acc.length < sizeLine := Nat.lt_of_lt_of_le (by omega) (lz (n := 20000) (by omega))
 have hz2 : rest.length + ts.length ≤ sizeLine := lz (by omega)
 have hz3 : ts.length ≤ sizeLine := lz (by omega)
 have hcl : bx (ts.map Lk.D).reverse = true := by
  rw [← List.map_reverse]; exact dB lR
 have f : ∀ G, (bQ (ts.map Lk.D).reverse G).fw G = .ok (.con (ts.map Lk.D).reverse) G := fun G => eG (by simpa using hz3) hcl
 have hdl : ((rest.map Lk.D).reverse ++ [t.D]).dropLast = (rest.map Lk.D).reverse := List.dropLast_concat
 have hix : ((rest.map Lk.D).reverse ++ [t.D])[((rest.map Lk.D).reverse ++ [t.D]).length - 1]? = some t.D := by simp
 have g1 : ∀ x y : DO, (G ++ [x, y])[G.length + 1]? = some y := fun x y => J2 G x y []
 have s1 : ∀ x y z : DO, (G ++ [x, y]).set (G.length + 1) z = G ++ [x, z] := fun x y z => Ul G x y z []
 have g0 : ∀ x y : DO, (G ++ [x, y])[G.length]? = some x := fun x y => zb G x [y]
 have s0 : ∀ x y z : DO, (G ++ [x, y]).set G.length z = G ++ [z, y] := fun x y z => E6 G x z [y]
 have er : (t :: rest).reverse.map Lk.D = (rest.map Lk.D).reverse ++ [t.D] := by simp
 rw [er]
 have e1 : (bT 4 (ck "list" rV (ai 3) aq)) [a0, some (.fn "look_parts"), some (.obj G.length), some (.obj (G.length + 1)), one] (G ++ [.lst (acc.map Lk.D), .lst ((rest.map Lk.D).reverse ++ [t.D])]) = .nx [a0, some (.fn "look_parts"), some (.obj G.length), some (.obj (G.length + 1)), some t.D] (G ++ [.lst (acc.map Lk.D), .lst (rest.map Lk.D).reverse]) := by
  simp only [kg, jV, iR, List.getElem?_cons_succ, List.getElem?_cons_zero, iD, iE, g1, iS, rV, hix, hdl, beq_self_eq_true, if_true, oH, List.set_cons_succ, List.set_cons_zero, s1]
 rw [jP, cZ, e1, gg]
 simp! [g0, s0, g1, s1, hz1, JC, ep, Cd, dQ, f, Cs, tT, hz2]
theorem wB (G : DH) (a0 : Option D) : ∀ (n fl : Nat) (stk acc : List Lk) (one : Option D), szl stk = n → n < fl → acc.length + n ≤ 1000 →
  ∃ one', je (gn (aC wF (aA g8 (af (ai 3) (aq))) (eC (.int 0)))) jP fl [a0, some (.fn "look_parts"), some (.obj G.length), some (.obj (G.length + 1)), one] (G ++ [.lst (acc.map Lk.D), .lst (stk.reverse.map Lk.D)]) = .nx [a0, some (.fn "look_parts"), some (.obj G.length), some (.obj (G.length + 1)), one'] (G ++ [.lst ((acc ++ stk.flatMap Lk.pre).map Lk.D), .lst []])
 | n, 0, stk, acc, one, _, h, _ => by omega
 | n, fl + 1, [], acc, one, hn, h, hb => by
  refine ⟨one, ?_⟩
  have g1 : ∀ x y : DO, (G ++ [x, y])[G.length + 1]? = some y := fun x y => J2 G x y []
  rw [tN]
  simp! [g1, wF]
 | n, fl + 1, t :: stk, acc, one, hn, h, hb => by
  rw [szl] at hn
  have hq := yO t
  have hss := FG (csl t) stk
  have hl1 := Hf (csl t)
  have hl2 := Hf stk
  obtain ⟨one', e⟩ := wB G a0 (n - 1) fl (csl t ++ stk) (acc ++ [t]) (some t.D) (by omega) (by omega) (by simp; omega)
  refine ⟨one', ?_⟩
  have g1 : ∀ x y : DO, (G ++ [x, y])[G.length + 1]? = some y := fun x y => J2 G x y []
  have hz : stk.length + 1 ≤ sizeLine := lz (by omega)
  have hp : (0 : Int) < (stk.length : Int) + 1 := by omega
  have et := Dk G a0 t stk acc one (by omega) (by omega) (by omega)
  have ec : gn (aC wF (aA g8 (af (ai 3) (aq))) (eC (.int 0))) [a0, some (.fn "look_parts"), some (.obj G.length), some (.obj (G.length + 1)), one] (G ++ [.lst (acc.map Lk.D), .lst ((t :: stk).reverse.map Lk.D)]) = .ok true (G ++ [.lst (acc.map Lk.D), .lst ((t :: stk).reverse.map Lk.D)]) := by
   simp! [g1, wF, hz, hp]
  rw [tN, ec, zc, IP, et, mV, e, List.flatMap_append, List.flatMap_cons, JB t]
  simp
theorem Hg (t : Lk) (h : t.sz ≤ 1000) (G : DH) : ji [t.D, .fn "look_parts"] G = .ok (.con (t.pre.map Lk.D)) G := by
 obtain ⟨one', e⟩ := wB G (some t.D) t.sz fuel [t] [] none (by simp [szl]) (by unfold fuel; omega) (by simp; omega)
 have hp : [t].flatMap Lk.pre = t.pre := by simp
 rw [hp] at e
 simp only [List.reverse_cons, List.reverse_nil, List.nil_append, List.map_cons, List.map_nil] at e
 have z1 : (1 : Nat) ≤ sizeLine := lz (by omega)
 have hcl : bx (t.pre.map Lk.D) = true := dB lR
 unfold ji
 refine qG (R := [.dead, .lst []]) ?_ (by rw [nH]; exact hcl)
 have R7 : (Out.ok (D.obj G.length) (G ++ [.lst (t.pre.map Lk.D), .lst []])).fz = .ok (.con (t.pre.map Lk.D)) (G ++ [.dead, .lst []]) := Fp
 unfold kE
 generalize fuel = fl at e ⊢
 simp! [bQ, z1, e, R7]
theorem Mi (G Z : DH) (x y : DO) : (G ++ x :: (Z ++ [y]))[G.length + (Z.length + 1)]? = some y := by
 have e : G ++ x :: (Z ++ [y]) = (G ++ x :: Z) ++ y :: [] := by simp
 have l : G.length + (Z.length + 1) = (G ++ x :: Z).length := by simp
 rw [e, l]
 exact zb _ _ _
theorem Mj (G Z : DH) (x y z : DO) : (G ++ x :: (Z ++ [y])).set (G.length + (Z.length + 1)) z = G ++ x :: (Z ++ [z]) := by
 have e : G ++ x :: (Z ++ [y]) = (G ++ x :: Z) ++ y :: [] := by simp
 have l : G.length + (Z.length + 1) = (G ++ x :: Z).length := by simp
 rw [e, l, E6]
 simp
theorem Ar (G Z : DH) (a0 a1 a2 a4 : Option D) (B : List D) : ∀ (xs : List D) (j : Nat) (ps : List D) (a6 : Option D), ps.length + xs.length ≤ 1000 →
  ∃ b6, fq (gN 6) qL ((List.range' j xs.length).map fun (k : Nat) => .int (0 + (k : Int))) [a0, a1, a2, some (.obj G.length), a4, some (.obj (G.length + (Z.length + 1))), a6] (G ++ .lst (B ++ xs.reverse) :: (Z ++ [.lst ps])) =
   .nx [a0, a1, a2, some (.obj G.length), a4, some (.obj (G.length + (Z.length + 1))), b6] (G ++ .lst B :: (Z ++ [.lst (ps ++ xs)]))
 | [], j, ps, a6, _ => ⟨a6, by simp [fq]⟩
 | x :: xs, j, ps, a6, h => by
  simp only [List.length_cons] at h
  obtain ⟨b6, e⟩ := Ar G Z a0 a1 a2 a4 B xs (j + 1) (ps ++ [x]) (some (.int (0 + (j : Int)))) (by simp; omega)
  refine ⟨b6, ?_⟩
  have hz : ps.length < sizeLine := Nat.lt_of_lt_of_le (by omega) (lz (n := 2000) (by omega))
  have er : B ++ (x :: xs).reverse = (B ++ xs.reverse) ++ [x] := by simp
  rw [er]
  generalize B ++ xs.reverse = C at e
  have hdl : (C ++ [x]).dropLast = C := List.dropLast_concat
  have hix : (C ++ [x])[(C ++ [x]).length - 1]? = some x := by simp
  have g1 := fun x y => Mi G Z x y
  have s1 := fun x y z => Mj G Z x y z
  have g0 : ∀ x y, (G ++ x :: (Z ++ [y]))[G.length]? = some x := fun x y => zb G x _
  have s0 : ∀ x y z, (G ++ x :: (Z ++ [y])).set G.length z = G ++ z :: (Z ++ [y]) := fun x y z => E6 G x z _
  have ep : ck "list" rV (ai 3) aq [a0, a1, a2, some (.obj G.length), a4, some (.obj (G.length + (Z.length + 1))), some (.int (0 + (j : Int)))] (G ++ .lst (C ++ [x]) :: (Z ++ [.lst ps])) = .ok x (G ++ .lst C :: (Z ++ [.lst ps])) := by
   simp only [jV, iR, List.getElem?_cons_succ, List.getElem?_cons_zero, iD, iE, g0, iS, rV, hix, hdl, beq_self_eq_true, if_true, s0]
  have e1 : qL [a0, a1, a2, some (.obj G.length), a4, some (.obj (G.length + (Z.length + 1))), some (.int (0 + (j : Int)))] (G ++ .lst (C ++ [x]) :: (Z ++ [.lst ps])) = .nx [a0, a1, a2, some (.obj G.length), a4, some (.obj (G.length + (Z.length + 1))), some (.int (0 + (j : Int)))] (G ++ .lst C :: (Z ++ [.lst (ps ++ [x])])) := by
   simp only [qL, AY, jV (g := fZ), iR, List.getElem?_cons_succ, List.getElem?_cons_zero, iD, iE, g1, iN, ep, iS, bR, kX, fZ, beq_self_eq_true, if_true, hz, s1, II]
  rw [List.length_cons, List.range'_succ, List.map_cons, gG rfl]
  simp only [List.set_cons_succ, List.set_cons_zero, e1, mV]
  rw [e]
  simp
theorem JD (G Z : DH) (a0 a5 a6 : Option D) (B : List D) {t : Lk} (h : t.Ok) (hsz : t.sz ≤ 1000) (hB : B.length ≤ 10000) :
  ∃ (b5 b6 : Option D), iX [a0, some (.fn "look_parts"), some (.fn "look_text"), some (.obj G.length), some t.D, a5, a6] (G ++ .lst (B ++ ((csl t).map iJ).reverse) :: Z) =
   .nx [a0, some (.fn "look_parts"), some (.fn "look_text"), some (.obj G.length), some t.D, b5, b6] (G ++ .lst (B ++ [iJ t]) :: (Z ++ [.dead])) := by
 have hlt := Hf (csl t)
 have hsq := yO t
 have ep := fun G => Dh t hsz G
 have et := fun G => BF h hsz G
 generalize csl t = ts at hlt hsq ep et ⊢
 obtain ⟨b6, e⟩ := Ar G Z a0 (some (.fn "look_parts")) (some (.fn "look_text")) (some t.D) B (ts.map iJ) 0 [] a6 (by simp; omega)
 have hr := qD (j := (ts.length : Int)) (by omega) (by omega)
 rw [Int.toNat_natCast] at hr
 rw [List.length_map] at e
 generalize ((List.range' 0 ts.length).map fun (k : Nat) => D.int (0 + (k : Int))) = rg at hr e
 have hz : ts.length ≤ sizeLine := lz (by omega)
 have hzB : B.length < sizeLine := Nat.lt_of_lt_of_le (by omega) (lz (n := 20000) (by omega))
 generalize t.D = td at e ep et
 generalize iJ t = tx at et
 rw [List.nil_append] at e
 refine ⟨some (.obj (G.length + (Z.length + 1))), b6, ?_⟩
 have n0 : ∀ M : DO, bQ [] (G ++ M :: Z) = .ok (.obj (G.length + (Z.length + 1))) (G ++ M :: (Z ++ [.lst []])) := fun M => by simp [bQ]
 have R7 : ∀ (M : DO) (xs : List D), (Out.ok (D.obj (G.length + (Z.length + 1))) (G ++ M :: (Z ++ [.lst xs]))).fz = .ok (.con xs) (G ++ M :: (Z ++ [.dead])) := fun M xs => by
  simp only [Out.fz, Mi, Mj]
 have g0 : ∀ x Y, (G ++ x :: Y)[G.length]? = some x := fun x Y => zb G x Y
 have s0 : ∀ x z Y, (G ++ x :: Y).set G.length z = G ++ z :: Y := fun x z Y => E6 G x z Y
 simp! [iX, n0, JC, ep, hz, hr, e, g0, s0, LC, R7, et, hzB]
noncomputable def JE (G : DH) (a0 : Option D) (t : Lk) : Prop := ∀ (B : List D) (Z : DH) (a4 a5 a6 : Option D), B.length + t.sz ≤ 5000 → ∃ (Z' : DH) (b4 b5 b6 : Option D), ∀ rest : List D,
  fq (gN 4) iX (t.pre.reverse.map Lk.D ++ rest) [a0, some (.fn "look_parts"), some (.fn "look_text"), some (.obj G.length), a4, a5, a6] (G ++ .lst B :: Z) =
  fq (gN 4) iX rest [a0, some (.fn "look_parts"), some (.fn "look_text"), some (.obj G.length), b4, b5, b6] (G ++ .lst (B ++ [iJ t]) :: Z')
theorem FH (G : DH) (a0 : Option D) : ∀ (ts : List Lk), (∀ t ∈ ts, JE G a0 t) → ∀ (B : List D) (Z : DH) (a4 a5 a6 : Option D), B.length + szl ts ≤ 5000 → ∃ (Z' : DH) (b4 b5 b6 : Option D), ∀ rest : List D,
  fq (gN 4) iX ((ts.flatMap Lk.pre).reverse.map Lk.D ++ rest) [a0, some (.fn "look_parts"), some (.fn "look_text"), some (.obj G.length), a4, a5, a6] (G ++ .lst B :: Z) =
  fq (gN 4) iX rest [a0, some (.fn "look_parts"), some (.fn "look_text"), some (.obj G.length), b4, b5, b6] (G ++ .lst (B ++ (ts.map iJ).reverse) :: Z')
 | [], _, B, Z, a4, a5, a6, _ => ⟨Z, a4, a5, a6, fun rest => by simp⟩
 | t :: ts, h, B, Z, a4, a5, a6, hB => by
  rw [szl] at hB
  have hlt := Hf ts
  obtain ⟨Z', b4, b5, b6, e⟩ := FH G a0 ts (fun x hx => h x (by simp [hx])) B Z a4 a5 a6 (by omega)
  obtain ⟨Z2, c4, c5, c6, e1⟩ := h t (by simp) (B ++ (ts.map iJ).reverse) Z' b4 b5 b6 (by simp; omega)
  refine ⟨Z2, c4, c5, c6, fun rest => ?_⟩
  have er : ((t :: ts).flatMap Lk.pre).reverse.map Lk.D ++ rest = (ts.flatMap Lk.pre).reverse.map Lk.D ++ (t.pre.reverse.map Lk.D ++ rest) := by
   rw [List.flatMap_cons, List.reverse_append, List.map_append, List.append_assoc]
  rw [er, e, e1]
  simp
theorem BG : ∀ {ls : List Lk} {l : Lk}, l ∈ ls → l.sz ≤ szl ls
 | l' :: ls, l, h => by
  rw [szl]
  rcases List.mem_cons.mp h with rfl | h
  ·omega
  ·have := BG h; omega
theorem FI (G : DH) (a0 : Option D) : ∀ (n : Nat) (t : Lk), t.sz ≤ n → t.Ok → t.sz ≤ 1000 → JE G a0 t
 | 0, t, h, _, _ => by rw [yO] at h; omega
 | n + 1, t, hn, h, hz => fun B Z a4 a5 a6 hB => by
  have hq := yO t
  obtain ⟨Z', b4, b5, b6, e⟩ := FH G a0 (csl t) (fun c hc => FI G a0 n c (by have := BG hc; omega) (OD t h c hc) (by have := BG hc; omega)) B Z a4 a5 a6 (by omega)
  obtain ⟨c5, c6, e1⟩ := JD G Z' a0 b5 b6 B h hz (by omega)
  refine ⟨Z' ++ [.dead], some t.D, c5, c6, fun rest => ?_⟩
  have er : t.pre.reverse.map Lk.D ++ rest = ((csl t).flatMap Lk.pre).reverse.map Lk.D ++ t.D :: rest := by
   rw [JB, List.reverse_cons, List.map_append, List.append_assoc]; rfl
  rw [er, e, gG rfl]
  simp only [List.set_cons_succ, List.set_cons_zero, e1, mV]
theorem Hh {t : Lk} (h : t.Ok) (hz : t.sz ≤ 1000) (G : DH) : pU [t.D, .fn "look_parts", .fn "look_text"] G = .ok (iJ t) G := by
 obtain ⟨Z', b4, b5, b6, e⟩ := FI G (some t.D) t.sz t (Nat.le_refl _) h hz [] [] none none none (by simp; omega)
 have e := e []
 rw [List.append_nil, Cp, List.nil_append, List.map_reverse] at e
 have ew := Hg t hz (G ++ [.lst []])
 have n0 : bQ [] G = .ok (.obj G.length) (G ++ [.lst []]) := by simp [bQ]
 have hfr := fun τ G => Lg (g := gN 4) (body := iX) (xs := t.pre.map Lk.D) (τ := τ) (G := G)
 rw [List.length_map] at hfr
 have g0 : ∀ x Y, (G ++ x :: Y)[G.length]? = some x := fun x Y => zb G x Y
 have a0 : j8 [iJ t] 0 = some (iJ t) := rfl
 unfold pU
 refine qG (R := .lst [iJ t] :: Z') ?_ aN
 simp! [tX, n0, ew, hfr, e, g0, a0]
theorem uI {t : Lk} (h : t.Ok) (hz : t.sz ≤ 1000) (G : DH) : eY [t.D] G = .ok (iJ t) G := by
 have e := Hh h hz G
 unfold eY
 refine bK ?_ aN
 simp! [lX, e]
theorem Dl {w : Wy} (h : w.Ok) (hz : w.sz ≤ 900) (G : DH) : iU [.tup w.Ds] G = .ok (iJ (.way w)) G := by
 have e := uI (t := .way w) (by rw [Lk.Ok]; exact h) (by rw [Lk.sz]; omega) G
 rw [Lk.D] at e
 have e' : eY [.tup [.str "way", .tup w.Ds]] G = .ok (iJ (.way w)) G := e
 have z2 : (2 : Nat) ≤ sizeLine := lz (by omega)
 unfold iU
 refine bK ?_ aN
 simp! [nP, z2, e']
end K14
end
section
set_option Elab.async false
set_option linter.all false
set_option maxRecDepth 100000
set_option maxHeartbeats 1000000
namespace K14
open PySem PySem.Spec L2 L3
theorem pC (a b : List Nat) (G : DH) (h : a.length + b.length ≤ 1000000) : bu (.str (av a)) (.str (av b)) G = .ok (.str (av (a ++ b))) G := by
 obtain ⟨t, e, c, _⟩ := Jz (av a) (av b) G (by rw [iA, iA]; omega)
 rw [e]
 have : t = av (a ++ b) := by
  apply tO
  rw [c, gU, gU, gU]
 rw [this]
theorem Dm (ws : List (List Nat)) (hl : (ws.map fun w => w.length + 1).sum ≤ 100000) (G : DH) : pL (.str " ") [.con (ws.map fun w => .str (av w))] G = .ok (.str (av (cK [32] ws))) G := by
 have hj : JoinOk " " (ws.map av) = true := by
  have n2 : (" " : Str).length = 1 := by decide +kernel
  have e : (ws.map av).toArray.foldl (fun a (w : Str) => a + w.length + (" " : Str).length) 0 = (ws.map fun w => w.length + 1).sum := by
   rw [n2, List.foldl_toArray, vE, List.map_map]
   have : (fun w : Str => w.length + 1) ∘ av = fun w => w.length + 1 := by funext w; simp [iA]
   rw [this]; simp
  unfold JoinOk
  rw [e, Bool.not_eq_true']
  unfold Builtin.Str.tooLong
  exact decide_eq_false (by have := lz (n := 100000) (by omega); omega)
 have hs := strs_map (ws.map av)
 rw [List.map_map] at hs
 have hs' : strsOf (ws.map fun w => D.str (av w)) = some (ws.map av) := hs
 have hjl : Txt.join " " (ws.map av) = av (cK [32] ws) := by
  apply tO
  rw [gU]
  show (Builtin.Str.glued " " (ws.map av)).cps.toList = _
  rw [StrLaws.glued_eq_join]
  refine (mC " " _).trans ?_
  rw [List.map_map]
  have : (fun w : Str => w.cps.toList) ∘ av = id := by funext w; exact gU w
  rw [this, List.map_id]
  rfl
 simp [pL, bE, hs', hj, hjl]
theorem FJ (r1 r2 : List D → M D) (a0 : Option D) (G : DH) : ∀ (w : Wy), w.Ok → (∀ q ∈ w.ps, r1 [q.2.D] G = .ok (iJ q.2) G) → ∀ (t : List Nat) (a2 a3 : Option D), t.length + 25 * w.sz ≤ 100000 →
  ∃ b2 b3, fq (gP 2 3) (gi r1 r2) w.Ds [a0, some (.str (av t)), a2, a3] G = .nx [a0, some (.str (av (t ++ w.L))), b2, b3] G
 | .nil, _, _, t, a2, a3, _ => ⟨a2, a3, by simp [Wy.Ds, Cp, Wy.L]⟩
 | .cons g l w, h, hr, t, a2, a3, hl => by
  rw [Wy.Ok] at h
  rw [Wy.sz] at hl
  have Sa := g6 l h.1
  have hg := xj g
  have e0 := hr (g, l) (by simp [Wy.ps])
  have el : (Wy.cons g l w).L = [32, 40] ++ jb g ++ [32] ++ l.L ++ [41] ++ w.L := by simp [Wy.L]
  obtain ⟨b2, b3, e⟩ := FJ r1 r2 a0 G w h.2 (fun q hq => hr q (by simp [Wy.ps, hq])) (t ++ [32, 40] ++ jb g ++ [32] ++ l.L ++ [41]) (some (.str (av (jb g)))) (some l.D) (by simp; omega)
  refine ⟨b2, b3, ?_⟩
  have x1 : bu (.str (av t)) (.str " (") G = .ok (.str (av (t ++ [32, 40]))) G := pC t [32, 40] G (by simp; omega)
  have x2 := pC (t ++ [32, 40]) (jb g) G (by simp; omega)
  have x3 : bu (.str (av (t ++ [32, 40] ++ jb g))) (.str " ") G = .ok (.str (av (t ++ [32, 40] ++ jb g ++ [32]))) G := pC _ [32] G (by simp; omega)
  have x4 := pC (t ++ [32, 40] ++ jb g ++ [32]) l.L G (by simp; omega)
  have x5 : bu (.str (av (t ++ [32, 40] ++ jb g ++ [32] ++ l.L))) (.str ")") G = .ok (.str (av (t ++ [32, 40] ++ jb g ++ [32] ++ l.L ++ [41]))) G := pC _ [41] G (by simp; omega)
  have e0' : r1 [l.D] G = .ok (.str (av l.L)) G := e0
  rw [Wy.Ds, gG (τ1 := [a0, some (.str (av t)), some (.str (av (jb g))), some l.D]) rfl]
  have et : gi r1 r2 [a0, some (.str (av t)), some (.str (av (jb g))), some l.D] G = .nx [a0, some (.str (av (t ++ [32, 40] ++ jb g ++ [32] ++ l.L ++ [41]))), some (.str (av (jb g))), some l.D] G := by
   simp only [gi, kg, pN, iR, r9, w6, iN, iS, List.getElem?_cons_succ, List.getElem?_cons_zero, iD, bR, kX, x1, x2, x3, x4, x5, e0', oH, List.set_cons_succ, List.set_cons_zero, List.length_cons, List.length_nil, if_true]
  rw [et, mV, e, el]
  simp
theorem JF : ∀ {w : Wy} {n : Nat}, w.dep ≤ n + 1 → ∀ q ∈ w.ps, q.2.dep ≤ n
 | .nil, n, _, q, hq => by simp [Wy.ps] at hq
 | .cons g l w, n, h, q, hq => by
  rw [Wy.dep] at h
  rw [Wy.ps] at hq
  rcases List.mem_cons.mp hq with rfl | hq
  ·show l.dep ≤ n; omega
  ·exact JF (w := w) (by omega) q hq
theorem Ml : ∀ {w : Wy}, w.Nk → ∀ q ∈ w.ps, q.2.Nk
 | .nil, _, q, hq => by simp [Wy.ps] at hq
 | .cons g l w, h, q, hq => by
  rw [Wy.Nk] at h
  rw [Wy.ps] at hq
  rcases List.mem_cons.mp hq with rfl | hq
  ·exact h.1
  ·exact Ml h.2 q hq
theorem OE {n : Nat} (ih : ∀ l : Lk, l.Ok → l.Nk → l.sz ≤ 900 → l.dep ≤ n → ∀ G, aB n [l.D] G = .ok (iJ l) G) (w : Wy) (h : w.Ok) (hk : w.Nk) (hz : w.sz ≤ 900) (hd : w.dep ≤ n + 1) (G : DH) :
  aI (n + 1) [.tup w.Ds] G = .ok (.str (av (Lk.way w).L)) G := by
 have hs : ∀ q ∈ w.ps, q.2.sz ≤ 900 := fun q hq => Nat.le_trans (Dj h q hq).2 hz
 obtain ⟨b2, b3, e⟩ := FJ (aB n) (aI n) (some (.tup w.Ds)) G w h (fun q hq => ih q.2 (Dj h q hq).1 (Ml hk q hq) (hs q hq) (JF hd q hq) G) [40, 119, 97, 121] none none (by simp; omega)
 have e' : fq (gP 2 3) (gi (aB n) (aI n)) w.Ds [some (.tup w.Ds), some (.str "(way"), none, none] G = .nx [some (.tup w.Ds), some (.str (av ([40, 119, 97, 121] ++ w.L))), b2, b3] G := e
 have hl := EI w h
 have el : (Lk.way w).L = [40, 119, 97, 121] ++ w.L ++ [41] := by simp [Lk.L, fk]
 have hwl : w.L.length ≤ 25 * w.sz + 25 := by
  have := g6 (.way w) (by rw [Lk.Ok]; exact h)
  rw [el, Lk.sz] at this
  simp at this
  omega
 have x1 : bu (.str (av ([40, 119, 97, 121] ++ w.L))) (.str ")") G = .ok (.str (av ([40, 119, 97, 121] ++ w.L ++ [41]))) G := pC _ [41] G (by simp; omega)
 rw [el]
 generalize [40, 119, 97, 121] ++ w.L ++ [41] = r2 at x1 ⊢
 generalize [40, 119, 97, 121] ++ w.L = r1 at x1 e'
 unfold aI
 refine bK ?_ aN
 dsimp! [fF, e', x1]
theorem VR (xs : List D) (G G0 : DH) : (Out.ok (D.tup xs) G).fw G0 = .ok (.tup xs) G := rfl
theorem Hi {n : Nat} (ih : ∀ l : Lk, l.Ok → l.Nk → l.sz ≤ 900 → l.dep ≤ n → ∀ G, aB n [l.D] G = .ok (iJ l) G) (ih2 : ∀ w : Wy, w.Ok → w.Nk → w.sz ≤ 900 → w.dep ≤ n → ∀ G, aI n [.tup w.Ds] G = .ok (.str (av (Lk.way w).L)) G)
  (l : Lk) (h : l.Ok) (hk : l.Nk) (hz : l.sz ≤ 900) (hd : l.dep ≤ n + 1) (G : DH) : aB (n + 1) [l.D] G = .ok (iJ l) G := by
 have OC : ∀ a : D, j8 [a] 0 = some a := fun a => rfl
 have z1 : (1 : Nat) ≤ sizeLine := lz (by omega)
 have z2 : (2 : Nat) ≤ sizeLine := lz (by omega)
 unfold aB
 refine bK ?_ aN
 cases l with
 | any =>
  have e1 := eqs (av uF) "way" G sV (by decide +kernel) (b := false) (by decide +kernel)
  have e2 := eqs (av uF) "any" G sV (by decide +kernel) (b := true) (by decide +kernel)
  have et : iJ .any = .str "any" := rfl
  dsimp! [b8, Lk.D, OC, e1, e2, et]
 | mark => rw [Lk.Nk] at hk; exact hk.elim
 | kind nm =>
  rw [Lk.Ok] at h
  have hle := h.le
  have e1 := eqs (av gF) "way" G ju (by decide +kernel) (b := false) (by decide +kernel)
  have e2 := eqs (av gF) "any" G ju (by decide +kernel) (b := false) (by decide +kernel)
  have e3 := eqs (av gF) "kind" G ju (by decide +kernel) (b := true) (by decide +kernel)
  have x1 : bu (.str "(kind ") (.str (av nm)) G = .ok (.str (av ([40, 107, 105, 110, 100, 32] ++ nm))) G := pC [40, 107, 105, 110, 100, 32] nm G (by simp; omega)
  have x2 : bu (.str (av ([40, 107, 105, 110, 100, 32] ++ nm))) (.str ")") G = .ok (.str (av ([40, 107, 105, 110, 100, 32] ++ nm ++ [41]))) G := pC _ [41] G (by simp; omega)
  have et : iJ (.kind nm) = .str (av ([40, 107, 105, 110, 100, 32] ++ nm ++ [41])) := by
   unfold iJ
   rw [show (Lk.kind nm).L = [40, 107, 105, 110, 100, 32] ++ nm ++ [41] from by simp [Lk.L, gF]]
  rw [et]
  generalize [40, 107, 105, 110, 100, 32] ++ nm ++ [41] = r2 at x2 ⊢
  generalize [40, 107, 105, 110, 100, 32] ++ nm = r1 at x1 x2
  dsimp! [b8, Lk.D, yH, Fz, e1, e2, e3, x1, x2]
 | not l =>
  rw [Lk.Ok] at h
  rw [Lk.Nk] at hk
  rw [Lk.sz] at hz
  rw [Lk.dep] at hd
  have hl := g6 l h
  have e1 := eqs (av ef) "way" G jL (by decide +kernel) (b := false) (by decide +kernel)
  have e2 := eqs (av ef) "any" G jL (by decide +kernel) (b := false) (by decide +kernel)
  have e3 := eqs (av ef) "kind" G jL (by decide +kernel) (b := false) (by decide +kernel)
  have hs : yS (.tup [.str (av ef), l.D]) (some 1) none G = .ok (.tup [l.D]) G := by simp [yS, bE, cutD, HT.iI, eF, z1]
  have hc := fJ (gO := oN) (ks := []) (tt := kc) (te := aV 1 (aB n) (af (ai 0) (aq))) (own := fun q : Lk => [q.D]) (dat := Lk.D) (f := iJ) (c := fun _ => true) (G := G) (τ := [some (Lk.not l).D]) [l] [] (by simp) (fun _ _ => rfl) (fun i hi acc => rfl) (fun q hq acc => by
   have hq' : q = l := by simpa using hq
   subst hq'
   have er := ih q h hk (by omega) (by omega) (G ++ [.lst acc])
   dsimp! [mask, er])
  rw [List.nil_append, List.filter_eq_self.mpr (fun _ _ => rfl), Lk.D] at hc
  simp only [List.map_cons, List.map_nil] at hc
  have hcl : bx [iJ l] = true := rfl
  have hj : pL (.str " ") [.con [iJ l]] G = .ok (.str (av l.L)) G := by
   have := Dm [l.L] (by simp; omega) G
   simpa [cK, iJ] using this
  have x1 : bu (.str "(") (.str (av ef)) G = .ok (.str (av ([40] ++ ef))) G := pC [40] ef G (by decide)
  have x2 : bu (.str (av ([40] ++ ef))) (.str " ") G = .ok (.str (av ([40] ++ ef ++ [32]))) G := pC _ [32] G (by decide)
  have x3 := pC ([40] ++ ef ++ [32]) l.L G (by simp [ef]; omega)
  have x4 : bu (.str (av ([40] ++ ef ++ [32] ++ l.L))) (.str ")") G = .ok (.str (av ([40] ++ ef ++ [32] ++ l.L ++ [41]))) G := pC _ [41] G (by simp [ef]; omega)
  have et : iJ (.not l) = .str (av ([40] ++ ef ++ [32] ++ l.L ++ [41])) := by
   unfold iJ
   rw [show (Lk.not l).L = [40] ++ ef ++ [32] ++ l.L ++ [41] from by simp [Lk.L]]
  rw [et]
  generalize [40] ++ ef ++ [32] ++ l.L ++ [41] = r5 at x4 ⊢
  generalize [40] ++ ef ++ [32] ++ l.L = r4 at x3 x4
  generalize [40] ++ ef ++ [32] = r3 at x2 x3
  generalize [40] ++ ef = r2 at x1 x2
  dsimp! [b8, Lk.D, yH, e1, e2, e3, dQ, hs, VR, hc, mD hcl, hj, x1, x2, x3, x4]
 | bin e l r =>
  rw [Lk.Ok] at h
  rw [Lk.Nk] at hk
  rw [Lk.sz] at hz
  rw [Lk.dep] at hd
  have hl := g6 l h.1
  have hl2 := g6 r h.2
  have hbl := yI e
  have e1 := eqs (av (dU e)) "way" G (jt e) (by decide +kernel) (b := false) (by cases e <;> decide +kernel)
  have e2 := eqs (av (dU e)) "any" G (jt e) (by decide +kernel) (b := false) (by cases e <;> decide +kernel)
  have e3 := eqs (av (dU e)) "kind" G (jt e) (by decide +kernel) (b := false) (by cases e <;> decide +kernel)
  have hs : yS (.tup [.str (av (dU e)), l.D, r.D]) (some 1) none G = .ok (.tup [l.D, r.D]) G := by simp [yS, bE, cutD, HT.iI, eF, z2]
  have hc := fJ (gO := oN) (ks := []) (tt := kc) (te := aV 1 (aB n) (af (ai 0) (aq))) (own := fun q : Lk => [q.D]) (dat := Lk.D) (f := iJ) (c := fun _ => true) (G := G) (τ := [some (Lk.bin e l r).D]) [l, r] [] (by simp) (fun _ _ => rfl) (fun i hi acc => rfl) (fun q hq acc => by
   have er : aB n [q.D] (G ++ [.lst acc]) = .ok (iJ q) (G ++ [.lst acc]) := by
    rcases List.mem_cons.mp hq with rfl | hq
    ·exact ih _ h.1 hk.1 (by omega) (by omega) _
    ·have hq' : q = r := by simpa using hq
     subst hq'
     exact ih _ h.2 hk.2 (by omega) (by omega) _
   dsimp! [mask, er])
  rw [List.nil_append, List.filter_eq_self.mpr (fun _ _ => rfl), Lk.D] at hc
  simp only [List.map_cons, List.map_nil] at hc
  have hcl : bx [iJ l, iJ r] = true := rfl
  have hj : pL (.str " ") [.con [iJ l, iJ r]] G = .ok (.str (av (l.L ++ 32 :: r.L))) G := by
   have := Dm [l.L, r.L] (by simp; omega) G
   simpa [cK, iJ] using this
  have x1 : bu (.str "(") (.str (av (dU e))) G = .ok (.str (av ([40] ++ dU e))) G := pC [40] (dU e) G (by simp; omega)
  have x2 : bu (.str (av ([40] ++ dU e))) (.str " ") G = .ok (.str (av ([40] ++ dU e ++ [32]))) G := pC _ [32] G (by simp; omega)
  have x3 := pC ([40] ++ dU e ++ [32]) (l.L ++ 32 :: r.L) G (by simp; omega)
  have x4 : bu (.str (av ([40] ++ dU e ++ [32] ++ (l.L ++ 32 :: r.L)))) (.str ")") G = .ok (.str (av ([40] ++ dU e ++ [32] ++ (l.L ++ 32 :: r.L) ++ [41]))) G := pC _ [41] G (by simp; omega)
  have et : iJ (.bin e l r) = .str (av ([40] ++ dU e ++ [32] ++ (l.L ++ 32 :: r.L) ++ [41])) := by
   unfold iJ
   rw [show (Lk.bin e l r).L = [40] ++ dU e ++ [32] ++ (l.L ++ 32 :: r.L) ++ [41] from by simp [Lk.L]]
  rw [et]
  generalize [40] ++ dU e ++ [32] ++ (l.L ++ 32 :: r.L) ++ [41] = r5 at x4 ⊢
  generalize [40] ++ dU e ++ [32] ++ (l.L ++ 32 :: r.L) = r4 at x3 x4
  generalize l.L ++ 32 :: r.L = r6 at x3 hj
  generalize [40] ++ dU e ++ [32] = r3 at x2 x3
  generalize [40] ++ dU e = r2 at x1 x2
  dsimp! [b8, Lk.D, SW, e1, e2, e3, dQ, hs, VR, hc, mD hcl, hj, x1, x2, x3, x4]
 | way w =>
  rw [Lk.Ok] at h
  rw [Lk.Nk] at hk
  rw [Lk.sz] at hz
  rw [Lk.dep] at hd
  have e1 := eqs (av fk) "way" G qp (by decide +kernel) (b := true) (by decide +kernel)
  have er := ih2 w h hk.1 (by omega) (by omega) G
  have et : iJ (.way w) = .str (av (Lk.way w).L) := rfl
  rw [et]
  generalize (Lk.way w).L = r at er ⊢
  dsimp! [b8, Lk.D, yH, Fz, e1, er]
theorem uJ : ∀ n : Nat, (∀ l : Lk, l.Ok → l.Nk → l.sz ≤ 900 → l.dep ≤ n → ∀ G, aB n [l.D] G = .ok (iJ l) G) ∧ (∀ w : Wy, w.Ok → w.Nk → w.sz ≤ 900 → w.dep ≤ n → ∀ G, aI n [.tup w.Ds] G = .ok (.str (av (Lk.way w).L)) G)
 | 0 => ⟨fun l _ _ _ hd => by cases l <;> simp [Lk.dep] at hd, fun w _ _ _ hd => by cases w <;> simp [Wy.dep] at hd⟩
 | n + 1 => ⟨Hi (uJ n).1 (uJ n).2, OE (uJ n).1⟩
end K14
end
section
set_option Elab.async false
set_option linter.all false
set_option maxRecDepth 100000
set_option maxHeartbeats 1000000
namespace K14
open PySem PySem.Spec L2 L3
theorem Hj (ns pre : List Int) (G : DH) (k : Nat) (m : Int) (c : Option D) (hl : ns.length ≤ 63) (hp : pre.length ≤ 1000) :
  ∃ (x : Int) (c' : Option D), iL [some (.con (ns.map .int)), some (.int m), some (.obj G.length), some (.int (0 + (k : Int))), c] (G ++ [.lst (pre.map .int)]) =
   .nx [some (.con (ns.map .int)), some (.int m), some (.obj G.length), some (.int (0 + (k : Int))), c'] (G ++ [.lst ((pre ++ [x]).map .int)]) := by
 have XH : pre.length < sizeLine := Nat.lt_of_lt_of_le (by omega) (lz (n := 2000) (by omega))
 by_cases h0 : 0 < ns.length
 ·have hm : (0 : Int) ≤ (k : Int) % (ns.length : Int) ∧ (k : Int) % (ns.length : Int) < ns.length := ⟨Int.emod_nonneg _ (by omega), Int.emod_lt_of_pos _ (by omega)⟩
  obtain ⟨d, ed, VS⟩ := Cg (xs := ns.map D.int) (i := (k : Int) % (ns.length : Int)) hm.1 (by simpa using hm.2)
  obtain ⟨v, ev⟩ : ∃ v, d = .int v := by
   have := List.mem_of_getElem? VS
   simp at this
   obtain ⟨v, _, rfl⟩ := this
   exact ⟨v, rfl⟩
  subst ev
  have hmx : (if 1 < ns.length then (ns.length : Int) else 1) = ns.length := by split <;> omega
  have hlt : ns.length < 1073741824 := by omega
  have VT : (if (1 : Int) < (ns.length : Int) then (ns.length : Int) else 1) = ns.length := by split <;> omega
  have VU : (ns.length : Int) < 1073741824 := by omega
  have h0I : (0 : Int) < (ns.length : Int) := by omega
  refine ⟨v % 1000000000000000000 + 7919 * ((k : Int) / (ns.length : Int)), some (.int (v % 1000000000000000000)), ?_⟩
  simp! [iL, h0, ed, hmx, hlt, XH, VT, VU, h0I, zb, E6]
 ·have h1 : ns = [] := by
   cases ns with
   | nil => rfl
   | cons a r => exact absurd (by simp) h0
  subst h1
  refine ⟨0 + 7919 * ((k : Int) / 1), some (.int 0), ?_⟩
  simp! [iL, XH, zb, E6]
theorem yP (ns : List Int) (G : DH) (mm : Int) (hl : ns.length ≤ 63) : ∀ (m j : Nat) (pre : List Int) (a3 a4 : Option D), pre.length + m ≤ 1000 →
  ∃ (ds : List Int) (b3 b4 : Option D), ds.length = m ∧ fq (gN 3) iL ((List.range' j m).map fun (k : Nat) => .int (0 + (k : Int))) [some (.con (ns.map .int)), some (.int mm), some (.obj G.length), a3, a4] (G ++ [.lst (pre.map .int)]) =
   .nx [some (.con (ns.map .int)), some (.int mm), some (.obj G.length), b3, b4] (G ++ [.lst ((pre ++ ds).map .int)])
 | 0, j, pre, a3, a4, h => ⟨[], a3, a4, rfl, by simp [fq]⟩
 | m + 1, j, pre, a3, a4, h => by
  obtain ⟨x, c', e⟩ := Hj ns pre G j mm a4 hl (by omega)
  obtain ⟨ds, b3, b4, hd, ih⟩ := yP ns G mm hl m (j + 1) (pre ++ [x]) (some (.int (0 + (j : Int)))) c' (by simp; omega)
  refine ⟨x :: ds, b3, b4, by simp [hd], ?_⟩
  rw [List.range'_succ, List.map_cons, gG rfl]
  simp only [List.set_cons_succ, List.set_cons_zero, e, mV]
  rw [ih]
  simp
theorem JG (ns : List Int) (m : Nat) (hm : m ≤ 900) (hl : ns.length ≤ 63) (G : DH) : ∃ ds : List Int, ds.length = m ∧ g9 [.con (ns.map .int), .int m] G = .ok (.con (ds.map .int)) G := by
 obtain ⟨ds, b3, b4, hd, e⟩ := yP ns G m hl m 0 [] none none (by simp; omega)
 refine ⟨ds, hd, ?_⟩
 have hr := qD (j := (m : Int)) (by omega) (by omega)
 rw [Int.toNat_natCast] at hr
 unfold g9
 refine qG (R := [.dead]) ?_ (by rw [nH]; exact dB fun _ => ya)
 generalize ((List.range' 0 m).map fun (k : Nat) => D.int (0 + (k : Int))) = its at hr e
 simp only [List.map_nil, List.nil_append] at e
 simp! [kD, hr, e, Fp, bQ]
theorem FL (i : Int) (G : DH) : cX (.str jr) (.int (i % 26)) G = .ok (.str (av [97 + (i % 26).toNat])) G := by
 have VO : ∀ k < 26, jr.cps.toList[k]? = some (97 + k) := by decide +kernel
 have hk := VO (i % 26).toNat (by omega)
 have ha : j8 jr.cps.toList (i % 26) = some (97 + (i % 26).toNat) := by
  have := tw hk
  rwa [show (((i % 26).toNat : Nat) : Int) = i % 26 by omega] at this
 have hz : jr.length ≤ sizeLine := lz (by decide +kernel)
 simp only [cX, bE, hz, if_true, ha]
 rfl
theorem As (c : Int) : ∀ (m j : Nat) (l : List Nat) (a3 a4 a5 : Option D), j + m ≤ 7 → l.length = j + 1 → (∀ x ∈ l, 97 ≤ x ∧ x ≤ 122) →
  ∃ (l' : List Nat) (b3 b4 : Option D), l'.length = j + m + 1 ∧ (∀ x ∈ l', 97 ≤ x ∧ x ≤ 122) ∧ ∀ G, fq (gN 3) jf ((List.range' j m).map fun (k : Nat) => .int (0 + (k : Int))) [some (.int c), some (.str jr), some (.str (av l)), a3, a4, a5] G = .nx [some (.int c), some (.str jr), some (.str (av l')), b3, b4, a5] G
 | 0, j, l, a3, a4, a5, h, k1, k2 => ⟨l, a3, a4, by omega, k2, fun G => by simp [fq]⟩
 | m + 1, j, l, a3, a4, a5, h, k1, k2 => by
  have es := FL (c / 208 + 7 * (j : Int) * (j : Int) + c / 5408 % 26 * (j : Int))
  generalize hv : (c / 208 + 7 * (j : Int) * (j : Int) + c / 5408 % 26 * (j : Int)) = v at es
  have hd : 97 ≤ 97 + (v % 26).toNat ∧ 97 + (v % 26).toNat ≤ 122 := by omega
  have ha : ∀ G, bu (.str (av l)) (.str (av [97 + (v % 26).toNat])) G = .ok (.str (av (l ++ [97 + (v % 26).toNat]))) G := fun G => by
   obtain ⟨t, e, hc, _⟩ := Jz (av l) (av [97 + (v % 26).toNat]) G (by rw [iA, iA]; simp; omega)
   rw [e]
   have : t = av (l ++ [97 + (v % 26).toNat]) := tO (by rw [hc, gU, gU, gU])
   rw [this]
  obtain ⟨l', b3, b4, ku, lu, ih⟩ := As c m (j + 1) (l ++ [97 + (v % 26).toNat]) (some (.int (0 + (j : Int)))) (some (.int v)) a5 (by omega) (by simp; omega) (fun x hx => by
   rcases List.mem_append.mp hx with hx | hx
   ·exact k2 x hx
   ·simp at hx; omega)
  refine ⟨l', b3, b4, by omega, lu, fun G => ?_⟩
  have hjl : -18446744073709551616 < (j : Int) := by omega
  have hju : (j : Int) < 18446744073709551616 := by omega
  have e : jf [some (.int c), some (.str jr), some (.str (av l)), some (.int (0 + (j : Int))), a4, a5] G = .nx [some (.int c), some (.str jr), some (.str (av (l ++ [97 + (v % 26).toNat]))), some (.int (0 + (j : Int))), some (.int v), a5] G := by
   simp [jf, cZ, kg, pN, iR, r9, iD, bR, jS, kX, Qq, oH, gg, hv, es, ha, hjl, hju]
  rw [List.range'_succ, List.map_cons, gG rfl]
  simp only [List.set_cons_succ, List.set_cons_zero, e, mV]
  exact ih G
theorem OF : ∀ w ∈ words, words.any (· == av (w.cps.toList ++ [122])) = false ∧ w.cps.toList.length ≤ 7 := by decide +kernel
theorem LD (c : Int) : ∃ l : List Nat, Nm l ∧ ∀ G, fK [.int c] G = .ok (.str (av l)) G := by
 obtain ⟨l, b3, b4, ku, lu, e⟩ := As c (c / 26 % 8).toNat 0 [97 + (c % 26).toNat] none none none (by omega) rfl (by simp; omega)
 have es := FL c
 have hr := qD (j := c / 26 % 8) (by omega) (by omega)
 generalize ((List.range' 0 (c / 26 % 8).toNat).map fun (k : Nat) => D.int (0 + (k : Int))) = its at hr e
 have hg : PyData.strOk (av l) = true := rN fun x hx => by have := lu x hx; omega
 have hin := fun G => mU (av l) words G hg (by decide +kernel)
 have hcl : bx (words.map D.str) = true := dB fun _ => aN
 have hfw := fun G => eG (G := G) (ds := words.map D.str) (lz (by simp [words])) hcl
 have Sa : l.length ≤ 8 := by omega
 have hne : l ≠ [] := fun z => by rw [z] at ku; simp at ku
 have es' : ∀ G, cX (.str "abcdefghijklmnopqrstuvwxyz") (.int (c % 26)) G = .ok (.str (av [97 + (c % 26).toNat])) G := es
 have e' : ∀ G, fq (gN 3) jf its [some (.int c), some (.str "abcdefghijklmnopqrstuvwxyz"), some (.str (av [97 + (c % 26).toNat])), none, none, none] G = .nx [some (.int c), some (.str "abcdefghijklmnopqrstuvwxyz"), some (.str (av l)), b3, b4, none] G := e
 cases hb : words.any (· == av l) with
 | true =>
  obtain ⟨w, hw, hwe⟩ := List.any_eq_true.mp hb
  have VV : w = av l := by simpa using hwe
  obtain ⟨z1, z2⟩ := OF w hw
  rw [VV, gU] at z1 z2
  refine ⟨l ++ [122], ⟨by simp, by simp; omega, fun x hx => ?_, z1⟩, fun G => ?_⟩
  ·rcases List.mem_append.mp hx with hx | hx
   ·exact lu x hx
   ·simp at hx; omega
  ·obtain ⟨t, et, hc, _⟩ := Jz (av l) "z" G (by rw [iA, show ("z" : Str).length = 1 by decide +kernel]; omega)
   have ht : t = av (l ++ [122]) := tO (by rw [hc, gU, gU]; rfl)
   rw [ht] at et
   have EJ := hin G
   have JH := hfw G
   rw [hb] at EJ
   simp only [words, List.map_cons, List.map_nil] at EJ JH
   unfold fK
   refine bK ?_ aN
   simp [jX, u7, cZ, kg, pN, iR, r9, iD, bR, jS, kX, et, oH, gg, es', qF, iN, iS, Fb, hr, e', nM, dQ, qE, JH, rC, Cj, uK, bE, EJ, xU, zc, GH, xT, Ci, zV, Fd, tM]
 | false =>
  refine ⟨l, ⟨hne, Sa, lu, hb⟩, fun G => ?_⟩
  have EJ := hin G
  have JH := hfw G
  rw [hb] at EJ
  simp only [words, List.map_cons, List.map_nil] at EJ JH
  unfold fK
  refine bK ?_ aN
  simp [jX, u7, cZ, kg, pN, iR, r9, iD, bR, jS, kX, oH, gg, es', qF, iN, iS, Fb, hr, e', nM, dQ, qE, JH, rC, Cj, uK, bE, EJ, xU, zc, GH, xT, Ci, zV, Fd, tM]
noncomputable def e7 (ps : List (List Nat)) : List D := ps.map fun l => .str (av l)
theorem LF (ps : List (List Nat)) (h : ∀ l ∈ ps, Nm l) (hn : ps ≠ []) (v : Int) : ∃ l, Nm l ∧ j8 (e7 ps) (v % (ps.length : Int)) = some (.str (av l)) := by
 have hp : 0 < ps.length := List.length_pos_iff.mpr hn
 have h0 : 0 ≤ v % (ps.length : Int) := Int.emod_nonneg _ (by omega)
 have h1 : v % (ps.length : Int) < ps.length := Int.emod_lt_of_pos _ (by omega)
 obtain ⟨d, e, e'⟩ := Cg (xs := e7 ps) h0 (by simpa [e7] using h1)
 have := List.mem_of_getElem? e'
 obtain ⟨l, hl, rfl⟩ := List.mem_map.mp this
 exact ⟨l, h l hl, e⟩
noncomputable def Ch (x : Str) : Prop := ∀ c ∈ x.cps.toList, c < 1114112
theorem kM (x z : Str) (c k : Nat) (zs : List Str) (v : Int) (hx : Ch x) (hl : x.length ≤ 100000) (hv : 0 ≤ v ∧ v < 1000) (hz : zs[v.toNat]? = some z) (hk : z.length ≤ k) (hk1 : 1 ≤ k) (hk2 : k ≤ 10) (hzc : ∀ a ∈ z.cps.toList, a < 1114112) (VW : ∀ y cur, bY cur (rp c z.cps.toList y) = bY cur y) :
  ∃ y : Str, (∀ G, kY ⟨#[c]⟩ zs x (.int v) G = .ok (.str y) G) ∧ bY [] y.cps.toList = bY [] x.cps.toList ∧ Ch y ∧ y.length ≤ k * x.length := by
 refine ⟨Txt.replace x ⟨#[c]⟩ z, fun G => Ll hv hz (by omega) (by omega), ?_, ?_, ?_⟩
 ·rw [kO, VW]
 ·intro a ha
  rw [kO] at ha
  rcases BA ha with h | h
  ·exact hzc a h
  ·exact hx a h
 ·rw [str_len, str_len, kO]
  exact yc c k _ (by rw [← str_len]; exact hk) hk1 _
theorem JI (x : Str) (hx : Ch x) (hl : x.length ≤ 100000) (v : Int) : ∃ y : Str, (∀ G, kY " " [" ", "  ", "\n "] x (.int (v % 3)) G = .ok (.str y) G) ∧ bY [] y.cps.toList = bY [] x.cps.toList ∧ Ch y ∧ y.length ≤ 2 * x.length := by
 rcases (by omega : v % 3 = 0 ∨ v % 3 = 1 ∨ v % 3 = 2) with q | q | q <;> rw [q]
 ·exact kM x " " 32 2 _ 0 hx hl (by omega) rfl (by decide +kernel) (by omega) (by omega) (by decide +kernel) (fun y cur => Ec _ (.inl rfl) y cur)
 ·exact kM x "  " 32 2 _ 1 hx hl (by omega) rfl (by decide +kernel) (by omega) (by omega) (by decide +kernel) (fun y cur => Ec _ (.inr (.inl rfl)) y cur)
 ·exact kM x "\n " 32 2 _ 2 hx hl (by omega) rfl (by decide +kernel) (by omega) (by omega) (by decide +kernel) (fun y cur => Ec _ (.inr (.inr rfl)) y cur)
theorem JJ (x : Str) (hx : Ch x) (hl : x.length ≤ 100000) (v : Int) : ∃ y : Str, (∀ G, kY "(" ["( ", "\n(", " ( "] x (.int (v % 3)) G = .ok (.str y) G) ∧ bY [] y.cps.toList = bY [] x.cps.toList ∧ Ch y ∧ y.length ≤ 3 * x.length := by
 rcases (by omega : v % 3 = 0 ∨ v % 3 = 1 ∨ v % 3 = 2) with q | q | q <;> rw [q]
 ·exact kM x "( " 40 3 _ 0 hx hl (by omega) rfl (by decide +kernel) (by omega) (by omega) (by decide +kernel) (fun y cur => Ed _ (.inl rfl) y cur)
 ·exact kM x "\n(" 40 3 _ 1 hx hl (by omega) rfl (by decide +kernel) (by omega) (by omega) (by decide +kernel) (fun y cur => Ed _ (.inr (.inl rfl)) y cur)
 ·exact kM x " ( " 40 3 _ 2 hx hl (by omega) rfl (by decide +kernel) (by omega) (by omega) (by decide +kernel) (fun y cur => Ed _ (.inr (.inr rfl)) y cur)
theorem JK (x : Str) (hx : Ch x) (hl : x.length ≤ 100000) (v : Int) : ∃ y : Str, (∀ G, kY ")" [" )", ")\n", "\n ) "] x (.int (v % 3)) G = .ok (.str y) G) ∧ bY [] y.cps.toList = bY [] x.cps.toList ∧ Ch y ∧ y.length ≤ 4 * x.length := by
 rcases (by omega : v % 3 = 0 ∨ v % 3 = 1 ∨ v % 3 = 2) with q | q | q <;> rw [q]
 ·exact kM x " )" 41 4 _ 0 hx hl (by omega) rfl (by decide +kernel) (by omega) (by omega) (by decide +kernel) (fun y cur => Ef _ (.inl rfl) y cur)
 ·exact kM x ")\n" 41 4 _ 1 hx hl (by omega) rfl (by decide +kernel) (by omega) (by omega) (by decide +kernel) (fun y cur => Ef _ (.inr (.inl rfl)) y cur)
 ·exact kM x "\n ) " 41 4 _ 2 hx hl (by omega) rfl (by decide +kernel) (by omega) (by omega) (by decide +kernel) (fun y cur => Ef _ (.inr (.inr rfl)) y cur)
theorem EK (c : Int) : ∃ l : List Nat, Nm l ∧ ∀ G, fK [.int c] G = .ok (.str (av l)) G := LD c
noncomputable def Mm (c : Int) : List Nat := Classical.choose (EK c)
theorem OG (c : Int) : Nm (Mm c) := (Classical.choose_spec (EK c)).1
theorem LG (c : Int) (G : DH) : fK [.int c] G = .ok (.str (av (Mm c))) G := (Classical.choose_spec (EK c)).2 G
noncomputable def BH (ds : List Int) (k : Nat) : Int := ds.getD k 0
theorem yQ (ds : List Int) (k : Nat) (h : k < ds.length) : j8 (ds.map D.int) (k : Int) = some (.int (BH ds k)) := by
 unfold BH
 refine tw ?_
 rw [List.getElem?_map, List.getElem?_eq_getElem h]
 simp [List.getD, List.getElem?_eq_getElem h]
end K14
end
section
set_option Elab.async false
set_option linter.all false
set_option maxRecDepth 100000
set_option maxHeartbeats 1000000
namespace K14
open PySem PySem.Spec L2 L3
noncomputable def Au (ps : List (List Nat)) (r : List D → M D) (d : Int) : Prop := ∀ (ds : List Int) (A B : DH), ds.length ≤ 900 → ∃ (l : Lk) (ds' : List Int) (E : DH), l.Ok ∧ l.Nk ∧ (l.dep : Int) ≤ d + 1 ∧ l.sz + 3 * ds'.length ≤ 1 + 3 * ds.length ∧
 r [.obj A.length, .con (e7 ps), .int d] (A ++ .lst (ds.map .int) :: B) = .ok l.D (A ++ .lst (ds'.map .int) :: (B ++ E))
noncomputable def GoodW (ps : List (List Nat)) (r : List D → M D) (d : Int) : Prop := ∀ (many : Int) (ds : List Int) (A B : DH), ds.length ≤ 900 → 1 ≤ many → many ≤ 20 → ∃ (w : Wy) (ds' : List Int) (E : DH), w.Ok ∧ w.Nk ∧ w ≠ .nil ∧ (w.dep : Int) ≤ d + 1 ∧ w.sz + 3 * ds'.length ≤ many.toNat + 3 * ds.length ∧ ds'.length ≤ ds.length ∧
 r [.obj A.length, .con (e7 ps), .int d, .int many] (A ++ .lst (ds.map .int) :: B) = .ok (.tup w.Ds) (A ++ .lst (ds'.map .int) :: (B ++ E))
theorem JL (l : Lk) : 1 ≤ l.sz := by rw [yO]; omega
theorem Sw (A B E : DH) (x y : DO) : (A ++ x :: (B ++ y :: E))[A.length + (B.length + 1)]? = some y := by
 have e : A ++ x :: (B ++ y :: E) = (A ++ x :: B) ++ y :: E := by simp
 have l : A.length + (B.length + 1) = (A ++ x :: B).length := by simp
 rw [e, l]
 exact zb _ _ _
theorem hs2 (A B E : DH) (x y z : DO) : (A ++ x :: (B ++ y :: E)).set (A.length + (B.length + 1)) z = A ++ x :: (B ++ z :: E) := by
 have e : A ++ x :: (B ++ y :: E) = (A ++ x :: B) ++ y :: E := by simp
 have l : A.length + (B.length + 1) = (A ++ x :: B).length := by simp
 rw [e, l, E6]
 simp
theorem JM (v : Int) : j8 [D.str "down", .str "deep", .str "later"] (v % 3) = some (.str (av (jb (v % 3).toNat))) := by
 rcases (by omega : v % 3 = 0 ∨ v % 3 = 1 ∨ v % 3 = 2) with q | q | q <;> rw [q] <;> rfl
theorem LH (A C : DH) (a1 a2 a3 a4 a5 : Option D) (ds : List Int) (hl : ds.length ≤ 900) : ∃ (g : Nat) (ri : List Int), ri.length ≤ ds.length ∧
  jw (gn (aC wF (aA g8 (af (ai 0) (aq))) (eC (.int 0)))) (bT 6 (aC cX (eFn (aA bQ (af (eC (.str "down")) (af (eC (.str "deep")) (af (eC (.str "later")) (aq)))))) (aC eB (ck "list" lg (ai 0) (af (eC (.int 0)) (aq))) (eC (.int 3))))) (bJ) [some (.obj A.length), a1, a2, a3, a4, a5, some (.str "down")] (A ++ .lst (ds.map .int) :: C) =
   .nx [some (.obj A.length), a1, a2, a3, a4, a5, some (.str (av (jb g)))] (A ++ .lst (ri.map .int) :: C) := by
 have g0 : ∀ x Y, (A ++ x :: Y)[A.length]? = some x := fun x Y => zb A x Y
 have s0 : ∀ x z Y, (A ++ x :: Y).set A.length z = A ++ z :: Y := fun x z Y => E6 A x z Y
 cases ds with
 | nil =>
  refine ⟨0, [], by simp, ?_⟩
  have e0 : av (jb 0) = ("down" : Str) := rfl
  simp! [g0, wF, e0]
 | cons c ds =>
  simp only [List.length_cons] at hl
  refine ⟨(c % 3).toNat, ds, by simp, ?_⟩
  have hz : ds.length + 1 ≤ sizeLine := lz (by omega)
  have hp : (0 : Int) < (ds.length : Int) + 1 := by omega
  have z3 : (3 : Nat) ≤ sizeLine := lz (by omega)
  have f3 : ∀ (x y z : Str) (G : DH), (bQ [.str x, .str y, .str z] G).fw G = .ok (.con [.str x, .str y, .str z]) G := fun x y z G => eG (by simpa using z3) rfl
  have ea := JM c
  have ep : ∀ r, ck "list" lg (ai 0) (af (eC (.int 0)) (aq)) (some (.obj A.length) :: r) (A ++ .lst ((c :: ds).map .int) :: C) = .ok (.int c) (A ++ .lst (ds.map .int) :: C) := fun r => by
   simp only [jV, iR, List.getElem?_cons_zero, iD, iE, g0, iN, r9, bR, iS, kX, lg, beq_self_eq_true, if_true, List.map_cons, Int.toNat_zero, List.eraseIdx_cons_zero, s0]
   simp
  rw [rC]
  have ec : gn (aC wF (aA g8 (af (ai 0) (aq))) (eC (.int 0))) [some (.obj A.length), a1, a2, a3, a4, a5, some (.str "down")] (A ++ .lst ((c :: ds).map .int) :: C) = .ok true (A ++ .lst ((c :: ds).map .int) :: C) := by
   simp! [g0, wF, hz, hp]
  rw [ec, zc]
  simp only [kg, pN, dQ, qE, iN, r9, iS, iD, bR, kX, f3, ep, jS, cX, bE, ea]
  simp [kX, iD, cX, bE, ea, oH]
theorem JN {ps : List (List Nat)} {r1 r2 : List D → M D} {d : Int} (hr : Au ps r1 (d - 1)) (A B E : DH) (a3 a5 a6 : Option D) (st : List D) (hst : st.length ≤ 900) (ds : List Int) (hl : ds.length ≤ 900) :
  ∃ (g : Nat) (l : Lk) (ds' : List Int) (E' : DH) (b6 : Option D), l.Ok ∧ l.Nk ∧ (l.dep : Int) ≤ d ∧ l.sz + 3 * ds'.length ≤ 1 + 3 * ds.length ∧
  lY r1 r2 [some (.obj A.length), some (.con (e7 ps)), some (.int d), a3, some (.obj (A.length + (B.length + 1))), a5, a6] (A ++ .lst (ds.map .int) :: (B ++ .lst st :: E)) =
   .nx [some (.obj A.length), some (.con (e7 ps)), some (.int d), a3, some (.obj (A.length + (B.length + 1))), a5, b6] (A ++ .lst (ds'.map .int) :: (B ++ .lst (st ++ [.tup [.str (av (jb g)), l.D]]) :: E')) := by
 obtain ⟨g, ri, h1, e1⟩ := LH A (B ++ .lst st :: E) (some (.con (e7 ps))) (some (.int d)) a3 (some (.obj (A.length + (B.length + 1)))) a5 ds hl
 obtain ⟨l, BK, E2, lo, lk, ld, SY, e2⟩ := hr ri A (B ++ .lst st :: E) (by omega)
 refine ⟨g, l, BK, E ++ E2, some (.str (av (jb g))), lo, lk, by omega, by omega, ?_⟩
 have hz : st.length < sizeLine := Nat.lt_of_lt_of_le (by omega) (lz (n := 2000) (by omega))
 have z2 : (2 : Nat) ≤ sizeLine := lz (by omega)
 have hg := Sw A B
 have hs := hs2 A B
 simp only [List.append_assoc, List.cons_append] at e2
 have e3 : (bT 6 (eC (.str "down"))) [some (.obj A.length), some (.con (e7 ps)), some (.int d), a3, some (.obj (A.length + (B.length + 1))), a5, a6] (A ++ .lst (ds.map .int) :: (B ++ .lst st :: E)) = .nx [some (.obj A.length), some (.con (e7 ps)), some (.int d), a3, some (.obj (A.length + (B.length + 1))), a5, some (.str "down")] (A ++ .lst (ds.map .int) :: (B ++ .lst st :: E)) := by
  simp only [kg, r9, oH, List.set_cons_succ, List.set_cons_zero]
 rw [lY, cZ, e3, gg, cZ, e1, gg]
 generalize e7 ps = pl at e2
 generalize l.D = ld at e2
 generalize av (jb g) = gs
 generalize ri.map D.int = d1 at e2
 generalize BK.map D.int = d2 at e2
 simp! [hg, hs, e2, hz, z2]
theorem Dn {ps : List (List Nat)} {r1 r2 : List D → M D} {d : Int} (hd : 1 ≤ d) (hr : Au ps r1 (d - 1)) (A B : DH) (a3 : Option D) : ∀ (m j : Nat) (E : DH) (a5 a6 : Option D) (st : List D) (ds : List Int), st.length + m ≤ 900 → ds.length ≤ 900 →
  ∃ (w : Wy) (ds' : List Int) (E' : DH) (b5 b6 : Option D), w.Ok ∧ w.Nk ∧ (w = .nil → m = 0) ∧ (w.dep : Int) ≤ d + 1 ∧ w.sz + 3 * ds'.length ≤ m + 3 * ds.length ∧ ds'.length ≤ ds.length ∧
  fq (gN 5) (lY r1 r2) ((List.range' j m).map fun (k : Nat) => .int (0 + (k : Int))) [some (.obj A.length), some (.con (e7 ps)), some (.int d), a3, some (.obj (A.length + (B.length + 1))), a5, a6] (A ++ .lst (ds.map .int) :: (B ++ .lst st :: E)) =
   .nx [some (.obj A.length), some (.con (e7 ps)), some (.int d), a3, some (.obj (A.length + (B.length + 1))), b5, b6] (A ++ .lst (ds'.map .int) :: (B ++ .lst (st ++ w.Ds) :: E'))
 | 0, j, E, a5, a6, st, ds, _, _ => ⟨.nil, ds, E, a5, a6, by rw [Wy.Ok]; trivial, by rw [Wy.Nk]; trivial, fun _ => rfl, by rw [Wy.dep]; omega, by rw [Wy.sz]; omega, by omega, by simp [fq, Wy.Ds]⟩
 | m + 1, j, E, a5, a6, st, ds, hst, hl => by
  obtain ⟨g, l, ri, E1, b6, lo, lk, ld, SY, e1⟩ := JN (r2 := r2) hr A B E a3 (some (.int (0 + (j : Int)))) a6 st (by omega) ds hl
  have hp := JL l
  obtain ⟨w, BK, E2, c5, c6, wo, wk, wn, wd, wz, wl, e2⟩ := Dn (r2 := r2) hd hr A B a3 m (j + 1) E1 (some (.int (0 + (j : Int)))) b6 (st ++ [.tup [.str (av (jb g)), l.D]]) ri (by simp; omega) (by omega)
  refine ⟨.cons g l w, BK, E2, c5, c6, by rw [Wy.Ok]; exact ⟨lo, wo⟩, by rw [Wy.Nk]; exact ⟨lk, wk⟩, (fun z => nomatch z), by rw [Wy.dep]; omega, by rw [Wy.sz]; omega, by omega, ?_⟩
  rw [List.range'_succ, List.map_cons, gG rfl]
  simp only [List.set_cons_succ, List.set_cons_zero, e1, mV]
  rw [e2]
  simp [Wy.Ds]
theorem JO {ps : List (List Nat)} {r1 r2 : List D → M D} {d : Int} (hd : 1 ≤ d) (hr : Au ps r1 (d - 1)) : GoodW ps (fun ds => cH 7 (jE r1 r2) ds) d := by
 intro many ds A B hl h1 Wi
 obtain ⟨w, ds', E, b5, b6, wo, wk, wn, wd, wz, wl, e⟩ := Dn (r2 := r2) hd hr A B (some (.int many)) many.toNat 0 [] none none [] ds (by simp; omega) hl
 have hwn : w ≠ .nil := fun z => by have := wn z; omega
 have hwl : w.Ds.length ≤ sizeLine := by
  have := BE w
  rw [FF, List.length_map]
  exact lz (by omega)
 refine ⟨w, ds', .lst w.Ds :: E, wo, wk, hwn, wd, wz, wl, ?_⟩
 have hr := qD (j := many) (by omega) (by omega)
 generalize ((List.range' 0 many.toNat).map fun (k : Nat) => D.int (0 + (k : Int))) = rg at hr e
 rw [List.nil_append] at e
 have n0 : bQ [] (A ++ .lst (ds.map .int) :: B) = .ok (.obj (A.length + (B.length + 1))) (A ++ .lst (ds.map .int) :: (B ++ [.lst []])) := by simp [bQ]
 have hg := Sw A B E (.lst (ds'.map .int)) (.lst w.Ds)
 generalize e7 ps = pl at e
 generalize ds.map D.int = d1 at e n0
 generalize ds'.map D.int = d2 at e hg
 simp! [jE, n0, hr, e, rZ, hg, eF, hwl]
end K14
end
section
set_option Elab.async false
set_option linter.all false
set_option maxRecDepth 100000
set_option maxHeartbeats 1000000
namespace K14
open PySem PySem.Spec L2 L3
theorem JP (A B : DH) (a1 a2 a4 a5 : Option D) (ds : List Int) (hl : ds.length ≤ 900) : ∃ (c : Int) (ri : List Int), ri.length ≤ ds.length ∧ (ri ≠ [] → ri.length + 1 = ds.length) ∧
  jw (gn (aC wF (aA g8 (af (ai 0) (aq))) (eC (.int 0)))) (bT 3 (ck "list" lg (ai 0) (af (eC (.int 0)) (aq)))) (bJ) [some (.obj A.length), a1, a2, some (.int 0), a4, a5] (A ++ .lst (ds.map .int) :: B) =
   .nx [some (.obj A.length), a1, a2, some (.int c), a4, a5] (A ++ .lst (ri.map .int) :: B) := by
 have g0 : ∀ x Y, (A ++ x :: Y)[A.length]? = some x := fun x Y => zb A x Y
 have s0 : ∀ x z Y, (A ++ x :: Y).set A.length z = A ++ z :: Y := fun x z Y => E6 A x z Y
 cases ds with
 | nil =>
  refine ⟨0, [], by simp, fun h => absurd rfl h, ?_⟩
  simp! [g0, wF]
 | cons c ds =>
  simp only [List.length_cons] at hl
  refine ⟨c, ds, by simp, fun _ => by simp, ?_⟩
  have hz : ds.length + 1 ≤ sizeLine := lz (by omega)
  have hp : (0 : Int) < (ds.length : Int) + 1 := by omega
  have ep : ck "list" lg (ai 0) (af (eC (.int 0)) (aq)) [some (.obj A.length), a1, a2, some (.int 0), a4, a5] (A ++ .lst ((c :: ds).map .int) :: B) = .ok (.int c) (A ++ .lst (ds.map .int) :: B) := by
   simp only [jV, iR, List.getElem?_cons_zero, iD, iE, g0, iN, r9, bR, iS, kX, lg, beq_self_eq_true, if_true, List.map_cons, Int.toNat_zero, List.eraseIdx_cons_zero, s0]
   simp
  have ec : gn (aC wF (aA g8 (af (ai 0) (aq))) (eC (.int 0))) [some (.obj A.length), a1, a2, some (.int 0), a4, a5] (A ++ .lst ((c :: ds).map .int) :: B) = .ok true (A ++ .lst ((c :: ds).map .int) :: B) := by
   simp! [g0, wF, hz, hp]
  rw [rC, ec, zc, kg, ep, oH]
  rfl
theorem JQ {ps : List (List Nat)} (h : ∀ l ∈ ps, Nm l) (hn : ps ≠ []) (hl : ps.length ≤ 1000) (c : Int) (a0 a2 a4 a5 : Option D) (H : DH) : ∃ l : Lk, l.Ok ∧ l.Nk ∧ l.dep = 1 ∧ l.sz = 1 ∧
  dF (aC cX (eFn (aA bQ (af (aA eF (af (eC (.str "any")) (aq))) (af (aA eF (af (eC (.str "kind")) (af (aC cX (ai 1) (aC eB (aC gp (ai 3) (eC (.int 21))) (aA g8 (af (ai 1) (aq))))) (aq)))) (aq))))) (aA zU (af (aC wF (aC eB (aC gp (ai 3) (eC (.int 7))) (eC (.int 3))) (eC (.int 0))) (aq)))) [a0, some (.con (e7 ps)), a2, some (.int c), a4, a5] H = .rt l.D H := by
 obtain ⟨l, Sa, el⟩ := LF ps h hn (c / 21)
 have z1 : (1 : Nat) ≤ sizeLine := lz (by omega)
 have z2 : (2 : Nat) ≤ sizeLine := lz (by omega)
 have hz : ps.length ≤ sizeLine := lz (by omega)
 have hsl : (e7 ps).length = ps.length := by simp [e7]
 have hpos : 0 < ps.length := List.length_pos_iff.mpr hn
 have Mn : (0 : Int) < (ps.length : Int) := by omega
 have f2 : (bQ [.tup [.str "any"], .tup [.str "kind", .str (av l)]] H).fw H = .ok (.con [.tup [.str "any"], .tup [.str "kind", .str (av l)]]) H := eG (by simpa using z2) rfl
 have b0 : ∀ x y : D, j8 [x, y] 0 = some x := fun x y => rfl
 have b1 : ∀ x y : D, j8 [x, y] 1 = some y := fun x y => rfl
 by_cases q : (0 : Int) < c / 7 % 3
 ·refine ⟨.kind l, by rw [Lk.Ok]; exact Sa, by rw [Lk.Nk]; trivial, by rw [Lk.dep], by rw [Lk.sz], ?_⟩
  have eD : (Lk.kind l).D = .tup [.str "kind", .str (av l)] := by rw [Lk.D]; rfl
  rw [eD]
  simp! [el, z1, z2, hz, hsl, hpos, Mn, dQ, f2, wF, q, zU, b1]
 ·refine ⟨.any, by rw [Lk.Ok]; trivial, by rw [Lk.Nk]; trivial, by rw [Lk.dep], by rw [Lk.sz], ?_⟩
  have eD : Lk.any.D = .tup [.str "any"] := by rw [Lk.D]; rfl
  rw [eD]
  simp! [el, z1, z2, hz, hsl, hpos, Mn, dQ, f2, wF, q, zU, b0]
theorem OH (v : Int) (h : v = 3 ∨ v = 4) : ∃ e : Bool, j8 [D.str "both", .str "either"] (v - 3) = some (.str (av (dU e))) := by
 rcases h with rfl | rfl
 ·exact ⟨false, rfl⟩
 ·exact ⟨true, rfl⟩
theorem Hl {ps : List (List Nat)} (h : ∀ l ∈ ps, Nm l) (hn : ps ≠ []) (hl : ps.length ≤ 1000) {r1 r2 : List D → M D} {d : Int} (hd : 0 ≤ d) (hr1 : 2 ≤ d → Au ps r1 (d - 1)) (hr2 : 2 ≤ d → GoodW ps r2 (d - 1)) : Au ps (fun ds => cH 6 (fL r1 r2) ds) d := by
 intro ds A B hdl
 obtain ⟨c, ri, k1, k2, e1⟩ := JP A B (some (.con (e7 ps))) (some (.int d)) none none ds hdl
 have g0 : ∀ x Y, (A ++ x :: Y)[A.length]? = some x := fun x Y => zb A x Y
 have hz1 : ri.length ≤ sizeLine := lz (by omega)
 have z2 : (2 : Nat) ≤ sizeLine := lz (by omega)
 have z3 : (3 : Nat) ≤ sizeLine := lz (by omega)
 have e0 : (bT 3 (eC (.int 0))) [some (.obj A.length), some (.con (e7 ps)), some (.int d), none, none, none] (A ++ .lst (ds.map .int) :: B) = .nx [some (.obj A.length), some (.con (e7 ps)), some (.int d), some (.int 0), none, none] (A ++ .lst (ds.map .int) :: B) := by
  simp only [kg, r9, oH, List.set_cons_succ, List.set_cons_zero]
 have e2 : (bT 4 (aC eB (ai 3) (eC (.int 7)))) [some (.obj A.length), some (.con (e7 ps)), some (.int d), some (.int c), none, none] (A ++ .lst (ri.map .int) :: B) = .nx [some (.obj A.length), some (.con (e7 ps)), some (.int d), some (.int c), some (.int (c % 7)), none] (A ++ .lst (ri.map .int) :: B) := by
  simp! []
 suffices hs : ∃ (l : Lk) (ds' : List Int) (E : DH), l.Ok ∧ l.Nk ∧ (l.dep : Int) ≤ d + 1 ∧ l.sz + 3 * ds'.length ≤ 1 + 3 * ds.length ∧ fL r1 r2 [some (.obj A.length), some (.con (e7 ps)), some (.int d), none, none, none] (A ++ .lst (ds.map .int) :: B) = .rt l.D (A ++ .lst (ds'.map .int) :: (B ++ E)) by
  obtain ⟨l, ds', E, x1, x2, x3, x4, x5⟩ := hs
  refine ⟨l, ds', E, x1, x2, x3, x4, ?_⟩
  show cH 6 (fL r1 r2) _ _ = _
  rw [u7]
  show (fL r1 r2 [some (.obj A.length), some (.con (e7 ps)), some (.int d), none, none, none] (A ++ .lst (ds.map .int) :: B)).fn = _
  rw [x5]; rfl
 rw [fL, cZ, e0, gg, cZ, e1, gg, cZ, e2, gg]
 by_cases leaf : d < 2 ∨ ri = [] ∨ c % 7 < 2
 ·obtain ⟨l, lo, lk, ld, SY, el⟩ := JQ h hn hl c (some (.obj A.length)) (some (.int d)) (some (.int (c % 7))) none (A ++ .lst (ri.map .int) :: B)
  refine ⟨l, ri, [], lo, lk, by omega, by omega, ?_⟩
  have ec : rR (gn (aC J0 (ai 2) (eC (.int 2)))) (rR (gn (aC (g7 false) (aA g8 (af (ai 0) (aq))) (eC (.int 0)))) (gn (aC J0 (ai 4) (eC (.int 2))))) [some (.obj A.length), some (.con (e7 ps)), some (.int d), some (.int c), some (.int (c % 7)), none] (A ++ .lst (ri.map .int) :: B) = .ok true (A ++ .lst (ri.map .int) :: B) := by
   by_cases q1 : d < 2
   ·simp! [q1]
   ·by_cases q2 : ri = []
    ·subst q2
     simp! [q1, g0, cW]
    ·have q3 : c % 7 < 2 := by
      rcases leaf with q | q | q
      ·exact absurd q q1
      ·exact absurd q q2
      ·exact q
     have qn : ¬ ((ri.length : Int) = 0) := fun z => q2 (List.length_eq_zero_iff.mp (by omega))
     simp! [q1, g0, q2, q3, hz1, qn, cW]
  rw [cZ, rC, ec, zc, el, zV, List.append_nil]
 ·have q1 : ¬ d < 2 := fun z => leaf (.inl z)
  have q2 : ¬ ri = [] := fun z => leaf (.inr (.inl z))
  have q3 : ¬ c % 7 < 2 := fun z => leaf (.inr (.inr z))
  have qn : ¬ ((ri.length : Int) = 0) := fun z => q2 (List.length_eq_zero_iff.mp (by omega))
  have k3 := k2 q2
  have ec : rR (gn (aC J0 (ai 2) (eC (.int 2)))) (rR (gn (aC (g7 false) (aA g8 (af (ai 0) (aq))) (eC (.int 0)))) (gn (aC J0 (ai 4) (eC (.int 2))))) [some (.obj A.length), some (.con (e7 ps)), some (.int d), some (.int c), some (.int (c % 7)), none] (A ++ .lst (ri.map .int) :: B) = .ok false (A ++ .lst (ri.map .int) :: B) := by
   simp! [q1, g0, q2, q3, hz1, qn, cW]
  have hL := hr1 (by omega)
  have hW := hr2 (by omega)
  rw [cZ, rC, ec, GH, tM, gg]
  by_cases w2 : c % 7 = 2
  ·obtain ⟨l, BK, E, lo, lk, ld, SY, er⟩ := hL ri A B (by omega)
   refine ⟨.not l, BK, E, by rw [Lk.Ok]; exact lo, by rw [Lk.Nk]; exact lk, by rw [Lk.dep]; omega, by rw [Lk.sz]; omega, ?_⟩
   have eD : (Lk.not l).D = .tup [.str "not", l.D] := by rw [Lk.D]; rfl
   rw [eD]
   generalize l.D = ld at er
   generalize e7 ps = pl at er
   generalize ri.map D.int = d1 at er
   generalize BK.map D.int = d2 at er
   simp! [w2, er, z2, cW]
  ·by_cases w5 : c % 7 < 5
   ·obtain ⟨l, BK, E, lo, lk, ld, SY, er⟩ := hL ri A B (by omega)
    have hp := JL l
    obtain ⟨r, XI, E3, ro, rk, rd, rz, OX⟩ := hL BK A (B ++ E) (by omega)
    obtain ⟨e, ee⟩ := OH (c % 7) (by omega)
    refine ⟨.bin e l r, XI, E ++ E3, by rw [Lk.Ok]; exact ⟨lo, ro⟩, by rw [Lk.Nk]; exact ⟨lk, rk⟩, by rw [Lk.dep]; omega, by rw [Lk.sz]; omega, ?_⟩
    have eD : (Lk.bin e l r).D = .tup [.str (av (dU e)), l.D, r.D] := by rw [Lk.D]
    rw [eD]
    simp only [List.append_assoc] at OX
    have f2 : ∀ (x y : Str) (G : DH), (bQ [.str x, .str y] G).fw G = .ok (.con [.str x, .str y]) G := fun x y G => eG (by simpa using z2) rfl
    generalize l.D = ld at er
    generalize r.D = rd at OX
    generalize av (dU e) = be at ee
    generalize e7 ps = pl at er OX
    generalize ri.map D.int = d1 at er
    generalize BK.map D.int = d2 at er OX
    generalize XI.map D.int = d3 at OX
    have VX : ((c % 7 : Int) == 2) = false := beq_eq_false_iff_ne.mpr w2
    simp! [w2, VX, w5, er, OX, z3, t6, dQ, f2, ee, cW]
   ·obtain ⟨w, BK, E, wo, wk, wn, wd, wz, wl, er⟩ := hW (1 + c / 7 % 3) ri A B (by omega) (by omega) (by omega)
    refine ⟨.way w, BK, E, by rw [Lk.Ok]; exact wo, by rw [Lk.Nk]; exact ⟨wk, wn⟩, by rw [Lk.dep]; omega, by rw [Lk.sz]; omega, ?_⟩
    have eD : (Lk.way w).D = .tup [.str "way", .tup w.Ds] := by rw [Lk.D]; rfl
    rw [eD]
    generalize w.Ds = ws at er
    generalize e7 ps = pl at er
    generalize ri.map D.int = d1 at er
    generalize BK.map D.int = d2 at er
    have VX : ((c % 7 : Int) == 2) = false := beq_eq_false_iff_ne.mpr w2
    simp! [w2, VX, w5, er, z2, cW]
theorem good {ps : List (List Nat)} (h : ∀ l ∈ ps, Nm l) (hn : ps ≠ []) (hl : ps.length ≤ 1000) : ∀ (n : Nat) (d : Int), d < n → (0 ≤ d → Au ps (bO n) d) ∧ (1 ≤ d → GoodW ps (cJ n) d)
 | 0, d, hd => ⟨fun z => by omega, fun z => by omega⟩
 | n + 1, d, hd => by
  have ih := good h hn hl n (d - 1) (by omega)
  refine ⟨fun z => ?_, fun z => ?_⟩
  ·have := Hl h hn hl (r1 := bO n) (r2 := cJ n) z (fun z => ih.1 (by omega)) (fun z => ih.2 (by omega))
   intro ds A B hdl
   obtain ⟨l, ds', E, x1, x2, x3, x4, x5⟩ := this ds A B hdl
   exact ⟨l, ds', E, x1, x2, x3, x4, x5⟩
  ·have := JO (r1 := bO n) (r2 := cJ n) z (ih.1 (by omega))
   intro m ds A B hdl h1 h2
   obtain ⟨w, ds', E, x1, x2, x3, x4, x5, x6, x7⟩ := this m ds A B hdl h1 h2
   exact ⟨w, ds', E, x1, x2, x3, x4, x5, x6, x7⟩
end K14
end
section
set_option Elab.async false
set_option linter.all false
set_option maxRecDepth 100000
set_option maxHeartbeats 1000000
namespace K14
open PySem PySem.Spec L2 L3
noncomputable def TL : MS := bq (bT 8 (aV 1 gC (af (ai 5) (aq)))) (bq (bT 9 (kZ " " [" ", "  ", "\n "] (ai 8) (aC eB (aC cX (ai 1) (eC (.int 6))) (eC (.int 3))))) (bq (jw (gn (aC (g7 false) (aC eB (aC gp (aC cX (ai 1) (eC (.int 6))) (eC (.int 3))) (eC (.int 2))) (eC (.int 1)))) (bT 9 (kZ "(" ["( ", "\n(", " ( "] (ai 9) (aC eB (aC cX (ai 1) (eC (.int 7))) (eC (.int 3))))) (bJ)) (bq (jw (gn (aC (g7 false) (aC eB (aC gp (aC cX (ai 1) (eC (.int 6))) (eC (.int 6))) (eC (.int 2))) (eC (.int 1)))) (bT 9 (kZ ")" [" )", ")\n", "\n ) "] (ai 9) (aC eB (aC cX (ai 1) (eC (.int 8))) (eC (.int 3))))) (bJ)) (bq (jw (rR (gn (aC (g7 true) (aV 1 iU (af (ai 5) (aq))) (ai 8))) (rR (gn (aC (g7 true) (aV 1 fV (af (ai 8) (aq))) (ai 5))) (gn (aC (g7 true) (aV 1 fV (af (ai 9) (aq))) (ai 5))))) (dF (eC (.bl false))) (bJ)) (bq (jw (gn (aC (g7 true) (aV 1 fV (af (NN (y9 " (" "(") (ai 8)) (aq))) (ai 5))) (dF (eC (.bl false))) (bJ)) (bq (bT 10 (aA eF (af (eC (.str "both")) (af (aA eF (af (eC (.str "mark")) (aq))) (af (aC cX (aC cX (ai 5) (eC (.int 0))) (eC (.int 1))) (aq)))))) (dF (aC (g7 false) (aV 1 eY (af (ai 10) (aq))) (aC bu (aC bu (eC (.str "(both mark ")) (aV 1 ic (af (aC cX (aC cX (ai 5) (eC (.int 0))) (eC (.int 1))) (aq)))) (eC (.str ")")))))))))))
theorem Se : Ei = bq (bT 3 (aC bu (eFn (oG oN [] (eFn (DK (ai 0) (iC (eC (.int 4))) (iC (eC (.int 24))))) (kc) (aC eB (ai 0) (aC Gf (eC (.int 10)) (eC (.int 18)))))) (eFn (DK (ai 1) (iC (eC (.int 4))) (iC (eC (.int 8))))))) (bq (bT 4 (aC bu (eC (.int 1)) (aC eB (aC cX (ai 1) (eC (.int 5))) (eC (.int 5))))) (bq (jw (gn (aC (g7 false) (aC eB (aC gp (aC cX (ai 1) (eC (.int 5))) (eC (.int 5))) (eC (.int 3))) (eC (.int 1)))) (A9) (bJ)) (bq (bT 5 (aV 4 nQ (af (ai 3) (af (ai 2) (af (eC (.int 6)) (af (ai 4) (aq))))))) (bq (jw (gn (aC (g7 false) (aC eB (aC gp (aC cX (ai 1) (eC (.int 5))) (eC (.int 5))) (eC (.int 3))) (eC (.int 2)))) (yh) (bJ)) TL)))) := rfl
theorem LI {w : Wy} (h : w.Ok) : bY [] (Lk.way w).L = (Lk.way w).W := by
 have e : (Lk.way w).L = 40 :: (fk ++ (w.L ++ 41 :: [])) := by simp [Lk.L]
 rw [e, Am, kL (by decide) (by unfold Bw; decide) (Jq w _ (OV _)), Ez w h _, An]
 simp [Lk.W, bY, jO]
theorem OI {x : Str} (hch : Ch x) : Ch (Txt.replace x " (" "(") := by
 obtain ⟨qs, e1, e2⟩ := vf x " (" "(" rfl
 intro a ha
 rw [e2, mC] at ha
 have key : ∀ (qs : List (List Nat)) (u v : List Nat), a ∈ cK u qs → a ∈ u ∨ a ∈ cK v qs := by
  intro qs
  induction qs with
  | nil => intro u v h; simp [cK] at h
  | cons p qs ih =>
   intro u v h
   cases qs with
   | nil => exact .inr h
   | cons q qs =>
    rw [cK] at h ⊢
    rcases List.mem_append.mp h with h | h
    ·rcases List.mem_append.mp h with h | h
     ·exact .inr (by simp [h])
     ·exact .inl h
    ·rcases ih u v h with h | h
     ·exact .inl h
     ·exact .inr (by simp only [List.mem_append]; exact .inr h)
 rcases key _ _ (" (" : Str).cps.toList ha with h | h
 ·have : a = 40 := by
   have h' : a ∈ [40] := h
   simpa using h'
  omega
 ·rw [← mC, ← e1] at h
  exact hch a h
theorem LJ (ds : List Int) (hd : ds.length = 9) {g : Nat} {l : Lk} {w' : Wy} (ho : (Wy.cons g l w').Ok) (hk : (Wy.cons g l w').Nk) (hsz : (Wy.cons g l w').sz ≤ 119) (SX : (Wy.cons g l w').dep ≤ 80) (a0 a2 a3 a4 a6 a7 : Option D) (G : DH) :
  TL [a0, some (.con (ds.map .int)), a2, a3, a4, some (.tup (Wy.cons g l w').Ds), a6, a7, none, none, none] G = .rt (.bl true) G := by
 have hlo : l.Ok := by rw [Wy.Ok] at ho; exact ho.1
 have hlk : l.Nk := by rw [Wy.Nk] at hk; exact hk.1
 have hls : l.sz ≤ 119 := by rw [Wy.sz] at hsz; omega
 have hld : l.dep ≤ 80 := by rw [Wy.dep] at SX; omega
 have i0 : j8 (Wy.cons g l w').Ds 0 = some (.tup [.str (av (jb g)), l.D]) := tw (show (Wy.cons g l w').Ds[0]? = some (.tup [.str (av (jb g)), l.D]) from by rw [Wy.Ds]; rfl)
 have hn : Wy.cons g l w' ≠ .nil := fun z => nomatch z
 generalize Wy.cons g l w' = w at ho hk hsz SX i0 hn ⊢
 have x6 : j8 (ds.map D.int) 6 = some (.int (BH ds 6)) := yQ ds 6 (by omega)
 have x7 : j8 (ds.map D.int) 7 = some (.int (BH ds 7)) := yQ ds 7 (by omega)
 have x8 : j8 (ds.map D.int) 8 = some (.int (BH ds 8)) := yQ ds 8 (by omega)
 generalize BH ds 6 = v6 at x6
 generalize BH ds 7 = v7 at x7
 generalize BH ds 8 = v8 at x8
 have z1 : (1 : Nat) ≤ sizeLine := lz (by omega)
 have z3 : (3 : Nat) ≤ sizeLine := lz (by omega)
 have S0 : (Lk.way w).Ok := by rw [Lk.Ok]; exact ho
 have hch : Ch (av (Lk.way w).L) := fun c hc => by rw [gU] at hc; exact uH _ S0 c hc
 have hlen : (av (Lk.way w).L).length ≤ 3000 := by
  have := g6 _ S0
  rw [Lk.sz] at this
  rw [iA]; omega
 have hlx : bY [] (av (Lk.way w).L).cps.toList = (Lk.way w).W := by rw [gU]; exact LI ho
 have tx : gC [.tup w.Ds] G = .ok (.str (av (Lk.way w).L)) G := (uJ 80).2 w ho hk (by omega) SX G
 have sh : iU [.tup w.Ds] G = .ok (.str (av (Lk.way w).L)) G := Dl ho (by omega) G
 obtain ⟨y1, q1, w1, c1, k1⟩ := JI (av (Lk.way w).L) hch (by omega) v6
 obtain ⟨y2, q2, w2, c2, k2⟩ := JJ y1 c1 (by omega) v7
 have i1 : ∃ y3, bY [] y3.cps.toList = (Lk.way w).W ∧ Ch y3 ∧ y3.length ≤ 18000 ∧ (jw (gn (aC (g7 false) (aC eB (aC gp (aC cX (ai 1) (eC (.int 6))) (eC (.int 3))) (eC (.int 2))) (eC (.int 1)))) (bT 9 (kZ "(" ["( ", "\n(", " ( "] (ai 9) (aC eB (aC cX (ai 1) (eC (.int 7))) (eC (.int 3))))) (bJ)) [a0, some (.con (ds.map .int)), a2, a3, a4, some (.tup w.Ds), a6, a7, some (.str (av (Lk.way w).L)), some (.str y1), none] G = .nx [a0, some (.con (ds.map .int)), a2, a3, a4, some (.tup w.Ds), a6, a7, some (.str (av (Lk.way w).L)), some (.str y3), none] G := by
  cases hb : (v6 / 3 % 2 == 1) with
  | true =>
   refine ⟨y2, by rw [w2, w1, hlx], c2, by omega, ?_⟩
   simp! [x6, x7, cW, hb, q2]
  | false =>
   refine ⟨y1, by rw [w1, hlx], c1, by omega, ?_⟩
   simp! [x6, x7, cW, hb]
 obtain ⟨y3, w3, c3, k3, i1⟩ := i1
 obtain ⟨y4, q4, w4, c4, k4⟩ := JK y3 c3 (by omega) v8
 have i2 : ∃ y5, bY [] y5.cps.toList = (Lk.way w).W ∧ Ch y5 ∧ y5.length ≤ 72000 ∧ (jw (gn (aC (g7 false) (aC eB (aC gp (aC cX (ai 1) (eC (.int 6))) (eC (.int 6))) (eC (.int 2))) (eC (.int 1)))) (bT 9 (kZ ")" [" )", ")\n", "\n ) "] (ai 9) (aC eB (aC cX (ai 1) (eC (.int 8))) (eC (.int 3))))) (bJ)) [a0, some (.con (ds.map .int)), a2, a3, a4, some (.tup w.Ds), a6, a7, some (.str (av (Lk.way w).L)), some (.str y3), none] G = .nx [a0, some (.con (ds.map .int)), a2, a3, a4, some (.tup w.Ds), a6, a7, some (.str (av (Lk.way w).L)), some (.str y5), none] G := by
  cases hb : (v6 / 6 % 2 == 1) with
  | true =>
   refine ⟨y4, by rw [w4, w3], c4, by omega, ?_⟩
   simp! [x6, x8, cW, hb, q4]
  | false =>
   refine ⟨y3, w3, c3, by omega, ?_⟩
   simp! [x6, x8, cW, hb]
 obtain ⟨y5, w5, c5, k5, i2⟩ := i2
 have r1 := BD ho hk hn hsz y5 c5 (by omega) w5 G
 have r2 := BD ho hk hn hsz (av (Lk.way w).L) hch (by omega) hlx G
 have r3 := BD ho hk hn hsz (Txt.replace (av (Lk.way w).L) " (" "(") (OI hch) (by have := Ln (av (Lk.way w).L); omega) (by rw [Lm, hlx]) G
 have p3 := Ft (G := G) (y := " (") (z := "(") (x := av (Lk.way w).L) (by decide +kernel) (by omega) (by decide +kernel)
 have q5 : g7 true (.tup w.Ds) (.tup w.Ds) G = .ok (.bl false) G := I8 true (.tup w.Ds) G (by rw [D.plain]; exact Jw w ho) (by have := Jx w; rw [D.dp]; omega)
 have q7 := gb true (av (Lk.way w).L) (av (Lk.way w).L) G (rN (uH _ S0)) (rN (uH _ S0))
 rw [show (av (Lk.way w).L == av (Lk.way w).L) = true by simp] at q7
 have hmo : (Lk.bin false .mark l).Ok := by rw [Lk.Ok]; exact ⟨by rw [Lk.Ok]; trivial, hlo⟩
 have mk := uI hmo (by rw [Lk.sz, Lk.sz]; omega) G
 have em : (Lk.bin false .mark l).D = .tup [.str "both", .tup [.str "mark"], l.D] := by rw [Lk.D, Lk.D]; rfl
 have eL : (Lk.bin false .mark l).L = [40, 98, 111, 116, 104, 32, 109, 97, 114, 107, 32] ++ l.L ++ [41] := by simp [Lk.L, dU, markL]
 have lt : ic [l.D] G = .ok (.str (av l.L)) G := (uJ 80).1 l hlo hlk (by omega) hld G
 have hll := g6 l hlo
 have b1 : bu (.str "(both mark ") (.str (av l.L)) G = .ok (.str (av ([40, 98, 111, 116, 104, 32, 109, 97, 114, 107, 32] ++ l.L))) G := pC [40, 98, 111, 116, 104, 32, 109, 97, 114, 107, 32] l.L G (by simp; omega)
 have b2 : bu (.str (av ([40, 98, 111, 116, 104, 32, 109, 97, 114, 107, 32] ++ l.L))) (.str ")") G = .ok (.str (av ([40, 98, 111, 116, 104, 32, 109, 97, 114, 107, 32] ++ l.L ++ [41]))) G := pC _ [41] G (by simp; omega)
 rw [em] at mk
 have mk' : eY [.tup [.str "both", .tup [.str "mark"], l.D]] G = .ok (.str (av (Lk.bin false .mark l).L)) G := mk
 have q8 := gb false (av (Lk.bin false .mark l).L) (av (Lk.bin false .mark l).L) G (rN (uH _ hmo)) (rN (uH _ hmo))
 rw [show (av (Lk.bin false .mark l).L == av (Lk.bin false .mark l).L) = true by simp] at q8
 rw [← eL] at b2
 generalize [40, 98, 111, 116, 104, 32, 109, 97, 114, 107, 32] ++ l.L = u1 at b1 b2
 generalize av (Lk.bin false .mark l).L = u2 at mk' q8 b2
 have A : (bT 8 (aV 1 gC (af (ai 5) (aq)))) [a0, some (.con (ds.map .int)), a2, a3, a4, some (.tup w.Ds), a6, a7, none, none, none] G = .nx [a0, some (.con (ds.map .int)), a2, a3, a4, some (.tup w.Ds), a6, a7, some (.str (av (Lk.way w).L)), none, none] G := by simp! [tx]
 have B : (bT 9 (kZ " " [" ", "  ", "\n "] (ai 8) (aC eB (aC cX (ai 1) (eC (.int 6))) (eC (.int 3))))) [a0, some (.con (ds.map .int)), a2, a3, a4, some (.tup w.Ds), a6, a7, some (.str (av (Lk.way w).L)), none, none] G = .nx [a0, some (.con (ds.map .int)), a2, a3, a4, some (.tup w.Ds), a6, a7, some (.str (av (Lk.way w).L)), some (.str y1), none] G := by simp! [x6, q1]
 generalize Txt.replace (av (Lk.way w).L) " (" "(" = y6 at r3 p3
 rw [TL, cZ, A, gg, cZ, B, gg, cZ, i1, gg, cZ, i2, gg]
 generalize av (Lk.way w).L = x at r2 p3 q7 sh
 generalize w.Ds = wd at *
 generalize l.D = lD at *
 generalize av l.L = lt at *
 dsimp! [r1, p3, r3, q5, sh, q7, r2, i0, Fz, z1, z3, mk', lt, b1, b2, q8]
end K14
end
section
set_option Elab.async false
set_option linter.all false
set_option maxRecDepth 100000
set_option maxHeartbeats 1000000
namespace K14
open PySem PySem.Spec L2 L3
theorem Mp (ns : List Int) (a b : Nat) : ∃ ys : List Int, cutD (ns.map .int) (some (a : Int)) (some (b : Int)) = ys.map .int ∧ ys.length ≤ b - a := by
 refine ⟨(ns.drop (min a ns.length)).take (min b ns.length - min a ns.length), ?_, ?_⟩
 ·unfold cutD
  rw [HT.wU, HT.wU]
  simp [List.map_take, List.map_drop]
 ·simp; omega
theorem Sf (ns : List Int) (b : Int) (hb : 0 ≤ b) : ∃ ys : List Int, cutD (ns.map .int) none (some b) = ys.map .int ∧ ys.length ≤ b.toNat ∧ ys.length ≤ ns.length := by
 obtain ⟨k, rfl⟩ := Int.eq_ofNat_of_zero_le hb
 refine ⟨ns.take (min k ns.length), ?_, ?_, ?_⟩
 ·unfold cutD
  rw [HT.wU, HT.xA]
  simp [List.map_take]
 ·simp; omega
 ·simp; omega
theorem Ho (ds : List Int) (v8 : Int) (x8 : j8 (ds.map D.int) 8 = some (.int v8)) {l : Lk} (h : l.Ok) (hk : l.Nk) (k : Nat) (hk7 : k ≤ 100) (a0 a2 a3 a4 a5 a8 a9 C6 : Option D) (G : DH) : ∃ l' : Lk, l'.Ok ∧ l'.Nk ∧ l'.sz ≤ l.sz + 1 ∧ l'.dep ≤ l.dep + 2 ∧
  vj [a0, some (.con (ds.map .int)), a2, a3, a4, a5, some l.D, some (.int (0 + (k : Int))), a8, a9, C6] G = .nx [a0, some (.con (ds.map .int)), a2, a3, a4, a5, some l'.D, some (.int (0 + (k : Int))), a8, a9, C6] G := by
 have z1 : (1 : Nat) ≤ sizeLine := lz (by omega)
 have z2 : (2 : Nat) ≤ sizeLine := lz (by omega)
 have z3 : (3 : Nat) ≤ sizeLine := lz (by omega)
 have f3 : (bQ [.str "down", .str "deep", .str "later"] G).fw G = .ok (.con [.str "down", .str "deep", .str "later"]) G := eG (by simpa using z3) rfl
 have eg := JM (k : Int)
 generalize hg : ((k : Int) % 3).toNat = g at eg
 have dN : (Lk.not l).D = .tup [.str "not", l.D] := by rw [Lk.D]; rfl
 have dW : (Lk.way (.cons g l .nil)).D = .tup [.str "way", .tup [.tup [.str (av (jb g)), l.D]]] := by rw [Lk.D, Wy.Ds, Wy.Ds]; rfl
 have f2 : (bQ [(Lk.not l).D, (Lk.way (.cons g l .nil)).D] G).fw G = .ok (.con [(Lk.not l).D, (Lk.way (.cons g l .nil)).D]) G := eG (by simpa using z2) (by simp [bI, cy, lR])
 have kp : (0 : Int) < 3 + (k : Int) := by omega
 have kl : (3 : Int) + (k : Int) < 1073741824 := by omega
 rcases (by omega : v8 / (3 + (k : Int)) % 2 = 0 ∨ v8 / (3 + (k : Int)) % 2 = 1) with q | q
 ·refine ⟨.not l, by rw [Lk.Ok]; exact h, by rw [Lk.Nk]; exact hk, by rw [Lk.sz]; omega, by rw [Lk.dep]; omega, ?_⟩
  have a2' := yH (a := (Lk.not l).D) (b := (Lk.way (.cons g l .nil)).D)
  rw [dN, dW] at f2 a2'
  rw [dN]
  generalize l.D = lD at f2 a2'
  generalize av (jb g) = gs at f2 a2' eg
  simp! [vj, z1, z2, z3, dQ, f3, eg, f2, x8, kp, kl, q, a2']
 ·refine ⟨.way (.cons g l .nil), by simp only [Lk.Ok, Wy.Ok]; exact ⟨h, trivial⟩, by simp only [Lk.Nk, Wy.Nk]; exact ⟨⟨hk, trivial⟩, fun z => nomatch z⟩, by simp only [Lk.sz, Wy.sz]; omega, by simp only [Lk.dep, Wy.dep]; omega, ?_⟩
  have a2' := Fz (a := (Lk.not l).D) (b := (Lk.way (.cons g l .nil)).D)
  rw [dN, dW] at f2 a2'
  rw [dW]
  generalize l.D = lD at f2 a2'
  generalize av (jb g) = gs at f2 a2' eg
  simp! [vj, z1, z2, z3, dQ, f3, eg, f2, x8, kp, kl, q, a2']
theorem Av (ds : List Int) (v8 : Int) (x8 : j8 (ds.map D.int) 8 = some (.int v8)) (a0 a2 a3 a4 a5 a8 a9 C6 : Option D) (G : DH) : ∀ (m j : Nat), j + m ≤ 100 → ∀ (l : Lk), l.Ok → l.Nk → ∀ a7 : Option D, ∃ (l' : Lk) (b7 : Option D), l'.Ok ∧ l'.Nk ∧ l'.sz ≤ l.sz + m ∧ l'.dep ≤ l.dep + 2 * m ∧
  fq (gN 7) vj ((List.range' j m).map fun (k : Nat) => .int (0 + (k : Int))) [a0, some (.con (ds.map .int)), a2, a3, a4, a5, some l.D, a7, a8, a9, C6] G = .nx [a0, some (.con (ds.map .int)), a2, a3, a4, a5, some l'.D, b7, a8, a9, C6] G
 | 0, j, _, l, h, hk, a7 => ⟨l, a7, h, hk, by omega, by omega, by simp [fq]⟩
 | m + 1, j, hj, l, h, hk, a7 => by
  obtain ⟨l1, o1, k1, s1, d1, e1⟩ := Ho ds v8 x8 h hk j (by omega) a0 a2 a3 a4 a5 a8 a9 C6 G
  obtain ⟨l2, b7, o2, k2, s2, d2, e2⟩ := Av ds v8 x8 a0 a2 a3 a4 a5 a8 a9 C6 G m (j + 1) (by omega) l1 o1 k1 (some (.int (0 + (j : Int))))
  refine ⟨l2, b7, o2, k2, by omega, by omega, ?_⟩
  rw [List.range'_succ, List.map_cons, gG rfl]
  simp only [List.set_cons_succ, List.set_cons_zero, e1, mV]
  exact e2
theorem JR (ds : List Int) (v6 v8 : Int) (x6 : j8 (ds.map D.int) 6 = some (.int v6)) (x8 : j8 (ds.map D.int) 8 = some (.int v8)) {g : Nat} {l : Lk} {w : Wy} (ho : (Wy.cons g l w).Ok) (hk : (Wy.cons g l w).Nk) (hz : (Wy.cons g l w).sz ≤ 100) (a0 a2 a3 a4 a6 a7 a8 a9 C6 : Option D) (G : DH) :
  ∃ (l' : Lk) (b6 b7 : Option D), (Wy.cons g l' w).Ok ∧ (Wy.cons g l' w).Nk ∧ (Wy.cons g l' w).sz ≤ (Wy.cons g l w).sz + 6 ∧ (Wy.cons g l' w).dep ≤ (Wy.cons g l w).dep + 12 ∧
  yh [a0, some (.con (ds.map .int)), a2, a3, a4, some (.tup (Wy.cons g l w).Ds), a6, a7, a8, a9, C6] G = .nx [a0, some (.con (ds.map .int)), a2, a3, a4, some (.tup (Wy.cons g l' w).Ds), b6, b7, a8, a9, C6] G := by
 rw [Wy.Ok] at ho
 rw [Wy.Nk] at hk
 obtain ⟨l', b7, o1, k1, s1, d1, e1⟩ := Av ds v8 x8 a0 a2 a3 a4 (some (.tup (Wy.cons g l w).Ds)) a8 a9 C6 G (v6 / 12 % 7).toNat 0 (by omega) l ho.1 hk.1 a7
 refine ⟨l', some l'.D, b7, by rw [Wy.Ok]; exact ⟨o1, ho.2⟩, by rw [Wy.Nk]; exact ⟨k1, hk.2⟩, by rw [Wy.sz, Wy.sz]; omega, by rw [Wy.dep, Wy.dep]; omega, ?_⟩
 have hr := qD (j := v6 / 12 % 7) (by omega) (by omega)
 generalize ((List.range' 0 (v6 / 12 % 7).toNat).map fun (k : Nat) => D.int (0 + (k : Int))) = rg at hr e1
 have i0 : j8 (Wy.cons g l w).Ds 0 = some (.tup [.str (av (jb g)), l.D]) := tw (show (Wy.cons g l w).Ds[0]? = some (.tup [.str (av (jb g)), l.D]) from by rw [Wy.Ds]; rfl)
 have hwl : w.Ds.length ≤ 1000 := by
  have := EF w
  rw [Wy.sz] at hz
  omega
 have z1 : (1 : Nat) ≤ sizeLine := lz (by omega)
 have z2 : (2 : Nat) ≤ sizeLine := lz (by omega)
 have hw1 : w.Ds.length ≤ sizeLine := lz (by omega)
 have hw2 : w.Ds.length + 1 ≤ sizeLine := lz (by omega)
 have hs : yS (.tup (Wy.cons g l w).Ds) (some 1) none G = .ok (.tup w.Ds) G := by
  rw [Wy.Ds]
  have e1 : HT.iI (w.Ds.length + 1) 0 (some 1) = 1 := by
   show min (1 : Int).toNat (w.Ds.length + 1) = 1
   simp
  simp [yS, bE, cutD, e1, HT.xA, eF, hw1]
 have A : (bT 6 (aC cX (aC cX (ai 5) (eC (.int 0))) (eC (.int 1)))) [a0, some (.con (ds.map .int)), a2, a3, a4, some (.tup (Wy.cons g l w).Ds), a6, a7, a8, a9, C6] G = .nx [a0, some (.con (ds.map .int)), a2, a3, a4, some (.tup (Wy.cons g l w).Ds), some l.D, a7, a8, a9, C6] G := by
  generalize (Wy.cons g l w).Ds = wd at i0
  simp! [i0, Fz]
 have B : (jN mR (gN 7) (af (aC eB (aC gp (aC cX (ai 1) (eC (.int 6))) (eC (.int 12))) (eC (.int 7))) (aq)) vj) [a0, some (.con (ds.map .int)), a2, a3, a4, some (.tup (Wy.cons g l w).Ds), some l.D, a7, a8, a9, C6] G = .nx [a0, some (.con (ds.map .int)), a2, a3, a4, some (.tup (Wy.cons g l w).Ds), some l'.D, b7, a8, a9, C6] G := by
  generalize (Wy.cons g l w).Ds = wd at e1
  simp! [x6, hr, e1]
 rw [yh, cZ, A, gg, cZ, B, gg]
 have eD : (Wy.cons g l' w).Ds = .tup [.str (av (jb g)), l'.D] :: w.Ds := by rw [Wy.Ds]
 rw [eD]
 generalize (Wy.cons g l w).Ds = wd at i0 hs
 generalize l'.D = lD
 simp! [i0, yH, z1, z2, dQ, hs, VR, eF, hw2]
theorem JS (ns : List Int) (hl : ns.length ≤ 63) : ∃ G, Fx [.con (ns.map .int)] [] = .ok (.bl true) G := by
 obtain ⟨ds, hd, ed⟩ := JG ns 9 (by omega) hl []
 have VS : g9 [.con (ns.map .int), .int 9] [] = .ok (.con (ds.map .int)) [] := ed
 have r4 := qD (j := 4) (by omega) (by omega)
 have p4 := fJ (gO := oN) (ks := [false, true]) (tt := kc) (te := aV 1 fK (af (aC cX (ai 2) (ai 0)) (aq))) (own := fun k : Nat => [D.int (0 + (k : Int))]) (dat := fun k : Nat => D.int (0 + (k : Int))) (f := fun k => D.str (av (Mm (BH ds k)))) (c := fun _ => true) (G := []) (τ := [some (.con (ns.map .int)), some (.con (ds.map .int)), none, none, none, none, none, none, none, none, none]) (List.range' 0 4) [] (by simp) (fun _ _ => rfl) (fun i hi acc => rfl) (fun k hk acc => by
  have hk' : k < 4 := by have := List.mem_range'_1.mp hk; omega
  have x := yQ ds k (by omega)
  have e := LG (BH ds k) ([] ++ [.lst acc])
  simp only [List.nil_append] at e
  simp! [mask, x, e])
 simp only [List.nil_append, List.length_nil, List.filter_eq_self.mpr (fun _ _ => rfl)] at p4
 have hps : ((List.range' 0 4).map fun k => D.str (av (Mm (BH ds k)))) = e7 ((List.range' 0 4).map fun k => Mm (BH ds k)) := by simp [e7]
 rw [hps] at p4
 have op : ∀ l ∈ (List.range' 0 4).map fun k => Mm (BH ds k), Nm l := fun l hl => by
  obtain ⟨k, _, rfl⟩ := List.mem_map.mp hl
  exact OG _
 have lp : ((List.range' 0 4).map fun k => Mm (BH ds k)).length = 4 := by simp
 have XJ : mR [.int 4] = some ((List.range' 0 4).map fun (k : Nat) => .int (0 + (k : Int))) := r4
 generalize ((List.range' 0 4).map fun k => Mm (BH ds k)) = ps at p4 op lp
 generalize ((List.range' 0 4).map fun (k : Nat) => D.int (0 + (k : Int))) = i4 at XJ p4
 have cp : bx (e7 ps) = true := dB fun _ => aN
 have hpn : ps ≠ [] := fun z => by rw [z] at lp; simp at lp
 have fp : (Out.ok (.obj 0) [.lst (e7 ps)]).fw [] = .ok (.con (e7 ps)) [] := mD (G := []) cp
 obtain ⟨y1, e1, l1⟩ := Mp ns 4 24
 have e1 : cutD (ns.map .int) (some 4) (some 24) = y1.map .int := e1
 obtain ⟨y2, e2, l2⟩ := Mp ds 4 8
 have e2 : cutD (ds.map .int) (some 4) (some 8) = y2.map .int := e2
 have cc := vd (gO := oN) (ks := []) (te := aC eB (ai 0) (aC Gf (eC (.int 10)) (eC (.int 18)))) (own := fun d => [d]) (f := fun d => match d with | .int i => .int (i % 1000000000000000000) | d => d) (G := []) (τ := [some (.con (ns.map .int)), some (.con (ds.map .int)), some (.con (e7 ps)), none, none, none, none, none, none, none, none]) (y1.map D.int) [] (by simp; omega) (fun _ _ => rfl) (by
  intro x hx acc
  obtain ⟨i, _, rfl⟩ := List.mem_map.mp hx
  simp! [mask])
 rw [List.map_map] at cc
 have hid : (y1.map ((fun d => match d with | D.int i => D.int (i % 1000000000000000000) | d => d) ∘ D.int)) = (y1.map (· % 1000000000000000000)).map D.int := by
  rw [List.map_map]
  exact List.map_congr_left fun _ _ => rfl
 rw [hid] at cc
 simp only [List.nil_append, List.length_nil] at cc
 have ci : ∀ l : List Int, bx (l.map D.int) = true := fun l => dB fun _ => ya
 have f1 : (bQ (y1.map D.int) []).fw [] = .ok (.con (y1.map .int)) [] := eG (lz (by simp; omega)) (ci _)
 have f2 : (bQ (y2.map D.int) []).fw [] = .ok (.con (y2.map .int)) [] := eG (lz (by simp; omega)) (ci _)
 have fc : (Out.ok (.obj 0) [.lst ((y1.map (· % 1000000000000000000)).map D.int)]).fw [] = .ok (.con ((y1.map (· % 1000000000000000000)).map .int)) [] := mD (G := []) (ci _)
 have hcl : ((y1.map (· % 1000000000000000000)) ++ y2).length ≤ 24 := by simp; omega
 have VY : ((y1.map (· % 1000000000000000000)) ++ y2).length ≤ sizeLine := lz (by omega)
 have f3 : bQ ((y1.map (· % 1000000000000000000)).map D.int ++ y2.map D.int) [] = .ok (.obj 0) [.lst (((y1.map (· % 1000000000000000000)) ++ y2).map .int)] := by
  rw [← List.map_append]
  unfold bQ
  rw [if_pos (by rw [List.length_map]; exact VY)]
  rfl
 generalize (y1.map (· % 1000000000000000000)) = y3 at cc f3 fc hcl VY
 generalize y3 ++ y2 = y4 at f3 hcl VY
 have x5 : j8 (ds.map D.int) 5 = some (.int (BH ds 5)) := yQ ds 5 (by omega)
 have x6 : j8 (ds.map D.int) 6 = some (.int (BH ds 6)) := yQ ds 6 (by omega)
 have x8 : j8 (ds.map D.int) 8 = some (.int (BH ds 8)) := yQ ds 8 (by omega)
 generalize BH ds 5 = v5 at x5
 have S3 : (bT 3 (aC bu (eFn (oG oN [] (eFn (DK (ai 0) (iC (eC (.int 4))) (iC (eC (.int 24))))) (kc) (aC eB (ai 0) (aC Gf (eC (.int 10)) (eC (.int 18)))))) (eFn (DK (ai 1) (iC (eC (.int 4))) (iC (eC (.int 8))))))) [some (.con (ns.map .int)), some (.con (ds.map .int)), some (.con (e7 ps)), none, none, none, none, none, none, none, none] [] = .nx [some (.con (ns.map .int)), some (.con (ds.map .int)), some (.con (e7 ps)), some (.obj 0), none, none, none, none, none, none, none] [.lst (y4.map .int)] := by
  dsimp! [dQ, yS, e1, f1, cc, fc, e2, f2, Lz, f3]
 have S4 : (bT 4 (aC bu (eC (.int 1)) (aC eB (aC cX (ai 1) (eC (.int 5))) (eC (.int 5))))) [some (.con (ns.map .int)), some (.con (ds.map .int)), some (.con (e7 ps)), some (.obj 0), none, none, none, none, none, none, none] [.lst (y4.map .int)] = .nx [some (.con (ns.map .int)), some (.con (ds.map .int)), some (.con (e7 ps)), some (.obj 0), some (.int (1 + v5 % 5)), none, none, none, none, none, none] [.lst (y4.map .int)] := by
  simp! [x5]
 have S5 : ∃ (A : DH) (ys : List Int) (many : Int), 1 ≤ many ∧ many ≤ 17 ∧ many.toNat + 3 * ys.length ≤ 80 ∧ (jw (gn (aC (g7 false) (aC eB (aC gp (aC cX (ai 1) (eC (.int 5))) (eC (.int 5))) (eC (.int 3))) (eC (.int 1)))) (A9) (bJ)) [some (.con (ns.map .int)), some (.con (ds.map .int)), some (.con (e7 ps)), some (.obj 0), some (.int (1 + v5 % 5)), none, none, none, none, none, none] [.lst (y4.map .int)] = .nx [some (.con (ns.map .int)), some (.con (ds.map .int)), some (.con (e7 ps)), some (.obj A.length), some (.int many), none, none, none, none, none, none] (A ++ [.lst (ys.map .int)]) := by
  cases hb : (v5 / 5 % 3 == 1) with
  | false =>
   refine ⟨[], y4, 1 + v5 % 5, by omega, by omega, by omega, ?_⟩
   simp! [x5, cW, hb]
  | true =>
   obtain ⟨ys, ey, k1, k2⟩ := Sf y4 (6 + v5 / 15 % 12 + 4) (by omega)
   refine ⟨[.lst (y4.map .int)], ys, 6 + v5 / 15 % 12, by omega, by omega, by omega, ?_⟩
   have hz : ys.length ≤ sizeLine := lz (by omega)
   simp! [x5, cW, hb, A9, yS, ey, bQ, hz]
 obtain ⟨A, ys, many, m1, m2, m3, S5⟩ := S5
 obtain ⟨w, zs, E, wo, wk, wn, wd, wz, wl, ew⟩ := (good op hpn (by omega) 30 6 (by omega)).2 (by omega) many ys A [] (by omega) m1 (by omega)
 have S6 : (bT 5 (aV 4 nQ (af (ai 3) (af (ai 2) (af (eC (.int 6)) (af (ai 4) (aq))))))) [some (.con (ns.map .int)), some (.con (ds.map .int)), some (.con (e7 ps)), some (.obj A.length), some (.int many), none, none, none, none, none, none] (A ++ [.lst (ys.map .int)]) = .nx [some (.con (ns.map .int)), some (.con (ds.map .int)), some (.con (e7 ps)), some (.obj A.length), some (.int many), some (.tup w.Ds), none, none, none, none, none] (A ++ .lst (zs.map .int) :: ([] ++ E)) := by
  generalize A ++ .lst (zs.map .int) :: ([] ++ E) = G2 at ew ⊢
  generalize A ++ [.lst (ys.map .int)] = G1 at ew ⊢
  simp! [ew]
 generalize A ++ .lst (zs.map .int) :: ([] ++ E) = G2 at S6
 cases w with
 | nil => exact absurd rfl wn
 | cons g l w =>
 have S7 : ∃ (l' : Lk) (b6 b7 : Option D), (Wy.cons g l' w).Ok ∧ (Wy.cons g l' w).Nk ∧ (Wy.cons g l' w).sz ≤ (Wy.cons g l w).sz + 6 ∧ (Wy.cons g l' w).dep ≤ (Wy.cons g l w).dep + 12 ∧
  (jw (gn (aC (g7 false) (aC eB (aC gp (aC cX (ai 1) (eC (.int 5))) (eC (.int 5))) (eC (.int 3))) (eC (.int 2)))) (yh) (bJ)) [some (.con (ns.map .int)), some (.con (ds.map .int)), some (.con (e7 ps)), some (.obj A.length), some (.int many), some (.tup (Wy.cons g l w).Ds), none, none, none, none, none] G2 = .nx [some (.con (ns.map .int)), some (.con (ds.map .int)), some (.con (e7 ps)), some (.obj A.length), some (.int many), some (.tup (Wy.cons g l' w).Ds), b6, b7, none, none, none] G2 := by
  cases hb : (v5 / 5 % 3 == 2) with
  | false =>
   refine ⟨l, none, none, wo, wk, by omega, by omega, ?_⟩
   simp! [x5, cW, hb]
  | true =>
   obtain ⟨l', b6, b7, o1, k1, s1, d1, e1⟩ := JR ds _ _ x6 x8 wo wk (by omega) (some (.con (ns.map .int))) (some (.con (e7 ps))) (some (.obj A.length)) (some (.int many)) none none none none none G2
   refine ⟨l', b6, b7, o1, k1, s1, d1, ?_⟩
   simp! [x5, cW, hb, e1]
 obtain ⟨l', b6, b7, o7, k7, s7, d7, S7⟩ := S7
 have tl := LJ ds hd o7 k7 (by omega) (by omega) (some (.con (ns.map .int))) (some (.con (e7 ps))) (some (.obj A.length)) (some (.int many)) b6 b7 G2
 have hT : Ei [some (.con (ns.map .int)), some (.con (ds.map .int)), some (.con (e7 ps)), none, none, none, none, none, none, none, none] [] = .rt (.bl true) G2 := by
  rw [Se, cZ, S3, gg, cZ, S4, gg, cZ, S5, gg, cZ, S6, gg, cZ, S7, gg, tl]
 refine ⟨[], ?_⟩
 unfold Fx
 refine qG (R := G2) ?_ rfl
 rw [List.nil_append]
 dsimp! [Fw, VS, XJ, p4, dQ, fp, hT]
end K14
end
end
section
set_option Elab.async false
set_option linter.all false
set_option maxRecDepth 100000
set_option maxHeartbeats 4000000
namespace K14
open PySem PySem.Spec L2 L3
theorem walk {l : PySem.W.OpenLaw} {qq : Program} {loose : List Str} {XP : (Str → Option Value) → Heap → Prop} {YP : World → Heap → Prop} {d : DefRec} {K : Params → PySem.W.Frag} (hn : l.most = some 63) (hdf : d.params.defaults = [])
    (hY : ∀ (w : World) (h : Heap), YP w h → (K w.params).In h)
    (F : ∀ (w : World) (mg : Str → Option Value) (fa : Addr) (h : Heap), (K w.params).In h → h.Ns mainGlobals mg → mg d.name = some (.ref fa) → ∃ t, Txt (K w.params) mg t ∧ (t.f 24) = fa ∧ ∀ (s : Shared) (u : Value), BindsTo s (t.d 24) ⟨[u], []⟩ [("_law_script", u)]) :
    PySem.W.WalkO qq loose XP YP l.row.toRowW d [] (fun f vs => PySem.call f vs) :=
  L2.Ky (n := 63) (k := 81) (x := "_law_script") (CX := fun w => cu l.prog w) (sp := fun w => L0 (K w.params)) hn (by decide) hdf ⟨rfl, by decide, by decide⟩ hY (fun w mg fa h KX G hm => by
    obtain ⟨t, T, rfl, hb⟩ := F w mg fa h KX G hm
    exact ⟨(t.d 24), hb, fun base _ _ => (Om T).imp (Iq JS)⟩) (fun _ _ a ns hl hO hS => ⟨a, ns, rfl, NH hO hS, hl, fun _ => rfl⟩) fun _ _ _ _ _ ⟨_, _, _, _, _, _, _, _, z⟩ => z
end K14
end
open PySem PySem.W PyProof.Rows
set_option maxRecDepth 100000 in
set_option maxHeartbeats 0 in
theorem PySem.Challenge.cw_pathshape_k14_ways_written_holds : PySem.Challenge.rw_pathshape_k14_ways_written.Holds := by
  w_on; o_law; k_head; (case hw => w_witness2)
  k_fill
  refine K14.walk (l := PySem.Challenge.rw_pathshape_k14_ways_written) rfl rfl (fun w h Y => PySem.W.kIn_of Y) ?F
  case F =>
    intro w mg fa h KX G hmg
    have T : ∃ t, K14.Txt (L2.KOf KX) mg t ∧ ∃ kV dc pm an cd ct, (t.d 24) = PySem.W.fnOf "law" "law" (L2.aF K14.dI) (L2.aD K14.dI) (L2.aa K14.dI) .none kV dc pm an cd ct := by
      dsimp only [L2.KOf]
      refine' K14.N5 KX G ?my_a0 ?my_l0 ?my_c0 ?my_k0 ?my_a1 ?my_l1 ?my_c1 ?my_k1 ?my_a2 ?my_l2 ?my_c2 ?my_k2 ?my_a3 ?my_l3 ?my_c3 ?my_k3 ?my_a4 ?my_l4 ?my_c4 ?my_k4 ?my_a5 ?my_l5 ?my_c5 ?my_k5 ?my_a6 ?my_l6 ?my_c6 ?my_k6 ?my_a7 ?my_l7 ?my_c7 ?my_k7 ?my_a8 ?my_l8 ?my_c8 ?my_k8 ?my_a9 ?my_l9 ?my_c9 ?my_k9 ?my_a10 ?my_l10 ?my_c10 ?my_k10 ?my_a11 ?my_l11 ?my_c11 ?my_k11 ?my_a12 ?my_l12 ?my_c12 ?my_k12 ?my_a13 ?my_l13 ?my_c13 ?my_k13 ?my_a14 ?my_l14 ?my_c14 ?my_k14 ?my_a15 ?my_l15 ?my_c15 ?my_k15 ?my_a16 ?my_l16 ?my_c16 ?my_k16 ?my_a17 ?my_l17 ?my_c17 ?my_k17 ?my_a18 ?my_l18 ?my_c18 ?my_k18 ?my_a19 ?my_l19 ?my_c19 ?my_k19 ?my_a20 ?my_l20 ?my_c20 ?my_k20 ?my_a21 ?my_l21 ?my_c21 ?my_k21 ?my_a22 ?my_l22 ?my_c22 ?my_k22 ?my_a23 ?my_l23 ?my_c23 ?my_k23 ?my_a24 ?my_l24 ?my_c24 ?my_k24 ?my_z0 ?my_z1 ?my_z2 ?my_z3 ?my_z4 ?my_z5 ?my_z6 ?my_z7 ?my_z8 ?my_z9 ?my_z10 ?my_g0 ?my_gl0 ?my_gv0 ?my_g1 ?my_gl1 ?my_gv1 ?my_g2 ?my_g3 ?my_nb0 ?my_nb1 ?my_cm0 ?my_ce0
      (case my_a0 => k_is)
      (case my_l0 => k_is)
      (case my_c0 => k_is)
      (case my_k0 => k_is)
      (case my_a1 => k_is)
      (case my_l1 => k_is)
      (case my_c1 => k_is)
      (case my_k1 => k_is)
      (case my_a2 => k_is)
      (case my_l2 => k_is)
      (case my_c2 => k_is)
      (case my_k2 => k_is)
      (case my_a3 => k_is)
      (case my_l3 => k_is)
      (case my_c3 => k_is)
      (case my_k3 => k_is)
      (case my_a4 => k_is)
      (case my_l4 => k_is)
      (case my_c4 => k_is)
      (case my_k4 => k_is)
      (case my_a5 => k_is)
      (case my_l5 => k_is)
      (case my_c5 => k_is)
      (case my_k5 => k_is)
      (case my_a6 => k_is)
      (case my_l6 => k_is)
      (case my_c6 => k_is)
      (case my_k6 => k_is)
      (case my_a7 => k_is)
      (case my_l7 => k_is)
      (case my_c7 => k_is)
      (case my_k7 => k_is)
      (case my_a8 => k_is)
      (case my_l8 => k_is)
      (case my_c8 => k_is)
      (case my_k8 => k_is)
      (case my_a9 => k_is)
      (case my_l9 => k_is)
      (case my_c9 => k_is)
      (case my_k9 => k_is)
      (case my_a10 => k_is)
      (case my_l10 => k_is)
      (case my_c10 => k_is)
      (case my_k10 => k_is)
      (case my_a11 => k_is)
      (case my_l11 => k_is)
      (case my_c11 => k_is)
      (case my_k11 => k_is)
      (case my_a12 => k_is)
      (case my_l12 => k_is)
      (case my_c12 => k_is)
      (case my_k12 => k_is)
      (case my_a13 => k_is)
      (case my_l13 => k_is)
      (case my_c13 => k_is)
      (case my_k13 => k_is)
      (case my_a14 => k_is)
      (case my_l14 => k_is)
      (case my_c14 => k_is)
      (case my_k14 => k_is)
      (case my_a15 => k_is)
      (case my_l15 => k_is)
      (case my_c15 => k_is)
      (case my_k15 => k_is)
      (case my_a16 => k_is)
      (case my_l16 => k_is)
      (case my_c16 => k_is)
      (case my_k16 => k_is)
      (case my_a17 => k_is)
      (case my_l17 => k_is)
      (case my_c17 => k_is)
      (case my_k17 => k_is)
      (case my_a18 => k_is)
      (case my_l18 => k_is)
      (case my_c18 => k_is)
      (case my_k18 => k_is)
      (case my_a19 => k_is)
      (case my_l19 => k_is)
      (case my_c19 => k_is)
      (case my_k19 => k_is)
      (case my_a20 => k_is)
      (case my_l20 => k_is)
      (case my_c20 => k_is)
      (case my_k20 => k_is)
      (case my_a21 => k_is)
      (case my_l21 => k_is)
      (case my_c21 => k_is)
      (case my_k21 => k_is)
      (case my_a22 => k_is)
      (case my_l22 => k_is)
      (case my_c22 => k_is)
      (case my_k22 => k_is)
      (case my_a23 => k_is)
      (case my_l23 => k_is)
      (case my_c23 => k_is)
      (case my_k23 => k_is)
      (case my_a24 => k_is)
      (case my_l24 => k_is)
      (case my_c24 => k_is)
      (case my_k24 => k_is)
      (case my_z0 => k_is)
      (case my_z1 => k_is)
      (case my_z2 => k_is)
      (case my_z3 => k_is)
      (case my_z4 => k_is)
      (case my_z5 => k_is)
      (case my_z6 => k_is)
      (case my_z7 => k_is)
      (case my_z8 => k_is)
      (case my_z9 => k_is)
      (case my_z10 => k_is)
      (case my_g0 => k_is)
      (case my_gl0 => k_is)
      (case my_gv0 => exact .cons ⟨_, rfl⟩ (.cons ⟨_, rfl⟩ (.cons ⟨_, rfl⟩ (.nil))))
      (case my_g1 => k_is)
      (case my_gl1 => k_is)
      (case my_gv1 => exact .cons ⟨_, rfl⟩ (.cons ⟨_, rfl⟩ (.cons ⟨_, rfl⟩ (.cons ⟨_, rfl⟩ (.cons ⟨_, rfl⟩ (.cons ⟨_, rfl⟩ (.cons ⟨_, rfl⟩ (.cons ⟨_, rfl⟩ (.cons ⟨_, rfl⟩ (.cons ⟨_, rfl⟩ (.cons ⟨_, rfl⟩ (.cons ⟨_, rfl⟩ (.nil)))))))))))))
      (case my_g2 => k_is)
      (case my_g3 => k_is)
      (case my_nb0 => kernel_rfl)
      (case my_nb1 => k_is)
      (case my_cm0 => k_is)
      (case my_ce0 => k_exc)
    obtain ⟨t, T, kV, dc, pm, an, cd, ct, e⟩ := T
    have e0 := hmg.symm.trans T.M_law
    cases e0
    exact ⟨t, T, rfl, fun s u => by rw [e]; exact .of_eq rfl⟩
