import PyProof.Rows.All
import Wide.All
import OpenK.AllK
import Wide.FinOn
import Lean
import PyProof.EqAt
import PyProof.EqKinds
import PyProof.TupleCall
import PyProof.StrWalks
import KE.KTryMore
import PyProof.ZipIter
import PyProof.Rows.Range3
import PyProof.Draws
import PyProof.WalksMore
import PyProof.ExcBaseAll.ValueError
import PySem.Challenge.RW_pathshape_k31_places
section
set_option Elab.async false
set_option linter.all false
set_option maxRecDepth 100000
namespace L2
open PySem PySem.Spec PyProof.Rows
noncomputable abbrev Key := Sum Int Str
noncomputable def keyIs : Key → Value → Bool
  | .inl k, v => Value.isInt k v
  | .inr x, v => Value.isStrOf x v
noncomputable def keyH (w : World) : Key → Int
  | .inl k => hashInt k
  | .inr x => hashStr w x
theorem keyIs_shape : ∀ {k : Key} {v : Value}, keyIs k v = true → (∃ i t, k = Sum.inl i ∧ v = Value.int i t) ∨ (∃ x t, k = Sum.inr x ∧ v = Value.str x t)
  | .inl i, v, h => by
    obtain ⟨t, e⟩ := Value.isInt_shape (k := i) (v := v) h
    exact .inl ⟨i, t, rfl, e⟩
  | .inr x, v, h => by
    obtain ⟨t, e⟩ := Value.isStrOf_shape (x := x) (v := v) h
    exact .inr ⟨x, t, rfl, e⟩
theorem keyIs_int (i : Int) (t : Tok) : keyIs (.inl i) (.int i t) = true := by simp [keyIs, Value.isInt]
theorem keyIs_str (x : Str) (t : Tok) : keyIs (.inr x) (.str x t) = true := by simp [keyIs, Value.isStrOf]
theorem key_ll (a b : Int) : decide ((Sum.inl a : Key) = Sum.inl b) = (a == b) := by
  by_cases e : a = b
  · subst e; simp
  · have h : ¬ (Sum.inl a : Key) = Sum.inl b := fun q => e (Sum.inl.inj q)
    rw [decide_eq_false h]
    exact (beq_eq_false_iff_ne.mpr e).symm
theorem key_rr (a b : Str) : decide ((Sum.inr a : Key) = Sum.inr b) = decide (a = b) := by
  by_cases e : a = b
  · subst e; simp
  · have h : ¬ (Sum.inr a : Key) = Sum.inr b := fun q => e (Sum.inr.inj q)
    rw [decide_eq_false h, decide_eq_false e]
theorem key_lr (a : Int) (b : Str) : decide ((Sum.inl a : Key) = Sum.inr b) = false := decide_eq_false (fun q => nomatch q)
theorem key_rl (a : Str) (b : Int) : decide ((Sum.inr a : Key) = Sum.inl b) = false := decide_eq_false (fun q => nomatch q)
noncomputable def mixKind (prog : Program) (w : World) : PySem.KeyKind prog w Key where
  is := keyIs
  hash := keyH w
  inj := fun v a b ha hb => by
    rcases keyIs_shape ha with ⟨i, t, rfl, rfl⟩ | ⟨x, t, rfl, rfl⟩
    · rcases keyIs_shape hb with ⟨j, u, rfl, e⟩ | ⟨y, u, rfl, e⟩
      · injection e with e1 _; rw [e1]
      · exact nomatch e
    · rcases keyIs_shape hb with ⟨j, u, rfl, e⟩ | ⟨y, u, rfl, e⟩
      · exact nomatch e
      · injection e with e1 _; rw [e1]
  byValue := fun k v h => by
    rcases keyIs_shape h with ⟨i, t, rfl, rfl⟩ | ⟨x, t, rfl, rfl⟩ <;> rfl
  pyHash := fun hv h => by
    rcases keyIs_shape hv with ⟨i, t, rfl, rfl⟩ | ⟨x, t, rfl, rfl⟩
    · exact wpAny_pyHash_int h
    · exact wpAny_pyHash_str h
  eqBool := fun hu hv h => by
    rcases keyIs_shape hu with ⟨i, t, rfl, rfl⟩ | ⟨x, t, rfl, rfl⟩
    · rcases keyIs_shape hv with ⟨j, u, rfl, rfl⟩ | ⟨y, u, rfl, rfl⟩
      · rw [key_ll] at h; exact wpAny_eqBool_int h
      · rw [key_lr] at h; exact SeqAt.EqAt.int_str i t y u _ _ _ _ h
    · rcases keyIs_shape hv with ⟨j, u, rfl, rfl⟩ | ⟨y, u, rfl, rfl⟩
      · rw [key_rl] at h; exact SeqAt.EqAt.str_int x t j u _ _ _ _ h
      · rw [key_rr] at h; exact wpAny_eqBool_str h
  «strs» := fun k x t v h => by
    rcases keyIs_shape h with ⟨i, u, rfl, e⟩ | ⟨y, u, rfl, e⟩
    · exact nomatch e
    · injection e with e1 _
      subst e1
      cases v <;> rfl
theorem mixKind_int (prog : Program) (w : World) (i : Int) (t : Tok) : (mixKind prog w).is (.inl i) (.int i t) = true := keyIs_int i t
theorem mixKind_str (prog : Program) (w : World) (x : Str) (t : Tok) : (mixKind prog w).is (.inr x) (.str x t) = true := keyIs_str x t
end L2
namespace L2
open PySem PySem.Spec PyProof.Rows
inductive V where
  | non | bl (b : Bool) | int (i : Int) | str (x : Str) | byt (b : Array UInt8) | flt (b : UInt64) | ref (a : Addr) | ty (n : String)
  deriving DecidableEq
noncomputable def RelV : V → Value → Prop
  | .non, u => u = Value.none
  | .bl b, u => u = Value.bool b
  | .int i, u => ∃ t, u = Value.int i t
  | .str x, u => ∃ t, u = Value.str x t
  | .byt b, u => ∃ t, u = Value.bytes b t
  | .flt b, u => ∃ t, u = Value.float b t
  | .ref a, u => u = Value.ref a
  | .ty n, u => u = Value.type n
noncomputable abbrev Vals : List V → List Value → Prop := Paired RelV
theorem Vals.length {xs : List V} {us : List Value} (r : Vals xs us) : xs.length = us.length := Paired.length r
theorem Vals.get : ∀ {xs : List V} {us : List Value} {i : Nat} {x : V}, Vals xs us → xs[i]? = some x → ∃ u, us[i]? = some u ∧ RelV x u
  | _, _, _, _, .nil, e => by simp at e
  | _, _, 0, _, .cons r _, e => by simp at e; subst e; exact ⟨_, rfl, r⟩
  | _, _, i + 1, x, .cons _ t, e => by
    obtain ⟨u, h1, h2⟩ := Vals.get (i := i) (x := x) t (by simpa using e)
    exact ⟨u, by simpa using h1, h2⟩
theorem Vals.append : ∀ {xs ys : List V} {us ws : List Value}, Vals xs us → Vals ys ws → Vals (xs ++ ys) (us ++ ws)
  | _, _, _, _, .nil, s => s
  | _, _, _, _, .cons r t, s => .cons r (Vals.append t s)
theorem Vals.take : ∀ {xs : List V} {us : List Value} (n : Nat), Vals xs us → Vals (xs.take n) (us.take n)
  | _, _, 0, _ => .nil
  | _, _, _ + 1, .nil => .nil
  | _, _, n + 1, .cons r t => .cons r (Vals.take n t)
theorem Vals.drop : ∀ {xs : List V} {us : List Value} (n : Nat), Vals xs us → Vals (xs.drop n) (us.drop n)
  | _, _, 0, r => r
  | _, _, _ + 1, .nil => .nil
  | _, _, n + 1, .cons _ t => Vals.drop n t
noncomputable def RelO : Option V → Option Value → Prop
  | some v, some u => RelV v u
  | none, none => True
  | _, _ => False
noncomputable def KV {κ : Type} : List (κ × V) → List (κ × Value) → Prop := Paired fun (p : κ × V) (q : κ × Value) => p.1 = q.1 ∧ RelV p.2 q.2
noncomputable def kV : Key → V
  | .inl i => .int i
  | .inr x => .str x
inductive HO where
  | lst (xs : List V)
  | tup (xs : List V)
  | dK (kvs : List (Key × V)) | dT (kvs : List (List Key × V))
  | set (S : Int → Bool) (n : Nat)
  | ins (C dx : Addr) (fs : List (Str × V))
  | own (x : Addr)
  | xd (fs : List (Str × V))
  | met (f x : Addr)
  | rng (lo hi : Int)
  | frz (o : Obj) (u : HO)
  | tbl (ps : Array Value)
  | ext (φ : Heap → Prop)
noncomputable abbrev Hp := Addr → Option HO
noncomputable def upd (H : Hp) (a : Addr) (o : HO) : Hp := fun b => if b = a then some o else H b
theorem upd_same {H : Hp} {a : Addr} {o : HO} : upd H a o a = some o := by unfold upd; rw [if_pos rfl]
theorem upd_ne {H : Hp} {a b : Addr} {o : HO} (h : b ≠ a) : upd H a o b = H b := by unfold upd; rw [if_neg h]
theorem ne_of {H : Hp} {a b : Addr} {o u : HO} (h : H a = some o) (h' : H b = some u) (d : o ≠ u) : a ≠ b := by
  intro e; subst e; rw [h] at h'; exact d (Option.some.inj h')
theorem ne_of_none {H : Hp} {a b : Addr} {o : HO} (h : H a = some o) (h' : H b = none) : a ≠ b := by
  intro e; subst e; rw [h] at h'; cases h'
section
variable (P : Program) (w : World)
noncomputable def ObjOk (H : Hp) (h : Heap) (a : Addr) : HO → Prop
  | .lst xs => xs.length ≤ sizeLine ∧ ∃ (its : List Value) (n : Nat), Vals xs its ∧ h.get? a = some { cls := .type "list", data := .seq its.toArray n }
  | .tup xs => xs.length ≤ sizeLine ∧ ∃ its : List Value, Vals xs its ∧ IsTup h a its.toArray
  | .dK kvs => kvs.length ≤ sizeLine ∧ (a == sysModules) = false ∧ ∃ vs, KV kvs vs ∧ h.DictOf (mixKind P w) a vs
  | .dT kvs => kvs.length ≤ sizeLine ∧ (a == sysModules) = false ∧ ∃ xs : List (List Key × Addr × Value),
      Paired (fun (p : List Key × V) (q : List Key × Addr × Value) => p.1 = q.1 ∧ H q.2.1 = some (.tup (p.1.map kV)) ∧ RelV p.2 q.2.2) kvs xs ∧
      ∃ o es ep, h.get? a = some o ∧ o.ExactDict ∧ o.data = .dict es ep ∧ es.toList = xs.map (entryOfKey (tupleKind (mixKind P w))) ∧ (xs.map (·.1)).Nodup
  | .set S n => h.SetOf (intKind P w) a S n
  | .ins C dx fs => H dx = some (.own a) ∧ fs.length ≤ 1000 ∧ dx ≠ a ∧ h.get? a = some (PySem.W.instObj C dx) ∧
      ∃ mA, h.Ns1 dx mA ∧ (∀ f, RelO (fs.lookup f) (mA f)) ∧ PySem.Within mA (fs.map (·.1))
  | .own _ => ∃ o, h.get? a = some o
  | .xd fs => ∃ mA, h.Ns1 a mA ∧ ∀ f, RelO (fs.lookup f) (mA f)
  | .rng lo hi => ∃ t u v, h.get? a = some { cls := .type "range", data := .fields #[.int lo t, .int hi u, .int 1 v] }
  | .frz o u => h.get? a = some o ∧ ObjOk H h a u
  | .tbl ps => h.get? a = some { cls := .none, data := .fields ps }
  | .met f x => h.get? a = some (PySem.W.methodObj (.ref f) (.ref x))
  | .ext φ => φ h ∧ (∃ o, h.get? a = some o) ∧ ∀ h1 h2 : Heap, φ h1 → (∀ o, h1.get? a = some o → h2.get? a = some o) → φ h2
noncomputable def HOk (H : Hp) (h : Heap) : Prop := ∀ a o, H a = some o → ObjOk P w H h a o
end
section
variable {P : Program} {w : World} {H H' : Hp} {h h' : Heap} {a : Addr} {o : HO}
theorem ObjOk.lt (x : ObjOk P w H h a o) : a < h.objs.size := by
  cases o with
  | lst xs => obtain ⟨_, _, _, _, e⟩ := x; exact Heap.lt_size e
  | tup xs => obtain ⟨_, _, _, p⟩ := x; exact p.lt
  | dK kvs => obtain ⟨_, _, _, _, o, _, _, e, _⟩ := x; exact Heap.lt_size e
  | dT kvs => obtain ⟨_, _, _, _, o, _, _, e, _⟩ := x; exact Heap.lt_size e
  | set S n => obtain ⟨o, _, _, _, e, _⟩ := x; exact Heap.lt_size e
  | ins C dx fs => obtain ⟨_, _, _, e, _⟩ := x; exact Heap.lt_size e
  | own y => obtain ⟨_, e⟩ := x; exact Heap.lt_size e
  | xd fs => obtain ⟨_, ⟨_, _, _, e, _⟩, _⟩ := x; exact Heap.lt_size e
  | rng lo hi => obtain ⟨_, _, _, e⟩ := x; exact Heap.lt_size e
  | frz ob u => obtain ⟨e, _⟩ := x; exact Heap.lt_size e
  | tbl ps => exact Heap.lt_size (show h.get? a = some _ from x)
  | met f y => exact Heap.lt_size (show h.get? a = some _ from x)
  | ext φ => obtain ⟨_, ⟨_, e⟩, _⟩ := x; exact Heap.lt_size e
theorem Paired.mapP {α β : Type} {F G : α → β → Prop} : ∀ {l₁ : List α} {l₂ : List β}, Paired F l₁ l₂ → (∀ a b, F a b → G a b) → Paired G l₁ l₂
  | _, _, .nil, _ => .nil
  | _, _, .cons r t, f => .cons (f _ _ r) (Paired.mapP t f)
theorem ObjOk.stay (x : ObjOk P w H h a o) (k : ∀ b u, (b = a ∨ H b = some (.own a)) → h.get? b = some u → h'.get? b = some u)
    (ho : ∀ b, H b = some (.own a) → H' b = some (.own a)) (ht : ∀ b xs, H b = some (.tup xs) → H' b = some (.tup xs)) : ObjOk P w H' h' a o := by
  induction o with
  | lst xs => obtain ⟨z, its, n, r, e⟩ := x; exact ⟨z, its, n, r, k _ _ (.inl rfl) e⟩
  | tup xs => obtain ⟨z, its, r, ob, e, c⟩ := x; exact ⟨z, its, r, ob, k _ _ (.inl rfl) e, c⟩
  | dK kvs => obtain ⟨z, y, vs, r, ob, es, ep, e, c⟩ := x; exact ⟨z, y, vs, r, ob, es, ep, k _ _ (.inl rfl) e, c⟩
  | dT kvs =>
    obtain ⟨z, y, xs, r, ob, es, ep, e, c⟩ := x
    exact ⟨z, y, xs, Paired.mapP r fun p q z => ⟨z.1, ht _ _ z.2.1, z.2.2⟩, ob, es, ep, k _ _ (.inl rfl) e, c⟩
  | set S n => obtain ⟨ob, es, ep, t, e, c⟩ := x; exact ⟨ob, es, ep, t, k _ _ (.inl rfl) e, c⟩
  | ins C dx fs =>
    obtain ⟨d, z, ne, e, mA, ⟨od, es, ep, e2, c⟩, r⟩ := x
    exact ⟨ho _ d, z, ne, k _ _ (.inl rfl) e, mA, ⟨od, es, ep, k _ _ (.inr d) e2, c⟩, r⟩
  | own y => obtain ⟨ob, e⟩ := x; exact ⟨ob, k _ _ (.inl rfl) e⟩
  | xd fs => obtain ⟨mA, ⟨od, es, ep, e, c⟩, r⟩ := x; exact ⟨mA, ⟨od, es, ep, k _ _ (.inl rfl) e, c⟩, r⟩
  | rng lo hi => obtain ⟨t, u, v, e⟩ := x; exact ⟨t, u, v, k _ _ (.inl rfl) e⟩
  | frz ob u ih => obtain ⟨e, q⟩ := x; exact ⟨k _ _ (.inl rfl) e, ih q⟩
  | tbl ps =>
    have e : h.get? a = some { cls := .none, data := .fields ps } := x
    show h'.get? a = some { cls := .none, data := .fields ps }
    exact k a _ (.inl rfl) e
  | met f y =>
    have e : h.get? a = some (PySem.W.methodObj (.ref f) (.ref y)) := x
    show h'.get? a = some (PySem.W.methodObj (.ref f) (.ref y))
    exact k a _ (.inl rfl) e
  | ext φ => obtain ⟨p, ⟨o, e⟩, st⟩ := x; exact ⟨st _ _ p fun o q => k _ _ (.inl rfl) q, ⟨o, k _ _ (.inl rfl) e⟩, st⟩
theorem HOk.lt (x : HOk P w H h) (e : H a = some o) : a < h.objs.size := (x a o e).lt
theorem HOk.fresh (x : HOk P w H h) (e : h.objs.size ≤ a) : H a = none := by
  cases q : H a with
  | none => rfl
  | some u => exact absurd (Nat.lt_of_lt_of_le (x.lt q) e) (Nat.lt_irrefl _)
theorem HOk.kept (x : HOk P w H h) (k : ∀ b u, h.get? b = some u → h'.get? b = some u) : HOk P w H h' := fun a o e =>
  (x a o e).stay (fun b u _ q => k b u q) (fun _ q => q) fun _ _ q => q
theorem HOk.laid (x : HOk P w H h) (k : ∀ b u, h.get? b = some u → h'.get? b = some u) (hp : h.objs.size ≤ a) (new : ObjOk P w (upd H a o) h' a o) : HOk P w (upd H a o) h' := fun b u e => by
  have hn := x.fresh hp
  by_cases hb : b = a
  · subst hb; rw [upd_same] at e; cases e; exact new
  · rw [upd_ne hb] at e
    exact (x b u e).stay (fun c v _ q => k c v q) (fun c q => by rw [upd_ne (ne_of_none q hn)]; exact q) fun c xs q => by rw [upd_ne (ne_of_none q hn)]; exact q
end
noncomputable def Rd (H : Hp) (a : Addr) (u : HO) : Prop := H a = some u ∨ ∃ o, H a = some (.frz o u)
theorem Rd.of {H : Hp} {a : Addr} {u : HO} (h : H a = some u) : Rd H a u := .inl h
theorem Rd.ok {P : Program} {w : World} {H : Hp} {h : Heap} {a : Addr} {u : HO} (r : Rd H a u) (x : HOk P w H h) : ObjOk P w H h a u := by
  rcases r with r | ⟨o, r⟩
  · exact x a u r
  · obtain ⟨_, q⟩ := x a _ r
    exact q
noncomputable def Mut : Option HO → Prop
  | some (.lst _) => True
  | some (.dK _) => True
  | some (.dT _) => True
  | some (.set _ _) => True
  | some (.ins _ _ _) => True
  | some (.ext _) => True
  | _ => False
section
variable {P : Program} {w : World} {H : Hp} {h h' : Heap} {x e : Addr} {o' : HO}
theorem HOk.write (ok : HOk P w H h) (mu : Mut (H x)) (he : e = x ∨ H e = some (.own x)) (k : ∀ b u, b ≠ e → h.get? b = some u → h'.get? b = some u) (heo : ∃ u, h'.get? e = some u)
    (new : ObjOk P w (upd H x o') h' x o') : HOk P w (upd H x o') h' := fun b u q => by
  have nown : ∀ c y, H c = some (.own y) → c ≠ x := fun c y r z => by subst z; rw [r] at mu; exact mu
  have ntup : ∀ c xs, H c = some (.tup xs) → c ≠ x := fun c xs r z => by subst z; rw [r] at mu; exact mu
  by_cases hb : b = x
  · subst hb; rw [upd_same] at q; cases q; exact new
  · rw [upd_ne hb] at q
    by_cases hbe : b = e
    · have q' : H b = some (.own x) := by
        rcases he with z | z
        · exact absurd (hbe.trans z) hb
        · rw [hbe]; exact z
      rw [q] at q'; cases q'
      obtain ⟨v, hv⟩ := heo
      exact ⟨v, by rw [hbe]; exact hv⟩
    · refine (ok b u q).stay (fun c v hc r => k c v ?_ r) (fun c r => by rw [upd_ne (nown c b r)]; exact r) fun c xs r => by rw [upd_ne (ntup c xs r)]; exact r
      rcases hc with rfl | hc
      · exact hbe
      · rintro rfl
        rcases he with z | z
        · exact nown c b hc z
        · rw [hc] at z; cases z; exact hb rfl
end
structure Un (fs ex : List Addr) (H H' : Hp) (h h' : Heap) : Prop where
  keep : ∀ b o, h.get? b = some o → H b = none → b ∉ fs → b ∉ ex → h'.get? b = some o
  slot : ∀ b o, h.get? b = some o → H b = none → b ∈ fs → b ∉ ex → ∃ sl, h'.get? b = some { o with slots := sl }
  free : ∀ b o, h.get? b = some o → H b = none → b ∉ ex → H' b = none
  there : ∀ b o, h.get? b = some o → b ∉ ex → ∃ o', h'.get? b = some o'
  tups : ∀ b xs, H b = some (.tup xs) → H' b = some (.tup xs)
  frzs : ∀ b o u, H b = some (.frz o u) → H' b = some (.frz o u)
  tbls : ∀ b ps, H b = some (.tbl ps) → ∃ more, H' b = some (.tbl (ps ++ more))
section
variable {fs fs' ex ex' : List Addr} {H H1 H2 : Hp} {h h1 h2 h' : Heap} {a x e : Addr} {o : HO}
theorem Un.any (u : Un fs ex H H1 h h1) {b : Addr} {ob : Obj} (q : h.get? b = some ob) (n : H b = none) (hx : b ∉ ex) : ∃ sl, h1.get? b = some { ob with slots := sl } := by
  by_cases hb : b ∈ fs
  · exact u.slot b ob q n hb hx
  · exact ⟨ob.slots, u.keep b ob q n hb hx⟩
theorem Un.kept (k : ∀ b u, h.get? b = some u → h'.get? b = some u) : Un fs ex H H h h' :=
  ⟨fun b ob q _ _ _ => k b ob q, fun b ob q _ _ _ => ⟨ob.slots, k b ob q⟩, fun _ _ _ n _ => n, fun b ob q _ => ⟨ob, k b ob q⟩, fun _ _ q => q, fun _ _ _ q => q, fun _ ps q => ⟨#[], by rw [q]; simp⟩⟩
theorem Un.refl : Un fs ex H H h h := Un.kept fun _ _ q => q
theorem Un.laid (k : ∀ b u, h.get? b = some u → h'.get? b = some u) (hp : h.objs.size ≤ a) (hn : H a = none) : Un fs ex H (upd H a o) h h' where
  keep := fun b u q _ _ _ => k b u q
  slot := fun b u q _ _ _ => ⟨u.slots, k b u q⟩
  free := fun b u q n _ => by rw [upd_ne (Nat.ne_of_lt (Nat.lt_of_lt_of_le (Heap.lt_size q) hp))]; exact n
  there := fun b u q _ => ⟨u, k b u q⟩
  tups := fun b xs q => by rw [upd_ne (ne_of_none q hn)]; exact q
  frzs := fun b u xs q => by rw [upd_ne (ne_of_none q hn)]; exact q
  tbls := fun b ps q => ⟨#[], by rw [upd_ne (ne_of_none q hn), q]; simp⟩
theorem Un.write (mu : Mut (H x)) (he : e = x ∨ H e = some (.own x)) (k : ∀ b u, b ≠ e → h.get? b = some u → h'.get? b = some u) (heo : ∃ u, h'.get? e = some u) : Un fs ex H (upd H x o) h h' := by
  have hx : ∀ b, H b = none → b ≠ x := fun b n z => by subst z; rw [n] at mu; exact mu
  have hb : ∀ b, H b = none → b ≠ e := fun b n z => by
    subst z
    rcases he with r | r
    · exact hx b n r
    · rw [n] at r; cases r
  have hm : ∀ b u, H b = some u → ¬ Mut (some u) → b ≠ x := fun b u q nm z => by subst z; rw [q] at mu; exact nm mu
  refine ⟨fun b u q n _ _ => k b u (hb b n) q, fun b u q n _ _ => ⟨u.slots, k b u (hb b n) q⟩, fun b u q n _ => by rw [upd_ne (hx b n)]; exact n, fun b u q _ => ?_,
    fun b xs q => by rw [upd_ne (hm b _ q fun z => z)]; exact q, fun b u xs q => by rw [upd_ne (hm b _ q fun z => z)]; exact q, fun b ps q => ⟨#[], by rw [upd_ne (hm b _ q fun z => z), q]; simp⟩⟩
  by_cases hbe : b = e
  · subst hbe; exact heo
  · exact ⟨u, k b u hbe q⟩
end
noncomputable def trk (h : Heap) (H : Hp) : List Addr := (List.range h.objs.size).filter fun a => (H a).isSome
noncomputable def hidT (h : Heap) (H : Hp) : Heap := PySem.W.hideAll h (trk h H)
theorem hidT_size (h : Heap) (H : Hp) : (hidT h H).objs.size = h.objs.size := PySem.W.hideAll_size _ _
theorem hidT_get {h : Heap} {H : Hp} {b : Addr} {o : Obj} (e : h.get? b = some o) (n : H b = none) : (hidT h H).get? b = some o :=
  PySem.W.hideAll_get _ e fun hm => by
    have q : (H b).isSome = true := (List.mem_filter.mp hm).2
    rw [n] at q; simp at q
theorem of_hidT {h : Heap} {H : Hp} {b : Addr} {o : Obj} (e : (hidT h H).get? b = some o) : h.get? b = some o ∧ H b = none := by
  have e' : h.get? b = some o := PySem.W.of_hideAll (trk h H) e
  refine ⟨e', ?_⟩
  cases q : H b with
  | none => rfl
  | some x =>
    have hm : b ∈ trk h H := List.mem_filter.mpr ⟨List.mem_range.mpr (Heap.lt_size e'), by simp [q]⟩
    have z : (hidT h H).get? b = none := PySem.W.hideAll_none (trk h H) hm
    rw [z] at e; cases e
noncomputable def allNews (g h : Heap) (L : Addr) : List (Addr × Obj) := (List.range h.objs.size).filterMap fun a => if a = L ∨ (g.get? a).isSome = true then none else (h.get? a).map fun o => (a, o)
noncomputable def rest (g h : Heap) (L d : Addr) : List (Addr × Obj) := (allNews g h L).filter fun p => decide (p.1 ≠ d)
end L2
namespace L2
open PySem PySem.Spec PyProof.Rows
structure Mod (K : PySem.W.Frag) (mg : Str → Option Value) (base : Heap) : Prop where
  kin : K.In base
  glob : base.Ns mainGlobals mg
  blt : ∃ mb, base.Ns builtinsNs mb ∧ ∀ x : Str, x ≠ "__name__" → mb x = bootBuiltins x
  nolimit : base.NoLimit
structure Cx where
  prog : Program
  w : World
  K : PySem.W.Frag
  mg : Str → Option Value
  base : Heap
  A : Around
  N : List Str
  s₀ : Shared
  H₀ : Hp
  env : Env
  outer : List Env
  stack : List Env
  ex : List Addr
  fn : Str → Bool
  calm : Bool
  pn : List (Addr × Obj)
  xe : Value → Shared → Prop
noncomputable def frs (l : List Env) : List Addr := l.filterMap (·.frame)
noncomputable abbrev Cx.fs (X : Cx) : List Addr := frs X.outer
noncomputable def Vis (sc : Scope) (x : Str) : Prop := sc.names.lookup x = some .local ∨ sc.names.lookup x = some .cell ∨ sc.names.lookup x = some .free
noncomputable def Loc (sc : Scope) (x : Str) : Prop := sc.names.lookup x = some .local ∨ sc.names.lookup x = some .cell
noncomputable def Look (env : Env) (h : Heap) (m : Str → Option Value) (x : Str) (u : Value) : Prop :=
  (env.kindOf x = some .local ∧ m x = some u) ∨ ((env.kindOf x = some .cell ∨ env.kindOf x = some .free) ∧ ∃ c, env.cells.lookup x = some c ∧ h.IsCell c (some u))
structure Cx.Ok (X : Cx) : Prop where
  mod : Mod X.K X.mg X.base
  kind : X.env.scope.kind = .function
  glob : X.env.globals = mainGlobals
  blt : X.env.builtins = builtinsNs
  above : X.s₀.heap.objs.size ≤ X.env.locals
  inj : ∀ x y c, X.env.cells.lookup x = some c → X.env.cells.lookup y = some c → x = y
  has : ∀ x, (X.env.kindOf x = some .cell ∨ X.env.kindOf x = some .free) → ∃ c, X.env.cells.lookup x = some c
  cab : ∀ x c, X.fn x = true → X.env.cells.lookup x = some c → X.s₀.heap.objs.size ≤ c
  hd : X.calm = true → X.A.handled = none
  frames : X.A.frames = some X.stack
  stk : X.stack = X.outer ∨ (X.stack = X.env :: X.outer ∧ X.env.frame = some X.env.locals)
  exf : ∀ b ∈ X.ex, b ≠ X.env.locals ∧ ∀ x c, X.env.cells.lookup x = some c → c ≠ b
  bs : ∀ b o, X.base.get? b = some o → X.s₀.heap.get? b = some o ∧ X.H₀ b = none
  bsz : X.base.objs.size ≤ X.s₀.heap.objs.size
  noex : ∀ b o, X.base.get? b = some o → b ∉ X.ex
  exfs : ∀ b ∈ X.ex, b ∉ X.fs
  funs : X.s₀.heap.FunFrames X.base X.outer
  frf : ∀ b ∈ X.fs, X.H₀ b = none
structure Inv (X : Cx) (pins : List (Addr × Obj)) (σ : List (Option V)) (H : Hp) (s : Shared) : Prop where
  ok : X.Ok
  os : s.os = X.s₀.os
  bare : AllBare s.gens
  base : Un X.fs X.ex X.H₀ H X.s₀.heap s.heap
  loc : ∃ m, s.heap.Ns X.env.locals m ∧ ∀ (i : Nat) (x : Str) (v : V), X.N[i]? = some x → σ[i]? = some (some v) → Vis X.env.scope x → ∃ u, RelV v u ∧ Look X.env s.heap m x u
  cell : ∀ x c, X.env.cells.lookup x = some c → ∃ v, s.heap.IsCell c v
  free : H X.env.locals = none
  freeC : ∀ x c, X.env.cells.lookup x = some c → H c = none
  pin : ∀ p ∈ X.pn ++ pins, s.heap.get? p.1 = some p.2 ∧ H p.1 = none ∧ p.1 ≠ X.env.locals ∧ p.1 ∉ X.fs ∧ ∀ v, p.2.data ≠ .cell v
  hok : HOk X.prog X.w H s.heap
  len : σ.length = X.N.length
section
variable {X : Cx} {pins : List (Addr × Obj)} {σ : List (Option V)} {H H' : Hp} {s : Shared} {h' : Heap}
theorem Cx.Ok.nofr (ok : X.Ok) {b : Addr} {o : Obj} (e : X.base.get? b = some o) : b ∉ X.fs := fun hb => by
  have := (ok.funs.mem hb).1
  rw [e] at this; cases this
theorem Inv.bs (I : Inv X pins σ H s) : ∀ b o, X.base.get? b = some o → s.heap.get? b = some o ∧ H b = none := fun b o e =>
  ⟨I.base.keep b o (I.ok.bs b o e).1 (I.ok.bs b o e).2 (I.ok.nofr e) (I.ok.noex b o e), I.base.free b o (I.ok.bs b o e).1 (I.ok.bs b o e).2 (I.ok.noex b o e)⟩
theorem Inv.bk (I : Inv X pins σ H s) : ∀ b o, X.base.get? b = some o → s.heap.get? b = some o := fun b o e => (I.bs b o e).1
theorem Inv.mod (I : Inv X pins σ H s) : Mod X.K X.mg X.base := I.ok.mod
theorem Inv.kIn (I : Inv X pins σ H s) : X.K.In s.heap := I.ok.mod.kin.keeps I.bk
theorem Inv.nolimit (I : Inv X pins σ H s) : s.heap.NoLimit := I.ok.mod.nolimit.keeps I.bk
theorem Inv.fr (I : Inv X pins σ H s) : ∃ m, Fr X.base X.env.locals s.heap m :=
  let ⟨m, hn, _⟩ := I.loc
  ⟨m, hn, I.bk, Nat.le_trans I.ok.bsz I.ok.above⟩
theorem Inv.lt (I : Inv X pins σ H s) : X.env.locals < s.heap.objs.size := let ⟨_, hn, _⟩ := I.loc; hn.lt
theorem Inv.sz (I : Inv X pins σ H s) : X.s₀.heap.objs.size ≤ s.heap.objs.size := Nat.le_trans I.ok.above (Nat.le_of_lt I.lt)
theorem Inv.nofs (I : Inv X pins σ H s) {a : Addr} (h : s.heap.objs.size ≤ a) : a ∉ X.fs := fun hb => by
  obtain ⟨_, o, ho, _⟩ := I.ok.funs.mem hb
  exact absurd (Nat.lt_of_lt_of_le (Heap.lt_size ho) (Nat.le_trans I.sz h)) (Nat.lt_irrefl _)
theorem Inv.cne (I : Inv X pins σ H s) : ∀ x c, X.env.cells.lookup x = some c → c ≠ X.env.locals := fun x c e z => by
  obtain ⟨v, o, ho, hd⟩ := I.cell x c e
  obtain ⟨m, ⟨o', es, ep, ho', hd', _⟩, _⟩ := I.loc
  rw [z, ho'] at ho; cases ho; rw [hd'] at hd; cases hd
theorem Inv.funs (I : Inv X pins σ H s) : s.heap.FunFrames X.base X.outer := by
  have all : ∀ (l : List Env), (∀ b ∈ frs l, b ∈ X.fs) → X.s₀.heap.FunFrames X.base l → s.heap.FunFrames X.base l := by
    intro l
    induction l with
    | nil => intro _ _; trivial
    | cons env r ih =>
      intro hs hl
      obtain ⟨hk, ⟨L, o, hf, hn, ho, hd⟩, hr⟩ := hl
      have hL : L ∈ X.fs := hs L (by unfold frs; rw [List.filterMap_cons, hf]; exact List.mem_cons_self)
      obtain ⟨sl, e⟩ := I.base.slot L o ho (I.ok.frf L hL) hL fun z => I.ok.exfs L z hL
      exact ⟨hk, ⟨L, _, hf, hn, e, hd⟩, ih (fun b hb => hs b (by unfold frs; rw [List.filterMap_cons, hf]; exact List.mem_cons_of_mem _ hb)) hr⟩
  exact all X.outer (fun _ hb => hb) I.ok.funs
theorem Inv.stack (I : Inv X pins σ H s) : s.heap.FunFrames X.base X.stack := by
  rcases I.ok.stk with e | ⟨e, hf⟩
  · rw [e]; exact I.funs
  · rw [e]
    obtain ⟨m, hn, _⟩ := I.loc
    refine .cons (by rw [I.ok.kind]; decide) hf hn ?_ I.funs
    exact Heap.get?_none_of_le (Nat.le_trans I.ok.bsz I.ok.above)
theorem Inv.stkSub (I : Inv X pins σ H s) : ∀ b ∈ frs X.stack, b ∈ X.env.locals :: X.fs := fun b hb => by
  rcases I.ok.stk with e | ⟨e, hf⟩
  · rw [e] at hb; exact List.mem_cons_of_mem _ hb
  · rw [e] at hb
    unfold frs at hb
    rw [List.filterMap_cons, hf] at hb
    exact hb
theorem Inv.stkFree (I : Inv X pins σ H s) : ∀ b ∈ frs X.stack, H b = none := fun b hb => by
  rcases List.mem_cons.mp (I.stkSub b hb) with e | hb
  · rw [e]; exact I.free
  · obtain ⟨_, o, ho, _⟩ := I.ok.funs.mem hb
    exact I.base.free b o ho (I.ok.frf b hb) fun z => I.ok.exfs b z hb
theorem Inv.step {g' : Array GenState} {t' : Nat} {d' : Drawn} {ch : List Addr} (I : Inv X pins σ H s)
    (hch : ∀ b ∈ ch, (b ∈ X.ex ∨ X.s₀.heap.objs.size ≤ b) ∧ b ≠ X.env.locals ∧ (∀ x c, X.env.cells.lookup x = some c → c ≠ b) ∧ ∀ p ∈ X.pn ++ pins, p.1 ≠ b)
    (keep : ∀ b o, b ≠ X.env.locals → b ∉ X.fs → b ∉ ch → s.heap.get? b = some o → H b = none → h'.get? b = some o)
    (slot : ∀ b o, b ≠ X.env.locals → b ∈ X.fs → b ∉ ch → s.heap.get? b = some o → H b = none → ∃ sl, h'.get? b = some { o with slots := sl }) (free : ∀ b o, b ∉ ch → s.heap.get? b = some o → H b = none → H' b = none)
    (there : ∀ b o, b ∉ ch → s.heap.get? b = some o → ∃ o', h'.get? b = some o')
    (tups : ∀ b xs, H b = some (.tup xs) → H' b = some (.tup xs)) (frzs : ∀ b o u, H b = some (.frz o u) → H' b = some (.frz o u)) (tbls : ∀ b ps, H b = some (.tbl ps) → ∃ more, H' b = some (.tbl (ps ++ more)))
    (ns : ∀ m, s.heap.Ns X.env.locals m → h'.Ns X.env.locals m) (hok : HOk X.prog X.w H' h') (hg : AllBare g') :
    Inv X pins σ H' { s with heap := h', gens := g', drawn := d', toks := t' } := by
  have neL : ∀ b o, X.s₀.heap.get? b = some o → b ≠ X.env.locals := fun b o e => Nat.ne_of_lt (Nat.lt_of_lt_of_le (Heap.lt_size e) I.ok.above)
  have neC : ∀ b o, X.s₀.heap.get? b = some o → b ∉ X.ex → b ∉ ch := fun b o e hx hb => by
    rcases (hch b hb).1 with z | z
    · exact hx z
    · exact absurd (Nat.lt_of_lt_of_le (Heap.lt_size e) z) (Nat.lt_irrefl _)
  have cellK : ∀ x c, X.env.cells.lookup x = some c → ∀ v, s.heap.IsCell c v → h'.IsCell c v := fun x c e v ⟨o, ho, hd⟩ => by
    have nch : c ∉ ch := fun z => (hch c z).2.2.1 x c e rfl
    by_cases hc : c ∈ X.fs
    · obtain ⟨sl, q⟩ := slot c o (I.cne x c e) hc nch ho (I.freeC x c e)
      exact ⟨_, q, hd⟩
    · exact ⟨o, keep c o (I.cne x c e) hc nch ho (I.freeC x c e), hd⟩
  refine ⟨I.ok, I.os, hg, ⟨fun b o e n hb hx => ?_, fun b o e n hb hx => ?_, fun b o e n hx => ?_, fun b o e hx => ?_, fun b xs e => tups b xs (I.base.tups b xs e), fun b o xs e => frzs b o xs (I.base.frzs b o xs e), fun b ps e => ?_⟩, ?_, fun x c e => ?_, ?_, fun x c e => ?_, fun p hp => ?_, hok, I.len⟩
  · exact keep b o (neL b o e) hb (neC b o e hx) (I.base.keep b o e n hb hx) (I.base.free b o e n hx)
  · obtain ⟨sl, e1⟩ := I.base.slot b o e n hb hx
    obtain ⟨sl', e2⟩ := slot b _ (neL b o e) hb (neC b o e hx) e1 (I.base.free b o e n hx)
    exact ⟨sl', e2⟩
  · obtain ⟨o', e1⟩ := I.base.there b o e hx
    exact free b o' (neC b o e hx) e1 (I.base.free b o e n hx)
  · obtain ⟨o', e1⟩ := I.base.there b o e hx
    exact there b o' (neC b o e hx) e1
  · obtain ⟨m1, e1⟩ := I.base.tbls b ps e
    obtain ⟨m2, e2⟩ := tbls b _ e1
    exact ⟨m1 ++ m2, by rw [e2, Array.append_assoc]⟩
  · obtain ⟨m, hn, hl⟩ := I.loc
    refine ⟨m, ns m hn, fun i x v e1 e2 e3 => ?_⟩
    obtain ⟨u, r, l⟩ := hl i x v e1 e2 e3
    refine ⟨u, r, ?_⟩
    rcases l with l | ⟨k, c, e, z⟩
    · exact .inl l
    · exact .inr ⟨k, c, e, cellK x c e _ z⟩
  · obtain ⟨v, z⟩ := I.cell x c e
    exact ⟨v, cellK x c e v z⟩
  · obtain ⟨m, ⟨o, _, _, ho, _⟩, _⟩ := I.loc
    exact free _ o (fun z => (hch _ z).2.1 rfl) ho I.free
  · obtain ⟨v, o, ho, hd⟩ := I.cell x c e
    exact free c o (fun z => (hch c z).2.2.1 x c e rfl) ho (I.freeC x c e)
  · obtain ⟨e, n, ne, nf, d⟩ := I.pin p hp
    have nch : p.1 ∉ ch := fun z => (hch p.1 z).2.2.2 p hp rfl
    exact ⟨keep p.1 p.2 ne nf nch e n, free p.1 p.2 nch e n, ne, nf, d⟩
theorem Inv.un {t' : Nat} (I : Inv X pins σ H s) (u : Un X.fs [] H H' s.heap h') (hok : HOk X.prog X.w H' h') : Inv X pins σ H' { s with heap := h', toks := t' } := by
  obtain ⟨m, ⟨o, es, ep, ho, r⟩, _⟩ := id I.loc
  obtain ⟨sl, hL⟩ := u.any ho I.free (by simp)
  exact I.step (g' := s.gens) (d' := s.drawn) (ch := []) (fun _ z => nomatch z) (fun b o _ hb _ e n => u.keep b o e n hb (by simp)) (fun b o _ hb _ e n => u.slot b o e n hb (by simp)) (fun b o _ e n => u.free b o e n (by simp)) (fun b o _ e => u.there b o e (by simp)) u.tups u.frzs u.tbls (fun m' hm => by
    obtain ⟨o', es', ep', ho', r'⟩ := hm
    rw [ho] at ho'; cases ho'
    exact ⟨_, es', ep', hL, r'⟩) hok I.bare
theorem Inv.call {g' : Array GenState} {t' : Nat} {d' : Drawn} {ch : List Addr} (I : Inv X pins σ H s) (u : Un (frs X.stack) ch H H' s.heap h') (hok : HOk X.prog X.w H' h') (hg : AllBare g')
    (hch : ∀ b ∈ ch, (b ∈ X.ex ∨ X.s₀.heap.objs.size ≤ b) ∧ b ≠ X.env.locals ∧ (∀ x c, X.env.cells.lookup x = some c → c ≠ b) ∧ ∀ p ∈ X.pn ++ pins, p.1 ≠ b) :
    Inv X pins σ H' { s with heap := h', gens := g', drawn := d', toks := t' } := by
  obtain ⟨m, ⟨o, es, ep, ho, r⟩, _⟩ := id I.loc
  obtain ⟨sl, hL⟩ := u.any ho I.free fun z => (hch _ z).2.1 rfl
  exact I.step (ch := ch) hch (fun b o hL hb hc e n => u.keep b o e n (fun z => (List.mem_cons.mp (I.stkSub b z)).elim hL hb) hc) (fun b o _ _ hc e n => u.any e n hc) (fun b o hc e n => u.free b o e n hc) (fun b o hc e => u.there b o e hc) u.tups u.frzs u.tbls (fun m' hm => by
    obtain ⟨o', es', ep', ho', r'⟩ := hm
    rw [ho] at ho'; cases ho'
    exact ⟨_, es', ep', hL, r'⟩) hok hg
theorem Inv.turned {t' : Nat} {it : Addr} (I : Inv X pins σ H s) (k : ∀ b o, b ≠ it → s.heap.get? b = some o → h'.get? b = some o) (hn : H it = none) (hL : it ≠ X.env.locals)
    (h1 : it ∈ X.ex ∨ X.s₀.heap.objs.size ≤ it) (h2 : ∀ x c, X.env.cells.lookup x = some c → c ≠ it) (h3 : ∀ p ∈ X.pn ++ pins, p.1 ≠ it) : Inv X pins σ H { s with heap := h', toks := t' } := by
  have nit : ∀ b u, H b = some u → b ≠ it := fun b u e z => by rw [z, hn] at e; cases e
  refine I.step (g' := s.gens) (d' := s.drawn) (ch := [it]) (fun b hb => ?_) (fun b o _ _ hc e _ => k b o (fun z => hc (by simp [z])) e) (fun b o _ _ hc e _ => ⟨o.slots, k b o (fun z => hc (by simp [z])) e⟩) (fun _ _ _ _ n => n)
    (fun b o hc e => ⟨o, k b o (fun z => hc (by simp [z])) e⟩) (fun _ _ e => e) (fun _ _ _ e => e) (fun b ps e => ⟨#[], by rw [e]; simp⟩) (fun m hm => ?_) (fun b u e => ?_) I.bare
  · have e : b = it := by simpa using hb
    subst e
    exact ⟨h1, hL, h2, h3⟩
  · obtain ⟨o, es, ep, ho, r⟩ := hm
    exact ⟨o, es, ep, k _ o (Ne.symm hL) ho, r⟩
  · refine (I.hok b u e).stay (fun c v hc q => k c v ?_ q) (fun _ q => q) fun _ _ q => q
    rcases hc with z | z
    · rw [z]; exact nit b u e
    · exact nit c _ z
theorem Inv.tok (I : Inv X pins σ H s) (t : Nat) : Inv X pins σ H { s with toks := t } := I.un (h' := s.heap) (t' := t) Un.refl I.hok
theorem Inv.kept {t' : Nat} (I : Inv X pins σ H s) (k : ∀ b u, s.heap.get? b = some u → h'.get? b = some u) : Inv X pins σ H { s with heap := h', toks := t' } := I.un (Un.kept k) (I.hok.kept k)
theorem Inv.laid {a : Addr} {o : HO} {t' : Nat} (I : Inv X pins σ H s) (k : ∀ b u, s.heap.get? b = some u → h'.get? b = some u) (hp : s.heap.objs.size ≤ a) (new : ObjOk X.prog X.w (upd H a o) h' a o) :
    Inv X pins σ (upd H a o) { s with heap := h', toks := t' } := I.un (Un.laid k hp (I.hok.fresh hp)) (I.hok.laid k hp new)
theorem Inv.write {x e : Addr} {o : HO} {t' : Nat} (I : Inv X pins σ H s) (mu : Mut (H x)) (he : e = x ∨ H e = some (.own x)) (k : ∀ b u, b ≠ e → s.heap.get? b = some u → h'.get? b = some u) (heo : ∃ u, h'.get? e = some u)
    (new : ObjOk X.prog X.w (upd H x o) h' x o) : Inv X pins σ (upd H x o) { s with heap := h', toks := t' } := I.un (Un.write mu he k heo) (I.hok.write mu he k heo new)
theorem Inv.pins_of {pins' : List (Addr × Obj)} (I : Inv X pins σ H s) (h : ∀ p ∈ pins', s.heap.get? p.1 = some p.2 ∧ H p.1 = none ∧ p.1 ≠ X.env.locals ∧ p.1 ∉ X.fs ∧ ∀ v, p.2.data ≠ .cell v) : Inv X pins' σ H s :=
  ⟨I.ok, I.os, I.bare, I.base, I.loc, I.cell, I.free, I.freeC, fun p hp => (List.mem_append.mp hp).elim (fun z => I.pin p (List.mem_append_left _ z)) (h p), I.hok, I.len⟩
theorem nodup_ix {N : List Str} (hN : N.Nodup) {i j : Nat} {x : Str} (a : N[i]? = some x) (b : N[j]? = some x) : i = j := by
  obtain ⟨h1, e1⟩ := List.getElem?_eq_some_iff.mp a
  obtain ⟨h2, e2⟩ := List.getElem?_eq_some_iff.mp b
  exact (List.getElem_inj hN).mp (e1.trans e2.symm)
theorem store_ok2 {M : Model} {A : Around} {E : Value → Shared → Prop} {i : Nat} {x : Str} {v : V} {u : Value} {Q : Unit → Shared → Prop} (I : Inv X pins σ H s) (hN : X.N.Nodup) (hi : X.N[i]? = some x) (hx : Loc X.env.scope x) (r : RelV v u)
    (h : ∀ s', Inv X pins (σ.set i (some v)) H s' → (∃ a, Heap.SameBut a s.heap s'.heap ∧ (a = X.env.locals ∨ X.env.cells.lookup x = some a)) → Q () s') (hf : X.fn x = true ∨ X.env.scope.names.lookup x = some .local := by first | exact .inl rfl | exact .inr rfl | assumption) : wpAny M A (storeName X.env x u) Q E s := by
  obtain ⟨m, hn, hl⟩ := id I.loc
  have hcls : (X.env.scope.kind == .class || (X.env.scope.kind == .module && X.env.locals != X.env.globals)) = false := by rw [I.ok.kind]; rfl
  have hiσ : i < σ.length := by rw [I.len]; exact (List.getElem?_eq_some_iff.mp hi).1
  have cne := I.cne
  have tracked : ∀ {a : Addr} {h' : Heap}, (∃ o, s.heap.get? a = some o ∧ H a = none) → Heap.SameBut a s.heap h' → HOk X.prog X.w H h' := fun {a h'} ha hs b ob e => by
    obtain ⟨_, _, hfree⟩ := ha
    refine (I.hok b ob e).stay (fun c w' hc q => (hs.2 c ?_).trans q) (fun _ q => q) fun _ _ q => q
    rintro rfl
    rcases hc with rfl | hc
    · rw [hfree] at e; cases e
    · rw [hfree] at hc; cases hc
  rcases hx with hk | hk
  · refine wpAny_storeName_local hk hn (fun h' hn' hs => ?_) hcls
    obtain ⟨oL, _, _, hoL, _⟩ := id hn
    refine h _ ⟨I.ok, I.os, I.bare, ⟨fun b o e n hb hx => ?_, fun b o e n hb hx => ?_, I.base.free, fun b o e hx => ?_, I.base.tups, I.base.frzs, I.base.tbls⟩, ⟨_, hn', fun j y v' e1 e2 e3 => ?_⟩, fun y c e => ?_, I.free, I.freeC, fun p hp => ?_, tracked ⟨oL, hoL, I.free⟩ hs, by simpa using I.len⟩ ⟨_, hs, .inl rfl⟩
    · exact (hs.2 b (Nat.ne_of_lt (Nat.lt_of_lt_of_le (Heap.lt_size e) I.ok.above))).trans (I.base.keep b o e n hb hx)
    · obtain ⟨sl, e1⟩ := I.base.slot b o e n hb hx
      exact ⟨sl, (hs.2 b (Nat.ne_of_lt (Nat.lt_of_lt_of_le (Heap.lt_size e) I.ok.above))).trans e1⟩
    · obtain ⟨o', e1⟩ := I.base.there b o e hx
      exact ⟨o', (hs.2 b (Nat.ne_of_lt (Nat.lt_of_lt_of_le (Heap.lt_size e) I.ok.above))).trans e1⟩
    · by_cases hj : j = i
      · subst hj
        rw [hi] at e1; cases e1
        rw [List.getElem?_set_self hiσ] at e2
        cases e2
        exact ⟨u, r, .inl ⟨hk, by simp⟩⟩
      · rw [List.getElem?_set_ne (Ne.symm hj)] at e2
        obtain ⟨u', r', q⟩ := hl j y v' e1 e2 e3
        refine ⟨u', r', ?_⟩
        rcases q with ⟨k, e⟩ | ⟨k, c, e, z⟩
        · refine .inl ⟨k, ?_⟩
          have : y ≠ x := fun e => hj (nodup_ix hN e1 (e ▸ hi))
          simp [this, e]
        · exact .inr ⟨k, c, e, z.sameBut hs (cne y c e)⟩
    · obtain ⟨w', z⟩ := I.cell y c e
      exact ⟨w', z.sameBut hs (cne y c e)⟩
    · obtain ⟨e, n, ne, nf, d⟩ := I.pin p hp
      exact ⟨(hs.2 p.1 ne).trans e, n, ne, nf, d⟩
  · have hfn : X.fn x = true := by
      rcases hf with z | z
      · exact z
      · rw [z] at hk; cases hk
    obtain ⟨c, hc⟩ := I.ok.has x (.inl hk)
    obtain ⟨w', z⟩ := I.cell x c hc
    refine wpAny_storeName_cell I.ok.kind hk hc z (fun h' hc' hs => ?_)
    obtain ⟨oc, hoc, hocd⟩ := id z
    refine h { s with heap := h' } ⟨I.ok, I.os, I.bare, ⟨fun b o e n hb hx => ?_, fun b o e n hb hx => ?_, I.base.free, fun b o e hx => ?_, I.base.tups, I.base.frzs, I.base.tbls⟩, ⟨m, hn.sameBut hs (Ne.symm (cne x c hc)), fun j y v' e1 e2 e3 => ?_⟩, fun y c' e => ?_, I.free, I.freeC, fun p hp => ?_, tracked ⟨oc, hoc, I.freeC x c hc⟩ hs, by simpa using I.len⟩ ⟨c, hs, .inr hc⟩
    · exact (hs.2 b (Nat.ne_of_lt (Nat.lt_of_lt_of_le (Heap.lt_size e) (I.ok.cab x c hfn hc)))).trans (I.base.keep b o e n hb hx)
    · obtain ⟨sl, e1⟩ := I.base.slot b o e n hb hx
      exact ⟨sl, (hs.2 b (Nat.ne_of_lt (Nat.lt_of_lt_of_le (Heap.lt_size e) (I.ok.cab x c hfn hc)))).trans e1⟩
    · obtain ⟨o', e1⟩ := I.base.there b o e hx
      exact ⟨o', (hs.2 b (Nat.ne_of_lt (Nat.lt_of_lt_of_le (Heap.lt_size e) (I.ok.cab x c hfn hc)))).trans e1⟩
    · by_cases hj : j = i
      · subst hj
        rw [hi] at e1; cases e1
        rw [List.getElem?_set_self hiσ] at e2
        cases e2
        exact ⟨u, r, .inr ⟨.inl hk, c, hc, hc'⟩⟩
      · rw [List.getElem?_set_ne (Ne.symm hj)] at e2
        obtain ⟨u', r', q⟩ := hl j y v' e1 e2 e3
        refine ⟨u', r', ?_⟩
        rcases q with q | ⟨k, c', e, z'⟩
        · exact .inl q
        · refine .inr ⟨k, c', e, z'.sameBut hs ?_⟩
          rintro rfl
          exact hj (nodup_ix hN e1 (I.ok.inj _ _ _ e hc ▸ hi))
    · by_cases hcc : c' = c
      · subst hcc; exact ⟨_, hc'⟩
      · obtain ⟨w2, z2⟩ := I.cell y c' e
        exact ⟨w2, z2.sameBut hs hcc⟩
    · obtain ⟨e, n, ne, nf, d⟩ := I.pin p hp
      refine ⟨(hs.2 p.1 ?_).trans e, n, ne, nf, d⟩
      intro q
      rw [q, hoc] at e
      have q' : oc = p.2 := Option.some.inj e
      exact d w' (by rw [← q']; exact hocd)
theorem store_ok {M : Model} {A : Around} {E : Value → Shared → Prop} {i : Nat} {x : Str} {v : V} {u : Value} {Q : Unit → Shared → Prop} (I : Inv X pins σ H s) (hN : X.N.Nodup) (hi : X.N[i]? = some x) (hx : Loc X.env.scope x) (r : RelV v u)
    (h : ∀ s', Inv X pins (σ.set i (some v)) H s' → Q () s') (hf : X.fn x = true ∨ X.env.scope.names.lookup x = some .local := by first | exact .inl rfl | exact .inr rfl | assumption) : wpAny M A (storeName X.env x u) Q E s :=
  store_ok2 I hN hi hx r (fun s' I' _ => h s' I') hf
theorem Inv.call' {s' : Shared} {ch : List Addr} (I : Inv X pins σ H s) (ho : s'.os = s.os) (u : Un (frs X.stack) ch H H' s.heap s'.heap) (hok : HOk X.prog X.w H' s'.heap) (hg : AllBare s'.gens)
    (hch : ∀ b ∈ ch, (b ∈ X.ex ∨ X.s₀.heap.objs.size ≤ b) ∧ b ≠ X.env.locals ∧ (∀ x c, X.env.cells.lookup x = some c → c ≠ b) ∧ ∀ p ∈ X.pn ++ pins, p.1 ≠ b) : Inv X pins σ H' s' := by
  obtain ⟨h', g', d', t', o'⟩ := s'
  have e : o' = s.os := ho
  subst e
  exact I.call (g' := g') (t' := t') (d' := d') u hok hg hch
end
noncomputable abbrev XK := Value → Option Addr → Hp → Prop
noncomputable abbrev St := List (Option V)
noncomputable abbrev VK := V → Hp → Prop
noncomputable abbrev TE := St → Hp → VK → Prop
noncomputable abbrev TT := St → Hp → (Bool → Hp → Prop) → Prop
noncomputable abbrev TA := St → Hp → (List V → Hp → Prop) → Prop
structure Ends where
  nx : St → Hp → Prop
  rt : VK
  bk : St → Hp → Prop := fun _ _ => False
  ct : St → Hp → Prop := fun _ _ => False
noncomputable abbrev TS := Ends → St → Hp → Prop
noncomputable def EP (X : Cx) (pins : List (Addr × Obj)) (σ : St) (Q : VK) (u : Value) (s' : Shared) : Prop := ∃ v H', Inv X pins σ H' s' ∧ RelV v u ∧ Q v H'
noncomputable def TP (X : Cx) (pins : List (Addr × Obj)) (σ : St) (Q : Bool → Hp → Prop) (b : Bool) (s' : Shared) : Prop := ∃ H', Inv X pins σ H' s' ∧ Q b H'
noncomputable def AP (X : Cx) (pins : List (Addr × Obj)) (σ : St) (Q : List V → Hp → Prop) (us : List Value) (s' : Shared) : Prop := ∃ vs H', Inv X pins σ H' s' ∧ Vals vs us ∧ Q vs H'
noncomputable def SP (X : Cx) (pins : List (Addr × Obj)) (D : Ends) (f : Flow) (s' : Shared) : Prop :=
  match f with
  | .next => ∃ σ' H', Inv X pins σ' H' s' ∧ D.nx σ' H'
  | .brk => ∃ σ' H', Inv X pins σ' H' s' ∧ D.bk σ' H'
  | .cont => ∃ σ' H', Inv X pins σ' H' s' ∧ D.ct σ' H'
  | .ret u => ∃ v σ' H', Inv X pins σ' H' s' ∧ RelV v u ∧ D.rt v H'
noncomputable def PE (X : Cx) (e : Expr) (t : TE) : Prop :=
  ∀ (pins : List (Addr × Obj)) (s : Shared) (σ : St) (H : Hp) (Q : VK), Inv X pins σ H s → t σ H Q → wpAny (model X.prog X.w) X.A (eval e X.env) (EP X pins σ Q) X.xe s
noncomputable def PT (X : Cx) (e : Expr) (t : TT) : Prop :=
  ∀ (pins : List (Addr × Obj)) (s : Shared) (σ : St) (H : Hp) (Q : Bool → Hp → Prop), Inv X pins σ H s → t σ H Q → wpAny (model X.prog X.w) X.A (isTrue e X.env (eval e X.env)) (TP X pins σ Q) X.xe s
noncomputable def PW (X : Cx) (e : Expr) (t : TT) : Prop :=
  ∀ (whole : Sem Value) (pins : List (Addr × Obj)) (s : Shared) (σ : St) (H : Hp) (Q : Bool → Hp → Prop), Inv X pins σ H s → t σ H Q → wpAny (model X.prog X.w) X.A (isTrue e X.env whole) (TP X pins σ Q) X.xe s
theorem PW.pt {X : Cx} {e : Expr} {t : TT} (h : PW X e t) : PT X e t := h _
noncomputable def PA (X : Cx) (es : List Expr) (t : TA) : Prop :=
  ∀ (pos : Pos) (pins : List (Addr × Obj)) (s : Shared) (σ : St) (H : Hp) (Q : List V → Hp → Prop), Inv X pins σ H s → t σ H Q → wpAny (model X.prog X.w) X.A (spliced (backTo pos (starEach es X.env))) (AP X pins σ Q) X.xe s
noncomputable def PS (X : Cx) (st : Stmt) (t : TS) : Prop :=
  ∀ (pins : List (Addr × Obj)) (s : Shared) (σ : St) (H : Hp) (D : Ends), Inv X pins σ H s → t D σ H → wpAny (model X.prog X.w) X.A (exec st X.env) (SP X pins D) X.xe s
noncomputable def PSs (X : Cx) (st : List Stmt) (t : TS) : Prop :=
  ∀ (pins : List (Addr × Obj)) (s : Shared) (σ : St) (H : Hp) (D : Ends), Inv X pins σ H s → t D σ H → wpAny (model X.prog X.w) X.A (execs st X.env) (SP X pins D) X.xe s
theorem thn {α : Type} {t : Sem α} {Q Q' : α → Shared → Prop} {M : Model} {A : Around} {E : Value → Shared → Prop} {s : Shared} (h : wpAny M A t Q E s) (hQ : ∀ a s, Q a s → Q' a s) : wpAny M A t Q' E s := wpAny_mono h hQ fun _ _ x => x
end L2
namespace L2
open PySem PySem.Spec PyProof.Rows
section
variable {X : Cx}
noncomputable def tVar (i : Nat) : TE := fun σ H Q => ∃ v, σ[i]? = some (some v) ∧ Q v H
noncomputable def tC (v : V) : TE := fun _ H Q => Q v H
theorem pe_var {i : Nat} {x : Str} {pos : Pos} (hN : X.N[i]? = some x) (hv : Vis X.env.scope x) (hd : (x == ("__debug__" : Str)) = false := by decide) (hcd : (x == ("__classdict__" : Str)) = false := by decide) : PE X (.Name x pos) (tVar i) := by
  intro pins s σ H Q I h
  obtain ⟨v, e, h⟩ := h
  obtain ⟨m, hn, hl⟩ := I.loc
  obtain ⟨u, r, l⟩ := hl i x v hN e hv
  have fin : EP X pins σ Q u s := ⟨v, H, I, r, h⟩
  rcases l with ⟨hk, hm⟩ | ⟨hk, c, hc, hcell⟩
  · exact wpAny_Name (wpAny_loadName_local I.ok.kind hk hn hm fin) hd
  · rcases hk with hk | hk
    · exact wpAny_Name (wpAny_loadName_cell I.ok.kind hk hc hcell fin) hd
    · exact wpAny_Name (wpAny_loadName_free I.ok.kind hk hc hcell fin hcd) hd
theorem pe_int {i j pos} : PE X (.Constant (.int i) j pos) (tC (.int i)) := fun _ _ _ H _ I h => wpAny_Constant_int ⟨.int i, H, I.tok _, ⟨_, rfl⟩, h⟩
theorem pe_bl {b j pos} : PE X (.Constant (.bool b) j pos) (tC (.bl b)) := fun _ _ _ H _ I h => Constant_bool ⟨.bl b, H, I, rfl, h⟩
theorem pe_str {x j pos} : PE X (.Constant (.str x) j pos) (tC (.str x)) := fun _ _ _ H _ I h => Calls.Constant_str ⟨.str x, H, I.tok _, ⟨_, rfl⟩, h⟩
noncomputable def Gl (X : Cx) (x : Str) : Prop := X.env.kindOf x = some .globalImplicit
theorem ld_glob {E : Value → Shared → Prop} {pins : List (Addr × Obj)} {s : Shared} {σ : St} {H : Hp} {x : Str} {u : Value} {pos : Pos} {Q : Value → Shared → Prop} (I : Inv X pins σ H s) (hg : Gl X x) (hm : X.mg x = some u) (h : Q u s)
    (hd : (x == ("__debug__" : Str)) = false := by decide) : wpAny (model X.prog X.w) X.A (eval (.Name x pos) X.env) Q E s :=
  Calls.Name_function_global I.ok.kind hg (Calls.loadGlobal_global (by rw [I.ok.glob]; exact I.mod.glob.keeps I.bk) hm h) hd
theorem ld_blt {E : Value → Shared → Prop} {pins : List (Addr × Obj)} {s : Shared} {σ : St} {H : Hp} {x : Str} {u : Value} {pos : Pos} {Q : Value → Shared → Prop} (I : Inv X pins σ H s) (hg : Gl X x) (hm : X.mg x = none) (hv : bootBuiltins x = some u) (h : Q u s)
    (hn : x ≠ "__name__" := by decide) (hd : (x == ("__debug__" : Str)) = false := by decide) : wpAny (model X.prog X.w) X.A (eval (.Name x pos) X.env) Q E s := by
  obtain ⟨mb, h1, h2⟩ := I.mod.blt
  exact Calls.Name_function_global I.ok.kind hg (Calls.loadGlobal_builtin (by rw [I.ok.glob]; exact I.mod.glob.keeps I.bk) hm (by rw [I.ok.blt]; exact h1.keeps I.bk) ((h2 x hn).trans hv) h) hd
theorem pe_glob {x : Str} {v : V} {u : Value} {pos : Pos} (hg : Gl X x) (hm : X.mg x = some u) (r : RelV v u) (hd : (x == ("__debug__" : Str)) = false := by decide) : PE X (.Name x pos) (tC v) :=
  fun _ _ _ H _ I h => ld_glob I hg hm ⟨v, H, I, r, h⟩ hd
theorem pe_bltn {x : Str} {v : V} {u : Value} {pos : Pos} (hg : Gl X x) (hm : X.mg x = none) (hv : bootBuiltins x = some u) (r : RelV v u) (hn : x ≠ "__name__" := by decide) (hd : (x == ("__debug__" : Str)) = false := by decide) : PE X (.Name x pos) (tC v) :=
  fun _ _ _ H _ I h => ld_blt I hg hm hv ⟨v, H, I, r, h⟩ hn hd
variable {a b : Expr} {ta tb : TE} {pos : Pos}
variable {tA tB' : TT} {rest : List Expr}
noncomputable def tOr (t u : TT) : TT := fun σ H Q => t σ H fun c H1 => if c = true then Q true H1 else u σ H1 Q
noncomputable def tNot (t : TT) : TT := fun σ H Q => t σ H fun c H1 => Q (!c) H1
theorem pw_or1 (ha : PT X a tA) : PW X (.BoolOp .Or [a] pos) tA := by
  intro wh pins s σ H Q I h
  refine isTrue_or (thn (ha pins s σ H Q I h) fun c s1 e => ?_)
  cases c with
  | false => exact isTrue_or_nil e
  | true => exact e
theorem pw_or (ha : PT X a tA) (hb : PW X (.BoolOp .Or (b :: rest) pos) tB') : PW X (.BoolOp .Or (a :: b :: rest) pos) (tOr tA tB') := by
  intro wh pins s σ H Q I h
  refine isTrue_or (thn (ha pins s σ H _ I h) fun c s1 ⟨H1, I1, q1⟩ => ?_)
  cases c with
  | true => exact ⟨H1, I1, q1⟩
  | false => exact hb wh pins s1 σ H1 Q I1 q1
theorem pt_not (ha : PT X a tA) : PT X (.UnaryOp .Not a pos) (tNot tA) := by
  intro pins s σ H Q I h
  exact isTrue_not (ha pins s σ H (fun c H1 => Q (!c) H1) I h)
noncomputable def tAndV (ta tb : TE) : TE := fun σ H Q => ta σ H fun x H1 => ∃ c, x = .bl c ∧ if c = true then tb σ H1 Q else Q (.bl false) H1
theorem pe_one {op} {t : TE} (h : PE X a t) : PE X (.BoolOp op [a] pos) t := fun pins s σ H Q I hw => BoolOp_one (h pins s σ H Q I hw)
theorem pe_and (ha : PE X a ta) (hb : PE X (.BoolOp .And (b :: rest) pos) tb) : PE X (.BoolOp .And (a :: b :: rest) pos) (tAndV ta tb) := by
  intro pins s σ H Q I h
  refine BoolOp_and (thn (ha pins s σ H _ I h) fun v s1 ⟨x, H1, I1, r1, q1⟩ => ?_)
  obtain ⟨c, rfl, q1⟩ := q1
  cases r1
  refine wpAny_truthy_bool ?_
  cases c with
  | true => exact hb pins s1 σ H1 Q I1 q1
  | false => exact ⟨.bl false, H1, I1, rfl, q1⟩
end
end L2
namespace L2
open PySem PySem.Spec PyProof.Rows
noncomputable def SqL (K : PySem.W.Frag) (H : Hp) (a : Addr) (xs : List V) : Prop :=
  Rd H a (.lst xs) ∨
    ∃ (o : Obj) (its : Array Value) (n : Nat), K.lookup a = some o ∧ o.cls = .type "list" ∧ o.dict = none ∧ o.data = .seq its n ∧ its.size ≤ sizeLine ∧ Vals xs its.toList
noncomputable def SqT (K : PySem.W.Frag) (H : Hp) (a : Addr) (xs : List V) : Prop :=
  Rd H a (.tup xs) ∨
    ∃ (o : Obj) (its : Array Value) (n : Nat), K.lookup a = some o ∧ o.cls = .type "tuple" ∧ o.data = .seq its n ∧ its.size ≤ sizeLine ∧ Vals xs its.toList
noncomputable def absV : Value → Option V
  | .none => some .non
  | .bool b => some (.bl b)
  | .int i _ => some (.int i)
  | .str x _ => some (.str x)
  | .bytes b _ => some (.byt b)
  | .float b _ => some (.flt b)
  | .ref a => some (.ref a)
  | .type n => some (.ty n)
  | _ => none
theorem RelV.abs {x : V} {u : Value} (r : RelV x u) : absV u = some x := by
  cases x with
  | non => cases r; rfl
  | bl _ => cases r; rfl
  | int _ => obtain ⟨t, rfl⟩ := r; rfl
  | str _ => obtain ⟨t, rfl⟩ := r; rfl
  | byt _ => obtain ⟨t, rfl⟩ := r; rfl
  | flt _ => obtain ⟨t, rfl⟩ := r; rfl
  | ref _ => cases r; rfl
  | ty _ => cases r; rfl
theorem RelV.inj {x y : V} {u : Value} (r : RelV x u) (q : RelV y u) : x = y := Option.some.inj (r.abs.symm.trans q.abs)
theorem Vals.inj : ∀ {xs ys : List V} {us : List Value}, Vals xs us → Vals ys us → xs = ys
  | _, _, _, .nil, .nil => rfl
  | _, _, _, .cons r t, .cons r' t' => by rw [r.inj r', Vals.inj t t']
section
variable {X : Cx} {pins : List (Addr × Obj)} {σ : St} {H : Hp} {s : Shared} {a : Addr} {xs ys : List V}
theorem SqL.of {K : PySem.W.Frag} (h : H a = some (.lst xs)) : SqL K H a xs := .inl (.inl h)
theorem SqT.of {K : PySem.W.Frag} (h : H a = some (.tup xs)) : SqT K H a xs := .inl (.inl h)
theorem Inv.list (I : Inv X pins σ H s) (h : SqL X.K H a xs) : ∃ its : List Value, Vals xs its ∧ PlainL s.heap a its.toArray ∧ xs.length ≤ sizeLine := by
  rcases h with h | ⟨o, its, n, hk, hc, hd, hs, hz, r⟩
  · obtain ⟨z, its, n, r, e⟩ := h.ok I.hok
    exact ⟨its, r, ⟨_, n, e, rfl, rfl, rfl⟩, z⟩
  · refine ⟨its.toList, r, ⟨o, n, I.kIn a o hk, hc, hd, by simpa using hs⟩, ?_⟩
    have e := r.length
    simp only [Array.length_toList] at e
    omega
theorem Inv.tuple (I : Inv X pins σ H s) (h : SqT X.K H a xs) : ∃ its : List Value, Vals xs its ∧ IsTup s.heap a its.toArray ∧ xs.length ≤ sizeLine := by
  rcases h with h | ⟨o, its, n, hk, hc, hs, hz, r⟩
  · obtain ⟨z, its, r, p⟩ := h.ok I.hok
    exact ⟨its, r, p, z⟩
  · refine ⟨its.toList, r, ⟨o, I.kIn a o hk, hc, n, by simpa using hs⟩, ?_⟩
    have e := r.length
    simp only [Array.length_toList] at e
    omega
theorem Inv.list_inj (I : Inv X pins σ H s) (h : SqL X.K H a xs) (h' : SqL X.K H a ys) : xs = ys := by
  obtain ⟨its, r, ⟨o, n, e, _, _, d⟩, _⟩ := I.list h
  obtain ⟨its', r', ⟨o', n', e', _, _, d'⟩, _⟩ := I.list h'
  rw [e] at e'; cases e'
  rw [d] at d'
  injection d' with d1 _
  have : its = its' := by simpa using congrArg Array.toList d1
  subst this
  exact r.inj r'
theorem Inv.tuple_inj (I : Inv X pins σ H s) (h : SqT X.K H a xs) (h' : SqT X.K H a ys) : xs = ys := by
  obtain ⟨its, r, ⟨o, e, _, n, d⟩, _⟩ := I.tuple h
  obtain ⟨its', r', ⟨o', e', _, n', d'⟩, _⟩ := I.tuple h'
  rw [e] at e'; cases e'
  rw [d] at d'
  injection d' with d1 _
  have : its = its' := by simpa using congrArg Array.toList d1
  subst this
  exact r.inj r'
end
section
variable {X : Cx} {pins : List (Addr × Obj)} {σ : St} {H : Hp} {s : Shared} {E : Value → Shared → Prop}
end
section
variable {X : Cx} {st : Stmt} {rest : List Stmt} {t u : TS} {e : Expr} {te : TE} {pos : Pos}
noncomputable def tNext : TS := fun D σ H => D.nx σ H
noncomputable def tSeq (t u : TS) : TS := fun D σ H => t { D with nx := u D } σ H
theorem pss_nil : PSs X [] tNext := fun _ _ σ H _ I h => wpAny_execs_nil ⟨σ, H, I, h⟩
theorem pss_cons (h1 : PS X st t) (h2 : PSs X rest u) : PSs X (st :: rest) (tSeq t u) := by
  intro pins s σ H D I h
  refine wpAny_execs_cons (thn (h1 pins s σ H { D with nx := u D } I h) fun f s1 q => ?_)
  cases f with
  | next =>
    obtain ⟨σ', H', I', q⟩ := q
    exact h2 pins s1 σ' H' D I' q
  | ret v => exact q
  | brk => exact q
  | cont => exact q
theorem pss_one (h1 : PS X st t) : PSs X [st] t := by
  intro pins s σ H D I h
  refine wpAny_execs_cons (thn (h1 pins s σ H D I h) fun f s1 q => ?_)
  cases f with
  | next => exact wpAny_execs_nil q
  | ret v => exact q
  | brk => exact q
  | cont => exact q
theorem Inv.quiet {pins : List (Addr × Obj)} {σ : St} {H : Hp} {s : Shared} (I : Inv X pins σ H s) : interactive X.env = false := by simp [interactive, I.ok.kind]
noncomputable def tDrop (te : TE) : TS := fun D σ H => te σ H fun _ H1 => D.nx σ H1
theorem ps_expr (he : PE X e te) (hs : swapsWith e none pos.line X.env = pure false := by rfl) : PS X (.Expr e pos) (tDrop te) := by
  intro pins s σ H D I h
  exact wpAny_Expr_any (thn (he pins s σ H _ I h) fun v s1 ⟨x, H1, I1, r1, q1⟩ => ⟨σ, H1, I1, q1⟩) I.quiet hs
noncomputable def tRet (te : TE) : TS := fun D σ H => te σ H D.rt
theorem ps_ret (he : PE X e te) : PS X (.Return (some e) pos) (tRet te) := by
  intro pins s σ H D I h
  exact wpAny_Return_some (thn (he pins s σ H _ I h) fun v s1 ⟨x, H1, I1, r1, q1⟩ => ⟨x, σ, H1, I1, r1, q1⟩)
noncomputable def tIfS (c : TT) (t u : TS) : TS := fun D σ H => c σ H fun b H1 => if b = true then t D σ H1 else u D σ H1
theorem ps_if {c : Expr} {a b : List Stmt} {tc : TT} (hc : PT X c tc) (ha : PSs X a t) (hb : PSs X b u) : PS X (.If c a b pos) (tIfS tc t u) := by
  intro pins s σ H D I h
  refine wpAny_If (thn (hc pins s σ H _ I h) fun d s1 ⟨H1, I1, q1⟩ => ?_)
  cases d with
  | true => exact ha pins s1 σ H1 D I1 q1
  | false => exact hb pins s1 σ H1 D I1 q1
end
noncomputable abbrev TG := V → St → Hp → (St → Hp → Prop) → Prop
noncomputable abbrev TGs := List V → St → Hp → (St → Hp → Prop) → Prop
noncomputable def PG (X : Cx) (target : Expr) (t : TG) : Prop :=
  ∀ (pins : List (Addr × Obj)) (s : Shared) (σ : St) (H : Hp) (v : V) (u : Value) (Q : St → Hp → Prop), Inv X pins σ H s → RelV v u → t v σ H Q →
    wpAny (model X.prog X.w) X.A (assign target X.env u) (fun _ s' => ∃ σ' H', Inv X pins σ' H' s' ∧ Q σ' H') X.xe s
noncomputable def PGs (X : Cx) (ts : List Expr) (t : TGs) : Prop :=
  ∀ (pins : List (Addr × Obj)) (s : Shared) (σ : St) (H : Hp) (vs : List V) (us : List Value) (Q : St → Hp → Prop), Inv X pins σ H s → Vals vs us → t vs σ H Q →
    wpAny (model X.prog X.w) X.A (assignInOrder ((assignEach ts X.env).map (·.2)) us) (fun _ s' => ∃ σ' H', Inv X pins σ' H' s' ∧ Q σ' H') X.xe s
section
variable {X : Cx} {pos : Pos}
noncomputable def gName (i : Nat) : TG := fun v σ H Q => Q (σ.set i (some v)) H
theorem pg_name {i : Nat} {x : Str} (hN : X.N.Nodup) (hi : X.N[i]? = some x) (hx : Loc X.env.scope x) (hf : X.fn x = true ∨ X.env.scope.names.lookup x = some .local := by first | exact .inl rfl | exact .inr rfl | assumption) : PG X (.Name x pos) (gName i) := by
  intro pins s σ H v u Q I r h
  exact wpAny_assign_Name (store_ok I hN hi hx r (fun s' I' => ⟨_, H, I', h⟩) hf)
noncomputable def gNil : TGs := fun vs σ H Q => vs = [] ∧ Q σ H
noncomputable def gCons (t : TG) (u : TGs) : TGs := fun vs σ H Q => ∃ v r, vs = v :: r ∧ t v σ H fun σ' H' => u r σ' H' Q
theorem pgs_nil : PGs X [] gNil := by
  intro pins s σ H vs us Q I r h
  obtain ⟨e, h⟩ := h
  subst e
  cases r
  exact assignInOrder_nil ⟨σ, H, I, h⟩
theorem pgs_cons {e : Expr} {es : List Expr} {t : TG} {u : TGs} (h1 : PG X e t) (h2 : PGs X es u)
    (hs : (assignEach (e :: es) X.env).map (·.2) = assign e X.env :: (assignEach es X.env).map (·.2) := by rfl) : PGs X (e :: es) (gCons t u) := by
  intro pins s σ H vs us Q I r h
  obtain ⟨v, vr, e1, h⟩ := h
  subst e1
  cases r with
  | cons r rr =>
    rw [hs]
    refine assignInOrder_cons (thn (h1 pins s σ H _ _ _ I r h) fun _ s1 ⟨σ1, H1, I1, q1⟩ => ?_)
    exact h2 pins s1 σ1 H1 _ _ Q I1 rr q1
noncomputable def gTup (K : PySem.W.Frag) (n : Nat) (t : TGs) : TG := fun v σ H Q => ∃ a xs, v = .ref a ∧ SqT K H a xs ∧ xs.length = n ∧ t xs σ H Q
theorem pg_tup {es : List Expr} {k : Nat} {t : TGs} {n : Nat} (hc : X.calm = true) (h : PGs X es t)
    (hn : (assignEach es X.env).length = n := by rfl) (hst : (assignEach es X.env).findIdx? (·.1) = none := by rfl) : PG X (.Tuple es k pos) (gTup X.K n t) := by
  intro pins s σ H v u Q I r hw
  obtain ⟨a, xs, e1, hq, hl, hw⟩ := hw
  subst e1
  cases r
  obtain ⟨its, rv, ht, hz⟩ := I.tuple hq
  refine assign_Tuple_tuple (I.ok.hd hc) ht (by simp [hn, ← hl, rv.length]) hst fun h' hx => ?_
  have I1 : Inv X pins σ H { s with heap := h' } := I.kept (t' := s.toks) fun b o e => hx b o (Nat.ne_of_lt (Heap.lt_size e)) e
  exact h pins _ σ H xs _ Q I1 (by simpa using rv) hw
noncomputable def tAsg (te : TE) (g : TG) : TS := fun D σ H => te σ H fun x H1 => g x σ H1 D.nx
theorem ps_set {i : Nat} {x : Str} {e : Expr} {te : TE} {pos' : Pos} (hN : X.N.Nodup) (hi : X.N[i]? = some x) (hx : Loc X.env.scope x) (he : PE X e te) (hs : swapsWith e (some (.Name x pos')) pos.line X.env = pure false := by rfl) (hf : X.fn x = true ∨ X.env.scope.names.lookup x = some .local := by first | exact .inl rfl | exact .inr rfl | assumption) :
    PS X (.Assign [.Name x pos'] e pos) (tAsg te (gName i)) := by
  intro pins s σ H D I h
  refine wpAny_Assign_Name (thn (he pins s σ H _ I h) fun v s1 ⟨y, H1, I1, r1, q1⟩ => ?_) hs
  exact store_ok I1 hN hi hx r1 (fun s2 I2 => ⟨_, H1, I2, q1⟩) hf
end
section
variable {X : Cx} {pos : Pos}
noncomputable def tWhile (c : TT) (tb : TS) : TS := fun D σ H => ∃ W : Nat → St → Hp → Prop, (∃ m, W m σ H) ∧ ∀ m σ H, W m σ H →
  c σ H fun b H1 => if b = true then ∃ N : St → Hp → Prop, (∀ σ' H', N σ' H' → ∃ m', m' < m ∧ W m' σ' H') ∧ tb { D with nx := N, ct := N, bk := D.nx } σ H1 else D.nx σ H1
theorem ps_while {c : Expr} {body : List Stmt} {tc : TT} {tb : TS} (hp : PassesOwn (model X.prog X.w) X.A X.env X.xe) (hc : PT X c tc) (hb : PSs X body tb) : PS X (.While c body [] pos) (tWhile tc tb) := by
  intro pins s σ H D I h
  obtain ⟨W, ⟨m0, w0⟩, turn⟩ := h
  refine wpAny_While (codeAny_whileLoop (fun n s' => ∃ σ' H', Inv X pins σ' H' s' ∧ W n σ' H') ?_ m0 ⟨σ, H, I, w0⟩)
  rintro n s1 ⟨σ1, H1, I1, w1⟩
  refine wpAny_passesOwn hp (thn (hc pins s1 σ1 H1 _ I1 (turn n σ1 H1 w1)) fun b s2 ⟨H2, I2, q2⟩ => ?_)
  cases b with
  | true =>
    obtain ⟨N, hN, q2⟩ := q2
    rw [if_pos rfl]
    refine wpAny_passesOwn hp (thn (hb pins s2 σ1 H2 _ I2 q2) fun f s3 q3 => ?_)
    cases f with
    | next =>
      obtain ⟨σ3, H3, I3, n3⟩ := q3
      obtain ⟨m', hm, w3⟩ := hN σ3 H3 n3
      exact ⟨m', hm, σ3, H3, I3, w3⟩
    | cont =>
      obtain ⟨σ3, H3, I3, n3⟩ := q3
      obtain ⟨m', hm, w3⟩ := hN σ3 H3 n3
      exact ⟨m', hm, σ3, H3, I3, w3⟩
    | brk => exact q3
    | ret v => exact q3
  | false =>
    rw [if_neg Bool.false_ne_true]
    exact wpAny_execs_nil ⟨σ1, H2, I2, q2⟩
end
structure It where
  go : Nat → Hp → Prop
  yld : Nat → Hp → V → Hp → Prop
  stop : Nat → Hp → Prop
noncomputable def FpOk (X : Cx) (pins : List (Addr × Obj)) (H : Hp) (b : Addr) : Prop :=
  H b = none ∧ b ≠ X.env.locals ∧ b ∉ X.fs ∧ (b ∈ X.ex ∨ X.s₀.heap.objs.size ≤ b) ∧ (∀ x c, X.env.cells.lookup x = some c → c ≠ b) ∧ ∀ p ∈ X.pn ++ pins, p.1 ≠ b
theorem Inv.fpOk {X : Cx} {pins : List (Addr × Obj)} {σ : St} {H H' : Hp} {s : Shared} {b : Addr} (I : Inv X pins σ H s) (hb : s.heap.objs.size ≤ b) (hn : H' b = none) : FpOk X pins H' b := by
  refine ⟨hn, Nat.ne_of_gt (Nat.lt_of_lt_of_le I.lt hb), I.nofs hb, .inr (Nat.le_trans I.sz hb), fun x c e z => ?_, fun p hp z => ?_⟩
  · obtain ⟨v, q⟩ := I.cell x c e
    exact absurd (Nat.lt_of_lt_of_le q.lt (by rw [z]; exact hb)) (Nat.lt_irrefl _)
  · exact absurd (Nat.lt_of_lt_of_le (Heap.lt_size (I.pin p hp).1) (by rw [z]; exact hb)) (Nat.lt_irrefl _)
structure Turn (P : Program) (w : World) (K : PySem.W.Frag) (tg : Expr) (J : It) (fp : List Addr) (it : Addr) (tn : Nat → Heap → Prop) : Prop where
  mem : it ∈ fp
  obj : ∀ i h, tn i h → ∀ b ∈ fp, ∃ o, h.get? b = some o ∧ ∀ v, o.data ≠ .cell v
  keep : ∀ i h h', tn i h → (∀ b ∈ fp, ∀ o, h.get? b = some o → h'.get? b = some o) → tn i h'
  item : ∀ (X : Cx), X.prog = P → X.w = w → X.K = K → X.calm = true → ∀ (i : Nat) (pins : List (Addr × Obj)) (s : Shared) (σ : St) (H : Hp) (E : Value → Shared → Prop), Inv X pins σ H s → (∀ b ∈ fp, FpOk X pins H b) → tn i s.heap → J.go i H →
    wpAny (model P w) X.A (pyNext (.ref it)) (fun r s1 => ∃ u, r = some u ∧
      wpAny (model P w) X.A (letOwnedTupleGo tg (.ref it) u) (fun _ s2 => ∃ x H', Inv X pins σ H' s2 ∧ RelV x u ∧ J.yld i H x H' ∧ tn (i + 1) s2.heap ∧ ∀ b ∈ fp, H' b = none) E s1) E s
  done : ∀ (X : Cx), X.prog = P → X.w = w → X.K = K → X.calm = true → ∀ (i : Nat) (pins : List (Addr × Obj)) (s : Shared) (σ : St) (H : Hp) (E : Value → Shared → Prop), Inv X pins σ H s → (∀ b ∈ fp, FpOk X pins H b) → tn i s.heap → J.stop i H →
    wpAny (model P w) X.A (pyNext (.ref it)) (fun r s1 => r = none ∧ Inv X pins σ H s1) E s
  self : ∀ (A : Around) (i : Nat) (s : Shared) (Q : Value → Shared → Prop) (E : Value → Shared → Prop), tn i s.heap → Q (.ref it) s → wpAny (model P w) A (pyIter (.ref it)) Q E s
noncomputable abbrev TI := St → Hp → (It → Hp → Prop) → Prop
noncomputable def PIE (X : Cx) (pins : List (Addr × Obj)) (σ : St) (tg : Expr) (R : It → Hp → Prop) (itv : Value) (s2 : Shared) : Prop :=
  ∃ (it : Addr) (fp : List Addr) (tn : Nat → Heap → Prop) (J : It) (H' : Hp), itv = .ref it ∧ Inv X pins σ H' s2 ∧ Turn X.prog X.w X.K tg J fp it tn ∧ tn 0 s2.heap ∧ (∀ b ∈ fp, FpOk X pins H' b) ∧ R J H'
noncomputable def PI (X : Cx) (tg iter : Expr) (wi : TI) : Prop :=
  ∀ (pins : List (Addr × Obj)) (s : Shared) (σ : St) (H : Hp) (R : It → Hp → Prop), Inv X pins σ H s → wi σ H R →
    wpAny (model X.prog X.w) X.A (eval iter X.env) (fun v s1 => wpAny (model X.prog X.w) X.A (pyIter v) (PIE X pins σ tg R) X.xe s1) X.xe s
theorem go_of {M : Model} {A : Around} {E : Value → Shared → Prop} {s : Shared} {tg : Expr} {it : Addr} {u : Value} {o : Obj} {n : String} {vs : Array Value} {Q : Unit → Shared → Prop} (ho : s.heap.get? it = some o) (hc : o.cls = .type n) (hd : o.data = .fields vs)
    (hn : ["enumerate", "zip", "dict_itemiterator", "dict_reverseitemiterator", "odict_iterator", "itertools.zip_longest", "itertools.pairwise"].contains n = false) (hQ : Q () s) : wpAny M A (letOwnedTupleGo tg (.ref it) u) Q E s := by
  unfold letOwnedTupleGo
  cases tg <;> first
    | exact wpAny_pure hQ
    | (cases u <;> first
        | exact wpAny_pure hQ
        | (refine wpAny_bind (wpAny_load ho ?_)
           rw [hc, hd]
           show wpAny M A (if (["enumerate", "zip", "dict_itemiterator", "dict_reverseitemiterator", "odict_iterator", "itertools.zip_longest", "itertools.pairwise"].contains n && vs[0]? == some (rawInt _)) = true then _ else _) Q E s
           rw [if_neg (by intro h; rw [hn, Bool.false_and] at h; cases h)]
           exact wpAny_pure hQ))
noncomputable def Itl (K : PySem.W.Frag) (a : Addr) : It :=
  ⟨fun i H => ∃ xs x, SqL K H a xs ∧ xs[i]? = some x, fun i H x H' => H' = H ∧ ∀ xs, SqL K H a xs → xs[i]? = some x, fun i H => ∃ xs, SqL K H a xs ∧ xs.length ≤ i⟩
noncomputable def Itt (K : PySem.W.Frag) (a : Addr) : It :=
  ⟨fun i H => ∃ xs x, SqT K H a xs ∧ xs[i]? = some x, fun i H x H' => H' = H ∧ ∀ xs, SqT K H a xs → xs[i]? = some x, fun i H => ∃ xs, SqT K H a xs ∧ xs.length ≤ i⟩
noncomputable def Itr (lo : Int) (n : Nat) : It := ⟨fun i _ => i < n, fun i H x H' => H' = H ∧ x = .int (lo + i), fun i _ => n ≤ i⟩
theorem turn_list {P : Program} {w : World} {K : PySem.W.Frag} {tg : Expr} (a it : Addr) : Turn P w K tg (Itl K a) [it] it (fun i h => h.IsListIter it a i) where
  mem := by simp
  obj := fun i h st b hb => by
    have e : b = it := by simpa using hb
    subst e
    obtain ⟨o, e, c, d⟩ := st
    exact ⟨o, e, fun v z => by rw [d] at z; cases z⟩
  keep := fun i h h' st k => st.at fun o e => k it (by simp) o e
  item := by
    intro X hP hw hK hc i pins s σ H E I hf st hg
    subst hP hw hK
    obtain ⟨xs, x, hq, hx⟩ := hg
    obtain ⟨its, rv, p, hz⟩ := I.list hq
    obtain ⟨u, hu, ru⟩ := rv.get hx
    obtain ⟨f0, f1, f2, f3, f4, f5⟩ := hf it (by simp)
    refine wpAny_pyNext_list_item st p.isList (x := u) (by simpa using hu) fun h' st' sb => ?_
    have I1 : Inv X pins σ H { s with heap := h' } := I.turned (t' := s.toks) (fun b o hb e => (sb.2 b hb).trans e) f0 f1 f3 f4 f5
    obtain ⟨o, e, c, d⟩ := id st'
    exact ⟨u, rfl, go_of (s := { s with heap := h' }) e c d (by decide) ⟨x, H, I1, ru, ⟨rfl, fun ys hy => by rw [I.list_inj hy hq]; exact hx⟩, st', fun b hb => (hf b hb).1⟩⟩
  done := by
    intro X hP hw hK hc i pins s σ H E I hf st hg
    subst hP hw hK
    obtain ⟨xs, hq, hx⟩ := hg
    obtain ⟨its, rv, p, hz⟩ := I.list hq
    obtain ⟨f0, f1, f2, f3, f4, f5⟩ := hf it (by simp)
    have hl := rv.length
    exact wpAny_pyNext_list_end (I.ok.hd hc) st p.isList (by simp; omega) fun h' eb => ⟨rfl, I.turned (t' := s.toks) (fun b o hb e => eb b o hb e) f0 f1 f3 f4 f5⟩
  self := fun _ _ _ _ _ st h => wpAny_pyIter_listiter st h
theorem turn_tuple {P : Program} {w : World} {K : PySem.W.Frag} {tg : Expr} (a it : Addr) : Turn P w K tg (Itt K a) [it] it (fun i h => h.IsTupleIter it a i) where
  mem := by simp
  obj := fun i h st b hb => by
    have e : b = it := by simpa using hb
    subst e
    obtain ⟨o, e, c, d⟩ := st
    exact ⟨o, e, fun v z => by rw [d] at z; cases z⟩
  keep := fun i h h' st k => st.at fun o e => k it (by simp) o e
  item := by
    intro X hP hw hK hc i pins s σ H E I hf st hg
    subst hP hw hK
    obtain ⟨xs, x, hq, hx⟩ := hg
    obtain ⟨its, rv, p, hz⟩ := I.tuple hq
    obtain ⟨u, hu, ru⟩ := rv.get hx
    obtain ⟨f0, f1, f2, f3, f4, f5⟩ := hf it (by simp)
    refine wpAny_pyNext_tuple_item st (show s.heap.IsTuple a its.toArray from p) (x := u) (by simpa using hu) fun h' st' sb => ?_
    have I1 : Inv X pins σ H { s with heap := h' } := I.turned (t' := s.toks) (fun b o hb e => (sb.2 b hb).trans e) f0 f1 f3 f4 f5
    obtain ⟨o, e, c, d⟩ := id st'
    exact ⟨u, rfl, go_of (s := { s with heap := h' }) e c d (by decide) ⟨x, H, I1, ru, ⟨rfl, fun ys hy => by rw [I.tuple_inj hy hq]; exact hx⟩, st', fun b hb => (hf b hb).1⟩⟩
  done := by
    intro X hP hw hK hc i pins s σ H E I hf st hg
    subst hP hw hK
    obtain ⟨xs, hq, hx⟩ := hg
    obtain ⟨its, rv, p, hz⟩ := I.tuple hq
    obtain ⟨f0, f1, f2, f3, f4, f5⟩ := hf it (by simp)
    have hl := rv.length
    exact wpAny_pyNext_tuple_end (I.ok.hd hc) st (show s.heap.IsTuple a its.toArray from p) (by simp; omega) fun h' eb => ⟨rfl, I.turned (t' := s.toks) (fun b o hb e => eb b o hb e) f0 f1 f3 f4 f5⟩
  self := fun _ _ _ _ _ st h => wpAny_pyIter_tupleiter st h
theorem turn_range {P : Program} {w : World} {K : PySem.W.Frag} {tg : Expr} (it : Addr) (lo : Int) (n : Nat) : Turn P w K tg (Itr lo n) [it] it (fun i h => IsRangeIter h it (lo + (i : Nat) * 1) ((n : Int) - (i : Nat)) 1) where
  mem := by simp
  obj := fun i h st b hb => by
    have e : b = it := by simpa using hb
    subst e
    exact ⟨_, st, fun v z => by
      have z' : Data.fields _ = Data.cell v := z
      cases z'⟩
  keep := fun i h h' st k => k it (by simp) _ st
  item := by
    intro X hP hw hK hc i pins s σ H E I hf st hg
    subst hP hw hK
    obtain ⟨f0, f1, f2, f3, f4, f5⟩ := hf it (by simp)
    have W := Walks.range (prog := X.prog) (w := X.w) (I.ok.hd hc) it lo 1 n
    refine W.item i s _ _ hg st fun v h' tk hv st' kk => ?_
    obtain ⟨t, rfl⟩ := hv
    have I1 : Inv X pins σ H { s with heap := h', toks := tk } := I.turned (fun b o hb e => kk b o (by simpa using hb) e) f0 f1 f3 f4 f5
    refine ⟨_, rfl, go_of (s := { s with heap := h', toks := tk }) (n := "range_iterator") st' rfl rfl (by decide) ⟨.int (lo + i), H, I1, ⟨t, ?_⟩, ⟨rfl, rfl⟩, st', fun b hb => (hf b hb).1⟩⟩
    rw [Int.mul_one]
  done := by
    intro X hP hw hK hc i pins s σ H E I hf st hg
    subst hP hw hK
    obtain ⟨f0, f1, f2, f3, f4, f5⟩ := hf it (by simp)
    exact wpAny_pyNext_range_end (I.ok.hd hc) st (by have : n ≤ i := hg; omega) fun h' eb => ⟨rfl, I.turned (t' := s.toks) (fun b o hb e => eb b o hb e) f0 f1 f3 f4 f5⟩
  self := fun _ _ _ _ _ st h => wpAny_pyIter_rangeiter st h
end L2
namespace L2
open PySem PySem.Spec PyProof.Rows
section
variable {X : Cx} {tg : Expr}
theorem range_it {pins : List (Addr × Obj)} {σ : St} {H : Hp} {s : Shared} {R : It → Hp → Prop} {E : Value → Shared → Prop} {lo hi : Int} {t u v : Tok} {tk : Nat} (I : Inv X pins σ H s) (h1 : -(2 ^ 62) ≤ lo) (h2 : lo < 2 ^ 62) (h3 : -(2 ^ 62) ≤ hi) (h4 : hi < 2 ^ 62)
    (q : R (Itr lo (hi - lo).toNat) H) : wpAny (model X.prog X.w) X.A (pyIter (.ref s.heap.objs.size)) (PIE X pins σ tg R) E { s with heap := s.heap.push { cls := .type "range", data := .fields #[.int lo t, .int hi u, .int 1 v] }, toks := tk } := by
  refine wpAny_pyIter_range (IsRange.new ..) (small_one h1 h2 h3 h4) ?_
  have I1 : Inv X pins σ H { s with heap := s.heap.push { cls := .type "range", data := .fields #[.int lo t, .int hi u, .int 1 v] }, toks := tk } := I.kept fun b o e => Heap.get?_push_of_some _ e
  refine ⟨(s.heap.push { cls := .type "range", data := .fields #[.int lo t, .int hi u, .int 1 v] }).objs.size, [(s.heap.push { cls := .type "range", data := .fields #[.int lo t, .int hi u, .int 1 v] }).objs.size], _, _, H, rfl,
    I1.kept (t' := tk) fun b o e => Heap.get?_push_of_some _ e, turn_range _ lo (hi - lo).toNat, ?_, fun b hb => ?_, q⟩
  · have e1 : lo + ((0 : Nat) : Int) * 1 = lo := by simp
    have e2 : (((hi - lo).toNat : Nat) : Int) - ((0 : Nat) : Int) = Builtin.Range.rangeSize lo hi 1 := by rw [rangeSize_one]; split <;> omega
    show IsRangeIter _ _ (lo + ((0 : Nat) : Int) * 1) ((((hi - lo).toNat : Nat) : Int) - ((0 : Nat) : Int)) 1
    rw [e1, e2]
    exact Heap.get?_push_size _ rfl
  · have e : b = (s.heap.push { cls := .type "range", data := .fields #[.int lo t, .int hi u, .int 1 v] }).objs.size := by simpa using hb
    subst e
    exact I1.fpOk (Nat.le_refl _) (I1.hok.fresh (Nat.le_refl _))
noncomputable def iRng1 (ta : TA) : TI := fun σ H R => ta σ H fun vs H1 => ∃ j : Int, vs = [.int j] ∧ -(2 ^ 62) ≤ j ∧ j < 2 ^ 62 ∧ R (Itr 0 j.toNat) H1
theorem pi_range1 {a : Expr} {ta : TA} {p pos : Pos} (hg : Gl X "range") (hm : X.mg "range" = none) (ha : PA X [a] ta) (hs : starEach [a] X.env = [(false, eval a X.env)] := by rfl) : PI X tg (.Call (.Name "range" p) [a] [] pos) (iRng1 ta) := by
  intro pins s σ H R I h
  refine Call_ (ld_blt I hg hm boot_range (PyProof.Rows.callWith_type1 (thn (ha pos pins s σ H _ I h) fun us s1 ⟨vs, H1, I1, r1, q1⟩ => ?_) hs rfl))
  obtain ⟨j, e, q1, q2, q⟩ := q1
  subst e
  cases r1 with
  | cons r rr =>
    cases rr
    obtain ⟨t, rfl⟩ := r
    exact call_range_1 (range_it I1 (by omega) (by omega) q1 q2 (by simpa using q))
noncomputable def tFor (wi : TI) (g : TG) (tb : TS) : TS := fun D σ H => wi σ H fun J H1 => ∃ W : Nat → Nat → St → Hp → Prop, (∃ m, W 0 m σ H1) ∧ ∀ i m σ H, W i m σ H →
  (J.stop i H ∧ D.nx σ H) ∨ (J.go i H ∧ ∃ N : St → Hp → Prop, (∀ σ' H', N σ' H' → ∃ m', m' < m ∧ W (i + 1) m' σ' H') ∧ ∀ x H', J.yld i H x H' → g x σ H' fun σ2 H2 => tb { D with nx := N, ct := N, bk := D.nx } σ2 H2)
noncomputable def pinsAt (fp : List Addr) (h : Heap) : List (Addr × Obj) := fp.filterMap fun b => (h.get? b).map fun o => (b, o)
theorem mem_pinsAt {fp : List Addr} {h : Heap} {b : Addr} {o : Obj} (hb : b ∈ fp) (e : h.get? b = some o) : (b, o) ∈ pinsAt fp h := List.mem_filterMap.mpr ⟨b, hb, by rw [e]; rfl⟩
theorem of_pinsAt {fp : List Addr} {h : Heap} {p : Addr × Obj} (hp : p ∈ pinsAt fp h) : p.1 ∈ fp ∧ h.get? p.1 = some p.2 := by
  obtain ⟨b, hb, e⟩ := List.mem_filterMap.mp hp
  cases q : h.get? b with
  | none => rw [q] at e; cases e
  | some o =>
    rw [q] at e
    have e' : (b, o) = p := Option.some.inj e
    subst e'
    exact ⟨hb, q⟩
theorem Inv.pinned {pins : List (Addr × Obj)} {σ : St} {H : Hp} {s : Shared} {fp : List Addr} (I : Inv X pins σ H s) (hf : ∀ b ∈ fp, FpOk X pins H b) (ho : ∀ b ∈ fp, ∃ o, s.heap.get? b = some o ∧ ∀ v, o.data ≠ .cell v) : Inv X (pins ++ pinsAt fp s.heap) σ H s :=
  I.pins_of fun p hp => (List.mem_append.mp hp).elim (fun z => I.pin p (List.mem_append_right _ z)) fun z => by
    obtain ⟨hb, e⟩ := of_pinsAt z
    obtain ⟨f0, f1, f2, _⟩ := hf p.1 hb
    obtain ⟨o, e', d⟩ := ho p.1 hb
    rw [e] at e'; cases e'
    exact ⟨e, f0, f1, f2, d⟩
theorem Inv.unpinned {pins pl : List (Addr × Obj)} {σ : St} {H : Hp} {s : Shared} (I : Inv X (pins ++ pl) σ H s) : Inv X pins σ H s := I.pins_of fun p hp => I.pin p (List.mem_append_right _ (List.mem_append_left _ hp))
theorem ps_for {iter : Expr} {body : List Stmt} {wi : TI} {g : TG} {tb : TS} {pos : Pos} (hp : PassesOwn (model X.prog X.w) X.A X.env X.xe) (hc : X.calm = true) (hi : PI X tg iter wi) (hg : PG X tg g) (hb : PSs X body tb)
    (hs : ∀ x, foldedSetIterable iter X.env x = pure x := by intro _; rfl) : PS X (.For tg iter body [] pos) (tFor wi g tb) := by
  intro pins s σ H D I h
  refine wpAny_For (thn (hi pins s σ H _ I h) fun v s1 h1 => thn h1 fun itv s2 h2 => ?_) hs
  obtain ⟨it, fp, tn, J, H2, e, I2, T, st2, f2, W, ⟨m0, w0⟩, turn⟩ := h2
  subst e
  have stat : ∀ {H' : Hp}, (∀ b ∈ fp, H' b = none) → ∀ b ∈ fp, FpOk X pins H' b := fun hn b hb => ⟨hn b hb, (f2 b hb).2⟩
  refine codeAny_forLoop_any (fun n s' => ∃ i σ' H', Inv X pins σ' H' s' ∧ tn i s'.heap ∧ (∀ b ∈ fp, H' b = none) ∧ W i n σ' H') ?_ m0 ⟨0, σ, H2, I2, st2, fun b hb => (f2 b hb).1, w0⟩
  rintro n s3 ⟨i, σ3, H3, I3, st3, fr3, w3⟩
  rcases turn i n σ3 H3 w3 with ⟨stop, qn⟩ | ⟨go, N, hN, step⟩
  · refine wpAny_passesOwn hp (thn (T.done X rfl rfl rfl hc i pins s3 σ3 H3 X.xe I3 (stat fr3) st3 stop) fun r s4 ⟨hr, I4⟩ => ?_)
    subst hr
    exact wpAny_execs_nil ⟨σ3, H3, I4, qn⟩
  · refine wpAny_passesOwn hp (thn (T.item X rfl rfl rfl hc i pins s3 σ3 H3 X.xe I3 (stat fr3) st3 go) fun r s4 ⟨u, hr, h4⟩ => ?_)
    subst hr
    refine wpAny_passesOwn hp (thn h4 fun _ s5 ⟨x, H5, I5, r5, y5, st5, fr5⟩ => ?_)
    have I5' := I5.pinned (stat fr5) (T.obj _ _ st5)
    refine wpAny_passesOwn hp (thn (hg _ s5 σ3 H5 x u _ I5' r5 (step x H5 y5)) fun _ s6 ⟨σ6, H6, I6, q6⟩ => ?_)
    refine wpAny_passesOwn hp (thn (hb _ s6 σ6 H6 _ I6 q6) fun f s7 q7 => ?_)
    have again : ∀ {σ7 : St} {H7 : Hp}, Inv X (pins ++ pinsAt fp s5.heap) σ7 H7 s7 → N σ7 H7 → ∃ m, m < n ∧ ∃ i σ' H', Inv X pins σ' H' s7 ∧ tn i s7.heap ∧ (∀ b ∈ fp, H' b = none) ∧ W i m σ' H' := fun {σ7 H7} I7 n7 => by
      obtain ⟨m', hm, w7⟩ := hN σ7 H7 n7
      refine ⟨m', hm, i + 1, σ7, H7, I7.unpinned, T.keep _ _ _ st5 fun b hb o e => (I7.pin (b, o) (List.mem_append_right _ (List.mem_append_right _ (mem_pinsAt hb e)))).1, fun b hb => ?_, w7⟩
      obtain ⟨o, e, d⟩ := T.obj _ _ st5 b hb
      exact (I7.pin (b, o) (List.mem_append_right _ (List.mem_append_right _ (mem_pinsAt hb e)))).2.1
    cases f with
    | next => obtain ⟨σ7, H7, I7, n7⟩ := q7; exact again I7 n7
    | cont => obtain ⟨σ7, H7, I7, n7⟩ := q7; exact again I7 n7
    | brk => obtain ⟨σ7, H7, I7, q7⟩ := q7; exact ⟨σ7, H7, I7.unpinned, q7⟩
    | ret v => obtain ⟨x7, σ7, H7, I7, r7, q7⟩ := q7; exact ⟨x7, σ7, H7, I7.unpinned, r7, q7⟩
end
end L2
namespace L2
open PySem PySem.Spec PyProof.Rows
noncomputable abbrev R2 := V → V → Hp → VK → Prop
noncomputable def OpR (X : Cx) (f : Value → Value → Sem Value) (r : R2) : Prop :=
  ∀ (pins : List (Addr × Obj)) (s : Shared) (σ : St) (H : Hp) (x y : V) (v u : Value) (Q : VK), Inv X pins σ H s → RelV x v → RelV y u → r x y H Q →
    wpAny (model X.prog X.w) X.A (f v u) (EP X pins σ Q) X.xe s
noncomputable def UnR (X : Cx) (f : Value → Sem Value) (r : V → Hp → VK → Prop) : Prop :=
  ∀ (pins : List (Addr × Obj)) (s : Shared) (σ : St) (H : Hp) (x : V) (v : Value) (Q : VK), Inv X pins σ H s → RelV x v → r x H Q →
    wpAny (model X.prog X.w) X.A (f v) (EP X pins σ Q) X.xe s
noncomputable def CallR (X : Cx) (f : Value) (r : List V → Hp → VK → Prop) : Prop :=
  ∀ (pins : List (Addr × Obj)) (s : Shared) (σ : St) (H : Hp) (xs : List V) (us : List Value) (Q : VK), Inv X pins σ H s → Vals xs us → r xs H Q →
    wpAny (model X.prog X.w) X.A (call f us) (EP X pins σ Q) X.xe s
noncomputable def TruR (X : Cx) (r : V → Hp → (Bool → Hp → Prop) → Prop) : Prop :=
  ∀ (pins : List (Addr × Obj)) (s : Shared) (σ : St) (H : Hp) (x : V) (v : Value) (Q : Bool → Hp → Prop), Inv X pins σ H s → RelV x v → r x H Q →
    wpAny (model X.prog X.w) X.A (truthy v) (TP X pins σ Q) X.xe s
noncomputable def tOp (r : R2) (ta tb : TE) : TE := fun σ H Q => ta σ H fun x H1 => tb σ H1 fun y H2 => r x y H2 Q
noncomputable def tUn (r : V → Hp → VK → Prop) (ta : TE) : TE := fun σ H Q => ta σ H fun x H1 => r x H1 Q
noncomputable def rI (C : Int → Int → Prop) (g : Int → Int → V) : R2 := fun x y H Q => ∃ i j, x = .int i ∧ y = .int j ∧ C i j ∧ Q (g i j) H
noncomputable def rI0 (g : Int → Int → V) : R2 := fun x y H Q => ∃ i j, x = .int i ∧ y = .int j ∧ Q (g i j) H
noncomputable def rU (g : Int → V) : V → Hp → VK → Prop := fun x H Q => ∃ i, x = .int i ∧ Q (g i) H
section
variable {X : Cx} {a b c : Expr} {ta tb tc : TE} {pos : Pos}
theorem binT (ha : PE X a ta) (hb : PE X b tb) {pins : List (Addr × Obj)} {s : Shared} {σ : St} {H : Hp} {R : V → V → Hp → Prop} (I : Inv X pins σ H s)
    (h : ta σ H fun x H1 => tb σ H1 fun y H2 => R x y H2) {Q : Value → Shared → Prop} {f : Value → Value → Sem Value}
    (hf : ∀ v u s2 x y H2, Inv X pins σ H2 s2 → RelV x v → RelV y u → R x y H2 → wpAny (model X.prog X.w) X.A (f v u) Q X.xe s2) :
    wpAny (model X.prog X.w) X.A (eval a X.env) (fun v s₁ => wpAny (model X.prog X.w) X.A (eval b X.env) (fun u s₂ => wpAny (model X.prog X.w) X.A (f v u) Q X.xe s₂) X.xe s₁) X.xe s := by
  refine thn (ha pins s σ H _ I h) fun v s1 ⟨x, H1, I1, r1, q1⟩ => ?_
  refine thn (hb pins s1 σ H1 _ I1 q1) fun u s2 ⟨y, H2, I2, r2, q2⟩ => ?_
  exact hf v u s2 x y H2 I2 r1 r2 q2
theorem pe_op {op : Operator} {r : R2} (ho : OpR X (binaryOp op) r) (ha : PE X a ta) (hb : PE X b tb) : PE X (.BinOp a op b pos) (tOp r ta tb) := by
  intro pins s σ H Q I h
  exact wpAny_BinOp (binT ha hb I h fun v u s2 x y H2 I2 rx ry q => ho pins s2 σ H2 x y v u Q I2 rx ry q)
theorem pe_un {op : UnaryOp} {r : V → Hp → VK → Prop} (ho : UnR X (unaryOp op) r) (ha : PE X a ta) : PE X (.UnaryOp op a pos) (tUn r ta) := by
  intro pins s σ H Q I h
  exact UnaryOp_ (thn (ha pins s σ H _ I h) fun v s1 ⟨x, H1, I1, r1, q1⟩ => ho pins s1 σ H1 x v Q I1 r1 q1)
theorem opI {f : Value → Value → Sem Value} {C : Int → Int → Prop} {g : Int → Int → Int}
    (rule : ∀ (i j : Int) (t u : Tok) (s : Shared) (Q : Value → Shared → Prop) (E : Value → Shared → Prop), C i j → Q (.int (g i j) s.toks) { s with toks := s.toks + 1 } → wpAny (model X.prog X.w) X.A (f (.int i t) (.int j u)) Q E s) :
    OpR X f (rI C fun i j => .int (g i j)) := by
  intro pins s σ H x y v u Q I rx ry h
  obtain ⟨i, j, rfl, rfl, hc, q⟩ := h
  obtain ⟨t, rfl⟩ := rx
  obtain ⟨t', rfl⟩ := ry
  exact rule i j t t' s _ _ hc ⟨.int (g i j), H, I.tok _, ⟨_, rfl⟩, q⟩
theorem opI0 {f : Value → Value → Sem Value} {g : Int → Int → Int}
    (rule : ∀ (i j : Int) (t u : Tok) (s : Shared) (Q : Value → Shared → Prop) (E : Value → Shared → Prop), Q (.int (g i j) s.toks) { s with toks := s.toks + 1 } → wpAny (model X.prog X.w) X.A (f (.int i t) (.int j u)) Q E s) :
    OpR X f (rI0 fun i j => .int (g i j)) := by
  intro pins s σ H x y v u Q I rx ry h
  obtain ⟨i, j, rfl, rfl, q⟩ := h
  obtain ⟨t, rfl⟩ := rx
  obtain ⟨t', rfl⟩ := ry
  exact rule i j t t' s _ _ ⟨.int (g i j), H, I.tok _, ⟨_, rfl⟩, q⟩
theorem opB0 {f : Value → Value → Sem Value} {g : Int → Int → Bool}
    (rule : ∀ (i j : Int) (t u : Tok) (s : Shared) (Q : Value → Shared → Prop) (E : Value → Shared → Prop), Q (.bool (g i j)) s → wpAny (model X.prog X.w) X.A (f (.int i t) (.int j u)) Q E s) :
    OpR X f (rI0 fun i j => .bl (g i j)) := by
  intro pins s σ H x y v u Q I rx ry h
  obtain ⟨i, j, rfl, rfl, q⟩ := h
  obtain ⟨t, rfl⟩ := rx
  obtain ⟨t', rfl⟩ := ry
  exact rule i j t t' s _ _ ⟨.bl (g i j), H, I, rfl, q⟩
noncomputable def CDiv (i j : Int) : Prop := 0 < j ∧ j < 1073741824
noncomputable def CPow (i j : Int) : Prop := 0 ≤ j ∧ j ≤ 1000000 ∧ i.natAbs < 2 ^ 64
noncomputable def CMul (i j : Int) : Prop := (-(2 ^ 64) < i ∧ i < 2 ^ 64) ∨ (-(2 ^ 64) < j ∧ j < 2 ^ 64)
theorem CMul.ok {i j : Int} (h : CMul i j) : IntMulOk i j := by
  rcases h with ⟨h1, h2⟩ | ⟨h1, h2⟩
  · exact .of_left (intBits_le_64 h1 h2)
  · exact .of_right (intBits_le_64 h1 h2)
theorem op_add : OpR X (binaryOp .Add) (rI0 fun i j => .int (i + j)) := opI0 fun _ _ _ _ _ _ _ q => add_int q
theorem op_sub : OpR X (binaryOp .Sub) (rI0 fun i j => .int (i - j)) := opI0 fun _ _ _ _ _ _ _ q => sub_int q
theorem op_mul : OpR X (binaryOp .Mult) (rI CMul fun i j => .int (i * j)) := opI fun _ _ _ _ _ _ _ hc q => mul_int q hc.ok
theorem op_fdiv : OpR X (binaryOp .FloorDiv) (rI CDiv fun i j => .int (i / j)) := opI fun i j _ _ _ _ _ hc q => by
  have h1 : (0 : Int) < j := hc.1
  have h2 : j < 1073741824 := hc.2
  exact floordiv_int (by omega) (by rw [Int.fdiv_eq_ediv_of_nonneg i (by omega)]; exact q) (.inl (PyProof.noPylong_small (by omega)))
theorem op_mod : OpR X (binaryOp .Mod) (rI (fun _ j => 0 < j) fun i j => .int (i % j)) := opI fun i j _ _ _ _ _ hc q => by
  have h1 : (0 : Int) < j := hc
  exact mod_int' (by omega) (by rw [Int.fmod_eq_emod_of_nonneg i (by omega)]; exact q)
theorem op_pow : OpR X (binaryOp .Pow) (rI CPow fun i j => .int (i ^ j.toNat)) := opI fun _ _ _ _ _ _ _ hc q => pow_int_small hc.1 hc.2.1 hc.2.2 q
theorem unI {f : Value → Sem Value} {g : Int → Int}
    (rule : ∀ (i : Int) (t : Tok) (s : Shared) (Q : Value → Shared → Prop) (E : Value → Shared → Prop), Q (.int (g i) s.toks) { s with toks := s.toks + 1 } → wpAny (model X.prog X.w) X.A (f (.int i t)) Q E s) :
    UnR X f (rU fun i => .int (g i)) := by
  intro pins s σ H x v Q I rx h
  obtain ⟨i, rfl, q⟩ := h
  obtain ⟨t, rfl⟩ := rx
  exact rule i t s _ _ ⟨.int (g i), H, I.tok _, ⟨_, rfl⟩, q⟩
theorem un_neg : UnR X (unaryOp .USub) (rU fun i => .int (-i)) := unI fun _ _ _ _ _ q => neg_int q
end
section
variable {X : Cx} {a b c : Expr} {ta tb tc : TE} {pos : Pos}
theorem fin_bl {pins : List (Addr × Obj)} {σ : St} {H : Hp} {s : Shared} {Q : VK} {k k' : Bool} (I : Inv X pins σ H s) (q : Q (.bl k) H) (e : k = k') : EP X pins σ Q (.bool k') s := by
  subst e
  exact ⟨.bl k, H, I, rfl, q⟩
theorem op_lt : OpR X (compareOp .Lt) (rI0 fun i j => .bl (decide (i < j))) := opB0 fun _ _ _ _ _ _ _ q => lt_int q
theorem op_gt : OpR X (compareOp .Gt) (rI0 fun i j => .bl (decide (j < i))) := opB0 fun _ _ _ _ _ _ _ q => gt_int q
theorem op_ge : OpR X (compareOp .GtE) (rI0 fun i j => .bl (decide (j ≤ i))) := opB0 fun _ _ _ _ _ _ _ q => ge_int q
theorem op_in_str : OpR X (compareOp .In) (fun x y H Q => ∃ i j, x = .str i ∧ y = .str j ∧ Q (.bl (!(Builtin.Str.occurrences j i 0 j.length 1).isEmpty)) H) := by
  intro pins s σ H x y v u Q I rx ry h
  obtain ⟨i, j, rfl, rfl, q⟩ := h
  obtain ⟨t, rfl⟩ := rx
  obtain ⟨t', rfl⟩ := ry
  exact in_str (fin_bl I q rfl)
theorem nomark (b : Expr) {op : CmpOp} (h : op ≠ .In := by decide) (h2 : op ≠ .NotIn := by decide) : behindInMarks op b = false := by
  have e1 : (op == CmpOp.In) = false := by cases op <;> first | rfl | exact absurd rfl h
  have e2 : (op == CmpOp.NotIn) = false := by cases op <;> first | rfl | exact absurd rfl h2
  cases b <;> simp [behindInMarks, e1, e2]
theorem pe_cmpR {op : CmpOp} {r : R2} (ho : OpR X (compareOp op) r) (ha : PE X a ta) (hb : PE X b tb) (hm : behindInMarks op b = false) : PE X (.Compare a [op] [b] pos) (tOp r ta tb) := by
  intro pins s σ H Q I h
  exact wpAny_Compare1 (binT ha hb I h fun v u s2 x y H2 I2 rx ry q => ho pins s2 σ H2 x y v u Q I2 rx ry q) hm
noncomputable def tTest (t : TE) : TT := fun σ H Q => t σ H fun x H' => ∃ k, x = .bl k ∧ Q k H'
theorem pt_cmpR {op : CmpOp} {r : R2} (ho : OpR X (compareOp op) r) (ha : PE X a ta) (hb : PE X b tb) (hm : behindInMarks op b = false) : PT X (.Compare a [op] [b] pos) (tTest (tOp r ta tb)) := by
  intro pins s σ H Q I h
  refine wpAny_isTrue_Compare1 (thn (ha pins s σ H _ I h) fun v s1 ⟨x, H1, I1, r1, q1⟩ => thn (hb pins s1 σ H1 _ I1 q1) fun u s2 ⟨y, H2, I2, r2, q2⟩ =>
    thn (ho pins s2 σ H2 x y v u _ I2 r1 r2 q2) fun c s3 ⟨z, H3, I3, r3, k, e, q3⟩ => ?_) hm
  subst e
  cases r3
  exact wpAny_truthy_bool ⟨H3, I3, q3⟩
noncomputable def TruV (K : PySem.W.Frag) (x : V) (H : Hp) (k : Bool) : Prop :=
  match x with
  | .non => k = false
  | .bl b => k = b
  | .int i => k = (i != 0)
  | .str y => y.length ≤ sizeLine ∧ k = ((y.length : Int) != 0)
  | .byt y => y.size ≤ sizeLine ∧ k = ((y.size : Int) != 0)
  | .ref p => (∃ xs, SqL K H p xs ∧ k = !xs.isEmpty) ∨ (∃ xs, SqT K H p xs ∧ k = !xs.isEmpty) ∨ ∃ kvs, H p = some (.dK kvs) ∧ k = !kvs.isEmpty
  | _ => False
theorem isEmpty_kv {κ : Type} {kvs : List (κ × V)} {vs : List (κ × Value)} (r : KV kvs vs) : (!vs.isEmpty) = !kvs.isEmpty := by
  cases r <;> rfl
theorem isEmpty_of {xs : List V} {its : List Value} (r : Vals xs its) : (!its.toArray.isEmpty) = !xs.isEmpty := by
  cases r <;> simp
theorem line63 : (sizeLine : Nat) < 2 ^ 63 := by rw [sizeLine_eq]; decide
theorem tru_ok : TruR X (fun x H Q => ∃ k, TruV X.K x H k ∧ Q k H) := by
  intro pins s σ H x v Q I rx h
  obtain ⟨k, e, q⟩ := h
  have hl := line63
  have hs : sizeLine = 16777216 := sizeLine_eq
  cases x with
  | non =>
    cases rx
    have e' : k = false := e
    subst e'
    exact truthy_none ⟨H, I, q⟩
  | bl b =>
    cases rx
    have e' : k = b := e
    subst e'
    exact wpAny_truthy_bool ⟨H, I, q⟩
  | int i =>
    obtain ⟨t, rfl⟩ := rx
    have e' : k = (i != 0) := e
    subst e'
    exact PySem.P.truthy_int ⟨H, I, q⟩
  | str y =>
    obtain ⟨t, rfl⟩ := rx
    obtain ⟨hy, e'⟩ : y.length ≤ sizeLine ∧ k = ((y.length : Int) != 0) := e
    subst e'
    exact PySem.P.truthy_str (by omega) ⟨H, I.tok _, q⟩
  | byt y =>
    obtain ⟨t, rfl⟩ := rx
    obtain ⟨hy, e'⟩ : y.size ≤ sizeLine ∧ k = ((y.size : Int) != 0) := e
    subst e'
    exact PySem.W.truthy_bytes (by omega) ⟨H, I.tok _, q⟩
  | ref p =>
    cases rx
    have e' : (∃ xs, SqL X.K H p xs ∧ k = !xs.isEmpty) ∨ (∃ xs, SqT X.K H p xs ∧ k = !xs.isEmpty) ∨ ∃ kvs, H p = some (.dK kvs) ∧ k = !kvs.isEmpty := e
    rcases e' with ⟨xs, hx, e'⟩ | ⟨xs, hx, e'⟩ | ⟨kvs, hx, e'⟩
    · subst e'
      obtain ⟨its, r, pl, hz⟩ := I.list hx
      have hlen := r.length
      exact wpAny_truthy_list pl.isList (by simp only [List.size_toArray]; omega) ⟨H, I.tok _, by rw [isEmpty_of r]; exact q⟩
    · subst e'
      obtain ⟨its, r, pl, hz⟩ := I.tuple hx
      have hlen := r.length
      exact truthy_tuple pl (by simp only [List.size_toArray]; omega) ⟨H, I.tok _, by rw [isEmpty_of r]; exact q⟩
    · subst e'
      obtain ⟨hz, hS, vs, r, m⟩ : kvs.length ≤ sizeLine ∧ (p == sysModules) = false ∧ ∃ vs, KV kvs vs ∧ s.heap.DictOf (mixKind X.prog X.w) p vs := I.hok p _ hx
      have hlen : kvs.length = vs.length := Paired.length r
      exact wpAny_truthy_dict hS m (by omega) ⟨H, I.tok _, by rw [isEmpty_kv r]; exact q⟩
  | _ => exact (show False from e).elim
theorem pt_truth (ha : PE X a ta) (he : ∀ whole, isTrue a X.env whole = (do let v ← whole; standAt a.pos; holding [v] (truthy v))) :
    PT X a (fun σ H Q => ta σ H fun x H' => ∃ k, TruV X.K x H' k ∧ Q k H') := by
  intro pins s σ H Q I h
  exact isTrue_plain (thn (ha pins s σ H _ I h) fun v s1 ⟨x, H1, I1, r1, q1⟩ => tru_ok pins s1 σ H1 x v Q I1 r1 q1) (he _)
theorem op_add_str : OpR X (binaryOp .Add) (fun x y H Q => ∃ i j, x = .str i ∧ y = .str j ∧ i.length + j.length ≤ sizeLine ∧ Q (.str (i ++ j)) H) := by
  intro pins s σ H x y v u Q I rx ry h
  obtain ⟨i, j, rfl, rfl, hz, q⟩ := h
  obtain ⟨t, rfl⟩ := rx
  obtain ⟨t', rfl⟩ := ry
  exact add_str (fun t' tk => ⟨.str (i ++ j), H, I.tok _, ⟨_, rfl⟩, q⟩) hz
theorem vals1 {x : V} {us : List Value} (r : Vals [x] us) : ∃ u, us = [u] ∧ RelV x u := by
  cases r with
  | cons r1 r2 => cases r2; exact ⟨_, rfl, r1⟩
theorem vals2 {x y : V} {us : List Value} (r : Vals [x, y] us) : ∃ u w', us = [u, w'] ∧ RelV x u ∧ RelV y w' := by
  cases r with
  | cons r1 r2 =>
    cases r2 with
    | cons r3 r4 => cases r4; exact ⟨_, _, rfl, r1, r3⟩
theorem call_min2 (hc : X.calm = true) : CallR X (.builtin "min") (fun xs H Q => ∃ i j, xs = [.int i, .int j] ∧ Q (.int (if j < i then j else i)) H) := by
  intro pins s σ H xs us Q I r h
  obtain ⟨i, j, rfl, q⟩ := h
  obtain ⟨u, w', rfl, ⟨t, rfl⟩, ⟨t', rfl⟩⟩ := vals2 r
  refine min_two_ints (I.ok.hd hc) fun h' tk k => ⟨_, H, I.kept k, ?_, q⟩
  by_cases hj : j < i
  · rw [if_pos hj, if_pos hj]; exact ⟨_, rfl⟩
  · rw [if_neg hj, if_neg hj]; exact ⟨_, rfl⟩
theorem call_int1 : CallR X (.type "int") (fun xs H Q => (∃ i, xs = [.int i] ∧ Q (.int i) H) ∨ ∃ k, xs = [.bl k] ∧ Q (.int (if k then 1 else 0)) H) := by
  intro pins s σ H xs us Q I r h
  rcases h with ⟨i, rfl, q⟩ | ⟨k, rfl, q⟩
  · obtain ⟨u, rfl, t, rfl⟩ := vals1 r
    exact call_int_int ⟨.int i, H, I, ⟨_, rfl⟩, q⟩
  · obtain ⟨u, rfl, r1⟩ := vals1 r
    cases r1
    exact call_int_bool ⟨.int (if k then 1 else 0), H, I.tok _, ⟨_, rfl⟩, q⟩
end
end L2
namespace L2
open PySem PySem.Spec PyProof.Rows
structure ObjM (h : Heap) (x dx C : Addr) (mA : Str → Option Value) : Prop where
  obj : h.get? x = some (PySem.W.instObj C dx)
  ns : h.Ns1 dx mA
  ne : dx ≠ x
section
variable {prog : Program} {w : World} {A : Around} {E : Value → Shared → Prop} {s : Shared} {K : PySem.W.Frag} {x dx C f : Addr} {mA : Str → Option Value} {name : Str} {v : Value}
end
section
variable {P : Program} {w : World} {H H' : Hp} {h h' : Heap} {a C dx : Addr} {fs fs' : List (Str × V)}
end
structure Cls (K : PySem.W.Frag) (C : Addr) : Prop where
  pg : PySem.W.plainGet K C Str.empty = true
  hd : PySem.W.hasDictIn K C = true
  po : PySem.W.plainOver K C = true
  sa : PySem.W.findIn K (.ref C) "__setattr__" = some (some (.builtin "object.__setattr__"))
structure Con (K : PySem.W.Frag) (C : Addr) (f : Str) (v : V) (u : Value) : Prop where
  at_ : PySem.W.findIn K (.ref C) f = some (some u)
  rel : RelV v u
  get : PySem.W.specialIn K u "__get__" = some none
  cp : PySem.W.copiedNames.contains f = false
structure Meth (K : PySem.W.Frag) (C : Addr) (m : Str) (f : Addr) : Prop where
  at_ : PySem.W.findIn K (.ref C) m = some (some (.ref f))
  fn : PySem.W.isFn K (.ref f) = true
  kp : PySem.W.keepIn K (.ref f) = true
section
variable {X : Cx} {pins : List (Addr × Obj)} {σ : St} {H : Hp} {s : Shared} {a C dx : Addr} {fs : List (Str × V)} {f : Str} {v : V} {A : Around} {E : Value → Shared → Prop}
end
section
variable {X : Cx} {o e value : Expr} {f : Str} {pos pos' tpos : Pos} {ta tv : TE}
end
section
variable {X : Cx} {pins : List (Addr × Obj)} {σ : St} {H : Hp} {s : Shared} {A : Around} {E : Value → Shared → Prop} {Q : Value → Shared → Prop} {c : Value} {b : Bool}
inductive TyOf (K : PySem.W.Frag) (H : Hp) : V → Value → Prop where
  | non : TyOf K H .non (.type "NoneType")
  | bl (x : Bool) : TyOf K H (.bl x) (.type "bool")
  | int (i : Int) : TyOf K H (.int i) (.type "int")
  | str (x : Str) : TyOf K H (.str x) (.type "str")
  | flt (x : UInt64) : TyOf K H (.flt x) (.type "float")
  | lst {a : Addr} {xs : List V} (e : H a = some (.lst xs)) : TyOf K H (.ref a) (.type "list")
  | frz {a : Addr} {o : Obj} {xs : List V} (e : H a = some (.frz o (.lst xs))) : TyOf K H (.ref a) (.type "list")
  | tup {a : Addr} {xs : List V} (e : H a = some (.tup xs)) : TyOf K H (.ref a) (.type "tuple")
  | dK {a : Addr} {kvs : List (Key × V)} (e : H a = some (.dK kvs)) : TyOf K H (.ref a) (.type "dict")
  | dT {a : Addr} {kvs : List (List Key × V)} (e : H a = some (.dT kvs)) : TyOf K H (.ref a) (.type "dict")
  | ins {a C dx : Addr} {fs : List (Str × V)} (e : H a = some (.ins C dx fs)) (cl : Cls K C) (ha : PySem.W.findIn K (.ref C) "__class__" = some (some (.builtin "object.__class__")))
      (hn : PySem.W.specialIn K (.builtin "object.__class__") "__get__" = some (some (.builtin "getset_descriptor.__get__"))) (htk : PySem.W.takesIn K (.builtin "object.__class__") = some true)
      (hm : PySem.W.mroIn K C (.type "object") = some true) : TyOf K H (.ref a) (.ref C)
end
end L2
namespace L2
open PySem PySem.Spec PyProof.Rows
structure Room (k : Nat) (A : Around) : Prop where
  hd : A.handled = none
  dp : A.depth + 3 * k + 5 < recursionLimit
  un : A.units + 16 * k + 600 < cLine
theorem Room.mono {j k : Nat} {A : Around} (r : Room k A) (h : j ≤ k) : Room j A := ⟨r.hd, by have := r.dp; omega, by have := r.un; omega⟩
theorem Room.deeper {k : Nat} {A : Around} (r : Room (k + 1) A) (env : Env) : Room k (A.deeper env) :=
  ⟨r.hd, by have := r.dp; show A.depth + 1 + 3 * k + 5 < _; omega, by have := r.un; show A.units + 3 + 16 * k + 600 < _; omega⟩
theorem Room.in1 {k : Nat} {A : Around} (r : Room (k + 1) A) : Room k A.in1 :=
  ⟨r.hd, by have := r.dp; show A.depth + 3 * k + 5 < _; omega, by have := r.un; show A.units + 1 + 16 * k + 600 < _; omega⟩
theorem Room.depth {k : Nat} {A : Around} (r : Room k A) : A.depth < recursionLimit := by have := r.dp; omega
theorem Room.units {k : Nat} {A : Around} (r : Room k A) : A.units + 64 < cLine := by have := r.un; omega
noncomputable def tNil : TA := fun _ H Q => Q [] H
noncomputable def tCons (ta : TE) (tr : TA) : TA := fun σ H Q => ta σ H fun x H1 => tr σ H1 fun xs H2 => Q (x :: xs) H2
section
variable {X : Cx} {e : Expr} {es : List Expr} {te : TE} {t : TA} {pos : Pos}
theorem pa_nil : PA X [] tNil := fun _ _ _ _ H Q I h => Calls.spliced_nil ⟨[], H, I, .nil, h⟩
theorem pa_cons (ha : PE X e te) (hr : PA X es t) (hs : starEach (e :: es) X.env = (false, eval e X.env) :: starEach es X.env := by rfl) : PA X (e :: es) (tCons te t) := by
  intro pos pins s σ H Q I h
  rw [hs]
  show wpAny _ _ (spliced ((false, eval e X.env) :: backTo pos (starEach es X.env))) _ _ s
  refine Calls.spliced_cons (thn (ha pins s σ H _ I h) fun u s1 ⟨x, H1, I1, r1, q1⟩ => ?_)
  exact thn (hr pos pins s1 σ H1 _ I1 q1) fun us s2 ⟨xs, H2, I2, r2, q2⟩ => ⟨x :: xs, H2, I2, .cons r1 r2, q2⟩
noncomputable def tTup (t : TA) : TE := fun σ H Q => t σ H fun xs H1 => xs.length ≤ sizeLine ∧ ∀ p, H1 p = none → Q (.ref p) (upd H1 p (.tup xs))
noncomputable def tLst (t : TA) : TE := fun σ H Q => t σ H fun xs H1 => xs.length ≤ sizeLine ∧ ∀ p, H1 p = none → Q (.ref p) (upd H1 p (.lst xs))
theorem pe_tup {x1} (h : PA X es t) : PE X (.Tuple es x1 pos) (tTup t) := by
  intro pins s σ H Q I hq
  refine wpAny_Tuple_spliced (thn (h pos pins s σ H _ I hq) fun us s1 ⟨xs, H1, I1, r, z, q⟩ => ⟨by rw [← r.length]; exact z, ?_⟩)
  have hf : H1 s1.heap.objs.size = none := I1.hok.fresh (Nat.le_refl _)
  refine ⟨.ref s1.heap.objs.size, upd H1 s1.heap.objs.size (.tup xs), I1.laid (t' := s1.toks) (fun b u e => Heap.get?_push_of_some _ e) (Nat.le_refl _) ?_, rfl, q _ hf⟩
  exact ⟨z, us, r, ⟨_, Heap.get?_push_size _ rfl, rfl, _, rfl⟩⟩
theorem pe_lst (h : PA X es t) : PE X (.List es pos) (tLst t) := by
  intro pins s σ H Q I hq
  refine wpAny_List_spliced (thn (h pos pins s σ H _ I hq) fun us s1 ⟨xs, H1, I1, r, z, q⟩ => ⟨by rw [← r.length]; exact z, ?_⟩)
  have hf : H1 s1.heap.objs.size = none := I1.hok.fresh (Nat.le_refl _)
  refine ⟨.ref s1.heap.objs.size, upd H1 s1.heap.objs.size (.lst xs), I1.laid (t' := s1.toks) (fun b u e => Heap.get?_push_of_some _ e) (Nat.le_refl _) ?_, rfl, q _ hf⟩
  exact ⟨z, us, 0, r, Heap.get?_push_size _ rfl⟩
end
noncomputable abbrev Sp := List V → Hp → VK → XK → Prop
noncomputable abbrev CXT := List Env → Hp → Shared → XK → Value → Shared → Prop
structure Env0 (P : Program) (w : World) (K : PySem.W.Frag) (mg : Str → Option Value) (base : Heap) (A : Around) (outer : List Env) (s : Shared) (H : Hp) : Prop where
  frames : A.frames = some outer
  mod : Mod K mg base
  bs : ∀ b o, base.get? b = some o → s.heap.get? b = some o ∧ H b = none
  bsz : base.objs.size ≤ s.heap.objs.size
  funs : s.heap.FunFrames base outer
  frf : ∀ b ∈ frs outer, H b = none
  hok : HOk P w H s.heap
  bare : AllBare s.gens
noncomputable def CE (outer : List Env) (P : Program) (w : World) (H : Hp) (s : Shared) (Q : VK) (u : Value) (s' : Shared) : Prop :=
  ∃ v H', s'.os = s.os ∧ AllBare s'.gens ∧ Un (frs outer) [] H H' s.heap s'.heap ∧ HOk P w H' s'.heap ∧ RelV v u ∧ Q v H'
noncomputable def CR (CX : CXT) (outer : List Env) (P : Program) (w : World) (H : Hp) (s : Shared) (Q : VK) (E : XK) (r : Result) (s' : Shared) : Prop :=
  match r with
  | .ok (.ret u) => CE outer P w H s Q u s'
  | .ok _ => False
  | .error e => CX outer H s E e s'
structure FnOk (P : Program) (w : World) (K : PySem.W.Frag) (mg : Str → Option Value) (base : Heap) (CX : CXT) (k : Nat) (f : Addr) (fd : FuncData) (ps : List Str) (sp : Sp) : Prop where
  len : ∀ vs H Q E, sp vs H Q E → vs.length = ps.length
  run : ∀ (A : Around) (outer : List Env) (s : Shared) (H : Hp) (args : Args) (us : List Value) (vs : List V) (Q : VK) (E : XK), Room k A → Env0 P w K mg base A outer s H → BindsTo s fd args (ps.zip us) → Vals vs us → sp vs H Q E →
    codeAny (model P w) A (.call (.ref f) args) (CR CX outer P w H s Q E) s
theorem FnOk.imp {P : Program} {w : World} {K : PySem.W.Frag} {mg : Str → Option Value} {base : Heap} {CX : CXT} {k : Nat} {f : Addr} {fd : FuncData} {ps : List Str} {sp sp' : Sp} (F : FnOk P w K mg base CX k f fd ps sp)
    (h : ∀ vs H Q E, sp' vs H Q E → sp vs H Q E) : FnOk P w K mg base CX k f fd ps sp' :=
  ⟨fun vs H Q E q => F.len vs H Q E (h _ _ _ _ q), fun A outer s H args us vs Q E hr he hb hv hs => F.run A outer s H args us vs Q E hr he hb hv (h _ _ _ _ hs)⟩
theorem Env0.in1 {P : Program} {w : World} {K : PySem.W.Frag} {mg : Str → Option Value} {base : Heap} {A : Around} {outer : List Env} {s : Shared} {H : Hp} (e : Env0 P w K mg base A outer s H) :
    Env0 P w K mg base A.in1 outer s H := ⟨e.frames, e.mod, e.bs, e.bsz, e.funs, e.frf, e.hok, e.bare⟩
section
variable {X : Cx} {pins : List (Addr × Obj)} {σ : St} {H : Hp} {s s' : Shared}
theorem Inv.env0 (I : Inv X pins σ H s) : Env0 X.prog X.w X.K X.mg X.base X.A X.stack s H :=
  ⟨I.ok.frames, I.ok.mod, I.bs, Nat.le_trans I.ok.bsz I.sz, I.stack, I.stkFree, I.hok, I.bare⟩
theorem Inv.after {Q : VK} {u : Value} (I : Inv X pins σ H s) (h : CE X.stack X.prog X.w H s Q u s') : EP X pins σ Q u s' := by
  obtain ⟨v, H', os, bare, un, hok, r, q⟩ := h
  obtain ⟨hh, g, d, t, os'⟩ := s'
  obtain rfl : os' = s.os := os
  exact ⟨v, H', I.call (h' := hh) (g' := g) (d' := d) (t' := t) (ch := []) un hok bare (fun b z => absurd z (by simp)), r, q⟩
end
noncomputable def Binds (K : PySem.W.Frag) (fd : FuncData) (ps : List Str) (ds : List Value) : Prop :=
  ∀ (s : Shared) (us : List Value), K.In s.heap → (us ++ ds).length = ps.length → BindsTo s fd ⟨us, []⟩ (ps.zip (us ++ ds))
theorem Binds.all {K : PySem.W.Frag} {fd : FuncData} {ps : List Str} (h : ∀ us : List Value, us.length = ps.length → bindArgs fd ⟨us, []⟩ = pure (ps.zip us)) : Binds K fd ps [] := fun s us _ hl => by
  rw [List.append_nil] at hl ⊢
  exact .of_eq (h us hl)
section
variable {X : Cx} {CX : CXT} {k : Nat} {f C : Addr} {fd : FuncData} {ps : List Str} {sp : Sp} {dvs : List V} {ds : List Value} {E : XK} {x m : Str} {p pos apos : Pos} {e o : Expr} {es : List Expr} {ta : TE} {t : TA}
structure Mk (K : PySem.W.Frag) (C f : Addr) : Prop where
  makes : PySem.W.makesIn K C = true
  init : PySem.W.findIn K (.ref C) "__init__" = some (some (.ref f))
  fn : PySem.W.isFn K (.ref f) = true
  kp : PySem.W.keepIn K (.ref C) = true
end
section
variable {X : Cx} {CX : CXT} {k : Nat} {f C : Addr} {fd : FuncData} {ps ks : List Str} {sp : Sp} {E : XK} {x m : Str} {p pos apos kpos : Pos} {e o : Expr} {es : List Expr} {kws : List Keyword} {te ta : TE} {t tk : TA} {nm : Option Str}
structure KBinds (K : PySem.W.Frag) (fd : FuncData) (ps ks : List Str) (g : List Value → List Value → List Value) (gV : List V → List V → List V) : Prop where
  to : ∀ (s : Shared) (us ws : List Value), K.In s.heap → (g us ws).length = ps.length → BindsTo s fd ⟨us, ks.zip ws⟩ (ps.zip (g us ws))
  rel : ∀ {vs : List V} {us : List Value} {zs : List V} {ws : List Value}, Vals vs us → Vals zs ws → Vals (gV vs zs) (g us ws)
variable {g : List Value → List Value → List Value} {gV : List V → List V → List V}
end
structure FnScope (N P : List Str) (sc : Scope) : Prop where
  kind : sc.kind = .function
  co : sc.isCoroutine = false
  gen : sc.isGenerator = false
  nd : N.Nodup
  pre : N.take P.length = P
  par : ∀ x ∈ P, sc.names.lookup x = some .local ∨ sc.names.lookup x = some .cell
  nofree : ∀ y ∈ sc.names, y.2 ≠ .free
theorem bindL_out {kindOf : Str → Option NameKind} {x : Str} : ∀ {binds : List (Str × Value)} {m : Str → Option Value}, (∀ v, (x, v) ∉ binds) → bindL kindOf binds m x = m x
  | [], _, _ => rfl
  | (n, v) :: r, m, h => by
    unfold bindL
    rw [bindL_out fun w hw => h w (List.mem_cons_of_mem _ hw)]
    split
    · have : x ≠ n := by rintro rfl; exact h v List.mem_cons_self
      simp [this]
    · rfl
theorem bindC_out {kindOf : Str → Option NameKind} {x : Str} : ∀ {binds : List (Str × Value)} {m : Str → Option Value}, (∀ v, (x, v) ∉ binds) → bindC kindOf binds m x = m x
  | [], _, _ => rfl
  | (n, v) :: r, m, h => by
    unfold bindC
    rw [bindC_out fun w hw => h w (List.mem_cons_of_mem _ hw)]
    split
    · rfl
    · have : x ≠ n := by rintro rfl; exact h v List.mem_cons_self
      simp [this]
theorem bindL_get {kindOf : Str → Option NameKind} {x : Str} {v : Value} : ∀ {P : List Str} {vs : List Value} {i : Nat} {m : Str → Option Value}, P.Nodup → P[i]? = some x → vs[i]? = some v → kindOf x = some .local →
    bindL kindOf (P.zip vs) m x = some v
  | [], _, _, _, _, h, _, _ => by simp at h
  | _ :: _, [], _, _, _, _, h, _ => by simp at h
  | p :: P, w :: vs, 0, m, nd, h1, h2, hk => by
    simp at h1 h2; subst h1; subst h2
    show bindL kindOf ((p, w) :: P.zip vs) m p = _
    unfold bindL
    rw [bindL_out fun v hv => (List.nodup_cons.mp nd).1 (List.of_mem_zip hv).1, if_pos hk]
    simp
  | p :: P, w :: vs, i + 1, m, nd, h1, h2, hk => by
    show bindL kindOf ((p, w) :: P.zip vs) m x = _
    unfold bindL
    exact bindL_get (i := i) (List.nodup_cons.mp nd).2 (by simpa using h1) (by simpa using h2) hk
theorem bindC_get {kindOf : Str → Option NameKind} {x : Str} {v : Value} : ∀ {P : List Str} {vs : List Value} {i : Nat} {m : Str → Option Value}, P.Nodup → P[i]? = some x → vs[i]? = some v → kindOf x ≠ some .local →
    bindC kindOf (P.zip vs) m x = some v
  | [], _, _, _, _, h, _, _ => by simp at h
  | _ :: _, [], _, _, _, _, h, _ => by simp at h
  | p :: P, w :: vs, 0, m, nd, h1, h2, hk => by
    simp at h1 h2; subst h1; subst h2
    show bindC kindOf ((p, w) :: P.zip vs) m p = _
    unfold bindC
    rw [bindC_out fun v hv => (List.nodup_cons.mp nd).1 (List.of_mem_zip hv).1, if_neg hk]
    simp
  | p :: P, w :: vs, i + 1, m, nd, h1, h2, hk => by
    show bindC kindOf ((p, w) :: P.zip vs) m x = _
    unfold bindC
    exact bindC_get (i := i) (List.nodup_cons.mp nd).2 (by simpa using h1) (by simpa using h2) hk
noncomputable def start (N : List Str) (vs : List V) : St := vs.map some ++ List.replicate (N.length - vs.length) none
noncomputable def cxOf (CX : CXT) (P : Program) (w : World) (K : PySem.W.Frag) (mg : Str → Option Value) (base : Heap) (N : List Str) (qual : Str) (scope : Scope) (f : Addr) (cd : Value) (A : Around) (outer : List Env) (s : Shared) (H : Hp) (E : XK) : Cx where
  prog := P
  w := w
  K := K
  mg := mg
  base := base
  A := A.deeper (envOfC qual scope s.heap.objs.size f cd)
  N := N
  s₀ := s
  H₀ := H
  env := envOfC qual scope s.heap.objs.size f cd
  outer := outer
  stack := envOfC qual scope s.heap.objs.size f cd :: outer
  ex := []
  calm := true
  fn := fun _ => true
  pn := []
  xe := fun e s' => wpAny (model P w) (A.deeper (envOfC qual scope s.heap.objs.size f cd)) (leaving (envOfC qual scope s.heap.objs.size f cd) e) (fun _ s'' => CX outer H s E e s'') (fun e' s'' => CX outer H s E e' s'') s'
theorem cell_has {sc : Scope} {n : Nat} {x : Str} (h : sc.names.lookup x = some .cell) : ∃ c, (cellsFrom n sc.names []).lookup x = some c := by
  have q := PySem.W.cellsFrom_some sc.names n [] (.inl h)
  exact Option.isSome_iff_exists.mp q
theorem inv_start {CX : CXT} {P : Program} {w : World} {K : PySem.W.Frag} {mg : Str → Option Value} {base : Heap} {N ps : List Str} {qual : Str} {scope : Scope} {f : Addr} {cd : Value} {A : Around} {outer : List Env} {s s1 : Shared} {H : Hp} {E : XK} {us : List Value} {vs : List V}
    (S : FnScope N ps scope) (hd : A.handled = none) (e0 : Env0 P w K mg base A outer s H) (hl : vs.length = ps.length) (r : Vals vs us)
    (x : InCallC s s.heap.objs.size (bindL (envOfC qual scope s.heap.objs.size f cd).kindOf (ps.zip us) fun _ => none) (cellsFrom (s.heap.objs.size + 1) scope.names []) (bindC (envOfC qual scope s.heap.objs.size f cd).kindOf (ps.zip us) fun _ => none) s1) :
    Inv (cxOf CX P w K mg base N qual scope f cd A outer s H E) [] (start N vs) H s1 := by
  have hpl : ps.length ≤ N.length := by have := congrArg List.length S.pre; rw [List.length_take] at this; omega
  obtain ⟨h1, tk, rfl, hk⟩ := x.done
  have noA : ∀ b : Addr, b ∉ (cxOf CX P w K mg base N qual scope f cd A outer s H E).ex := fun b z => absurd (show b ∈ ([] : List Addr) from z) (by simp)
  refine ⟨⟨e0.mod, S.kind, rfl, rfl, Nat.le_refl _, fun y z c h1 h2 => ?_, fun y hy => ?_, fun y c _ h => ?_, fun _ => hd, Around.frames_deeper e0.frames, .inr ⟨rfl, rfl⟩, fun b z => absurd z (noA b), e0.bs, e0.bsz, fun b _ _ => noA b, fun b z => absurd z (noA b), e0.funs, e0.frf⟩,
    rfl, e0.bare, Un.kept hk, ⟨_, x.toInCall.ns, fun i y v h1 h2 h3 => ?_⟩, fun y c h => ⟨_, x.cell y c h⟩, e0.hok.fresh (Nat.le_refl _), fun y c h => ?_, fun p hp => absurd (show p ∈ ([] : List (Addr × Obj)) from hp) (by simp), e0.hok.kept hk, ?_⟩
  · exact name_of_addr x.apart (PySem.mem_of_lookup h1) (PySem.mem_of_lookup h2)
  · have hy : scope.names.lookup y = some .cell ∨ scope.names.lookup y = some .free := hy
    rcases hy with hy | hy
    · exact cell_has hy
    · exact absurd rfl (S.nofree _ (PySem.mem_of_lookup hy))
  · exact Nat.le_of_lt (x.above y c (PySem.mem_of_lookup h))
  · have hi : i < vs.length := by
      unfold start at h2
      by_cases hi : i < vs.length
      · exact hi
      · rw [List.getElem?_append_right (by simpa using hi)] at h2
        rw [List.getElem?_replicate] at h2
        split at h2 <;> cases h2
    have ha : vs[i]? = some v := by
      unfold start at h2
      rw [List.getElem?_append_left (by simpa using hi), List.getElem?_map] at h2
      cases e : vs[i]? with
      | none => rw [e] at h2; cases h2
      | some a => rw [e] at h2; cases h2; rfl
    obtain ⟨u, hu, rv⟩ := r.get ha
    have hp : ps[i]? = some y := by
      rw [← S.pre, List.getElem?_take_of_lt (by omega)]; exact h1
    have ndP : ps.Nodup := by rw [← S.pre]; exact S.nd.sublist (List.take_sublist _ _)
    refine ⟨u, rv, ?_⟩
    rcases S.par y (List.mem_of_getElem? hp) with k | k
    · exact .inl ⟨k, bindL_get ndP hp hu k⟩
    · obtain ⟨c, e⟩ := cell_has (n := s.heap.objs.size + 1) k
      refine .inr ⟨.inl k, c, e, ?_⟩
      have q := x.cell y c e
      rw [bindC_get ndP hp hu (by show scope.names.lookup y ≠ _; rw [k]; decide)] at q
      exact q
  · exact e0.hok.fresh (Nat.le_of_lt (x.above y c (PySem.mem_of_lookup h)))
  · unfold start
    show _ = N.length
    rw [List.length_append, List.length_map, List.length_replicate]
    omega
theorem fn_of {CX : CXT} {P : Program} {w : World} {K : PySem.W.Frag} {mg : Str → Option Value} {base : Heap} {k : Nat} {f : Addr} {name qual : Str} {params : Arguments} {body : List Stmt} {scope : Scope} {dV kV doc pm cdv ct oc : Value} {an od : Option Addr}
    {osl : Array (Option Value)} {N ps : List Str} {sp : Sp} (lk : K.lookup f = some ⟨oc, od, .func (PySem.W.fnOf name qual params body scope dV kV doc pm an cdv ct), osl⟩) (hcd : PySem.W.codeIn K cdv qual = true) (S : FnScope N ps scope)
    (len : ∀ vs H Q E, sp vs H Q E → vs.length = ps.length)
    (hbody : ∀ (A : Around) (outer : List Env) (s : Shared) (H : Hp) (vs : List V) (Q : VK) (E : XK), Room k (A.deeper (envOfC qual scope s.heap.objs.size f cdv)) → sp vs H Q E →
      ∃ t, PSs (cxOf CX P w K mg base N qual scope f cdv A outer s H E) body t ∧ t { nx := fun _ H' => Q .non H', rt := Q } (start N vs) H) :
    FnOk P w K mg base CX (k + 1) f (PySem.W.fnOf name qual params body scope dV kV doc pm an cdv ct) ps sp := by
  refine ⟨len, fun A outer s H args us vs Q E hr e0 hb r hsp => ?_⟩
  have hl := len _ _ _ _ hsp
  have KX : K.In s.heap := e0.mod.kin.keeps fun b o e => (e0.bs b o e).1
  have lim : s.heap.NoLimit := e0.mod.nolimit.keeps fun b o e => (e0.bs b o e).1
  have hkind : ∀ y ∈ ps.zip us, scope.names.lookup y.1 = some .local ∨ (scope.names.lookup y.1 = some .cell ∧ ((cellsFrom (s.heap.objs.size + 1) scope.names []).lookup y.1).isSome = true) := fun ⟨n, v⟩ hy => by
    rcases S.par n (List.of_mem_zip hy).1 with q | q
    · exact .inl q
    · exact .inr ⟨q, PySem.W.cellsFrom_some _ _ _ (.inl q)⟩
  refine codeAny_call_function hr.depth (KX _ _ lk) rfl S.co S.gen rfl (PySem.W.codeRec_of KX hcd) (hb _ _ _ _ ?_)
  refine wpAny_newFunctionEnv_cells S.kind hkind fun env he s1 x => ?_
  subst he
  refine ⟨lim.keeps x.toInCall.keep, codeAny_func ?_⟩
  obtain ⟨t, ht, hq⟩ := hbody A outer s H vs Q E (hr.deeper _) hsp
  have I : Inv (cxOf CX P w K mg base N qual scope f cdv A outer s H E) [] (start N vs) H s1 := inv_start S hr.hd e0 hl r x
  refine wpAny_mono (ht [] s1 (start N vs) H _ I hq) (fun fl s' hs => ?_) fun e s' hs => hs
  have fin : ∀ {σ' : St} {H' : Hp} {v : V} {u : Value}, Inv (cxOf CX P w K mg base N qual scope f cdv A outer s H E) [] σ' H' s' → RelV v u → Q v H' → CE outer P w H s Q u s' :=
    fun {σ' H' v u} J rv q => ⟨v, H', J.os, J.bare, J.base, J.hok, rv, q⟩
  cases fl with
  | ret u =>
    obtain ⟨v, σ', H', J, rv, q⟩ := hs
    exact fin J rv q
  | next =>
    obtain ⟨σ', H', J, q⟩ := hs
    exact fin (v := V.non) (u := Value.none) J rfl q
  | brk =>
    obtain ⟨_, _, _, q⟩ := hs
    exact False.elim q
  | cont =>
    obtain ⟨_, _, _, q⟩ := hs
    exact False.elim q
end L2
namespace L2
open PySem PySem.Spec PyProof.Rows
section
variable {X : Cx} {x : Str} {p pos : Pos} {e : Expr} {es : List Expr} {t : TA} {id T : String} {r : List V → Hp → VK → Prop}
noncomputable def tCB (r : List V → Hp → VK → Prop) (t : TA) : TE := fun σ H Q => t σ H fun vs H1 => r vs H1 Q
theorem pe_callB (hc : CallR X (.builtin id) r) (hg : Gl X x) (hm : X.mg x = none) (hv : bootBuiltins x = some (.builtin id)) (ha : PA X (e :: es) t) (hn : x ≠ "__name__" := by decide) (hdb : (x == ("__debug__" : Str)) = false := by decide)
    (he : starEach (e :: es) X.env = (false, eval e X.env) :: starEach es X.env := by rfl) (hpl : (backTo pos (starEach es X.env)).any (·.1) = false := by rfl) : PE X (.Call (.Name x p) (e :: es) [] pos) (tCB r t) := by
  intro pins s σ H Q I h
  refine wpAny_Call_Name_kw (ld_blt I hg hm hv ?_ hn hdb)
  exact PyProof.Rows.callWith_builtin1 (thn (ha pos pins s σ H _ I h) fun us s1 ⟨vs, H1, I1, r1, q1⟩ => hc pins s1 σ H1 vs us Q I1 r1 q1) he hpl
theorem pe_callTy (hc : CallR X (.type T) r) (hg : Gl X x) (hm : X.mg x = none) (hv : bootBuiltins x = some (.type T)) (ha : PA X (e :: es) t) (hn : x ≠ "__name__" := by decide) (hdb : (x == ("__debug__" : Str)) = false := by decide)
    (he : starEach (e :: es) X.env = (false, eval e X.env) :: starEach es X.env := by rfl) (hpl : (backTo pos (starEach es X.env)).any (·.1) = false := by rfl) : PE X (.Call (.Name x p) (e :: es) [] pos) (tCB r t) := by
  intro pins s σ H Q I h
  refine wpAny_Call_Name_kw (ld_blt I hg hm hv ?_ hn hdb)
  exact PyProof.Rows.callWith_type1 (thn (ha pos pins s σ H _ I h) fun us s1 ⟨vs, H1, I1, r1, q1⟩ => hc pins s1 σ H1 vs us Q I1 r1 q1) he hpl
end
end L2
namespace HT
open PySem PyProof.Rows
section
open PySem.SeqAt
open PySem.AutoSeq1 (wpAny_loadPart')
open PySem.MeetsSeq PySem.MeetsSeq2 PySem.MeetsSeq3
end
section
variable {prog : Program} {w : World} {A : Around} {E : Value → Shared → Prop} {s : Shared}
theorem cat_tup {t b : Addr} {vs ws : List Value} {Q : Value → Shared → Prop} (ht : IsTup s.heap t vs.toArray) (hb : IsTup s.heap b ws.toArray) (hv : vs ≠ [])
    (h1 : ws = [] → Q (.ref t) s) (h2 : ws ≠ [] → Q (.ref s.heap.objs.size) { s with heap := s.heap.push { cls := .type "tuple", data := .seq (vs ++ ws).toArray } })
    (hsz : vs.length + ws.length ≤ sizeLine) : wpAny (model prog w) A (binaryOp .Add (.ref t) (.ref b)) Q E s := by
  obtain ⟨⟨cls, dd, data, sl⟩, ho, hc, n, hd⟩ := id ht
  obtain ⟨⟨cls2, dd2, data2, sl2⟩, ho2, hc2, n2, hd2⟩ := id hb
  simp only at hc hd hc2 hd2
  subst hc hd hc2 hd2
  have e : vs.toArray ++ ws.toArray = (vs ++ ws).toArray := by simp
  by_cases hw : ws = []
  · exact concat_meets ⟨_, ho, rfl⟩ ⟨_, ho2, rfl⟩ noFill_tuple_add seq_tuple_add PySem.F.slot_tuple_add PySem.F.entry_tuple_add (PySem.F.args_tuple_add_2 _ _)
      (tuple_addW1 t b vs.toArray ws.toArray n n2 dd dd2 sl sl2 (by simpa using hv) (by simp [hw])) ⟨ho, ho2, h1 hw⟩
  · refine concat_meets ⟨_, ho, rfl⟩ ⟨_, ho2, rfl⟩ noFill_tuple_add seq_tuple_add PySem.F.slot_tuple_add PySem.F.entry_tuple_add (PySem.F.args_tuple_add_2 _ _)
      (tuple_addW2 t b vs.toArray ws.toArray n n2 dd dd2 sl sl2 (by simpa using hv) (by simpa using hw) (by rw [List.size_toArray, List.size_toArray]; exact hsz)) ⟨ho, ho2, ?_⟩
    rw [e]
    exact h2 hw
noncomputable def sIx (n d : Nat) : Option Int → Nat
  | none => d
  | some v => if v < 0 then (v + (n : Int)).toNat else min v.toNat n
theorem sIx_none (n d : Nat) : sIx n d none = d := rfl
theorem sIx_nat (n d k : Nat) : sIx n d (some (k : Int)) = min k n := by
  show (if (k : Int) < 0 then ((k : Int) + (n : Int)).toNat else min (k : Int).toNat n) = min k n
  rw [if_neg (by omega), Int.toNat_natCast]
theorem sIx_le (n d : Nat) (hd : d ≤ n) (o : Option Int) : sIx n d o ≤ n := by
  cases o with
  | none => exact hd
  | some v =>
    show (if v < 0 then (v + (n : Int)).toNat else min v.toNat n) ≤ n
    by_cases hv : v < 0
    · rw [if_pos hv]; omega
    · rw [if_neg hv]; exact Nat.min_le_right _ _
theorem clip_eq (v : Int) (n d : Nat) : (if v < 0 then max (v + (n : Int)) 0 else min v (n : Int)) = ((sIx n d (some v) : Nat) : Int) := by
  show (if v < 0 then max (v + (n : Int)) 0 else min v (n : Int)) = (((if v < 0 then (v + (n : Int)).toNat else min v.toNat n) : Nat) : Int)
  by_cases hv : v < 0
  · simp only [if_pos hv]; omega
  · simp only [if_neg hv]; omega
theorem adjust_gen (lo hi : Option Int) (n : Nat) : Builtin.Slice.sliceAdjust lo hi 1 (n : Int) = (((sIx n 0 lo : Nat) : Int), ((sIx n n hi : Nat) : Int)) := by
  have h1 : ¬ ((1 : Int) < 0) := by omega
  unfold Builtin.Slice.sliceAdjust
  simp only [h1, if_false]
  refine Prod.ext ?_ ?_
  · cases lo with
    | none => rfl
    | some v => exact clip_eq v n 0
  · cases hi with
    | none => rfl
    | some v => exact clip_eq v n n
theorem places_gen (i j : Nat) : Builtin.Slice.slicePlaces (i : Int) (j : Int) 1 = j - i := by
  unfold Builtin.Slice.slicePlaces
  have h1 : (1 : Int) > 0 := by omega
  simp only [h1, if_true, Int.ediv_one]
  split <;> omega
theorem slicePart_ {v : Value} {o : Option Int} {Q : Option Int → Shared → Prop} (p : IsPart v o) (h : Q o s) : wpAny (model prog w) A (Builtin.Slice.slicePartIndex v) Q E s := by
  cases p with
  | none => exact slicePart_none h
  | int i t => exact slicePart_int h
theorem sliceApplied_gen {sl : Addr} {vl vu : Value} {lo hi : Option Int} {n : Nat} {Q : Int × Int × Nat → Shared → Prop} (hs : s.heap.IsSliceOf sl vl vu .none) (pl : IsPart vl lo) (pu : IsPart vu hi)
    (h : Q (((sIx n 0 lo : Nat) : Int), 1, sIx n n hi - sIx n 0 lo) s) : wpAny (model prog w) A (Builtin.Slice.sliceApplied (.ref sl) (pure (n : Int))) Q E s := by
  obtain ⟨os, hos, hcs, hds⟩ := id hs
  unfold Builtin.Slice.sliceApplied Builtin.Slice.sliceFields
  refine wpAny_bind (wpAny_bind (wpAny_field hos hds (x := vl) rfl (wpAny_bind (wpAny_field hos hds (x := vu) rfl (wpAny_bind (wpAny_field hos hds (x := .none) rfl (wpAny_pure ?_)))))))
  refine wpAny_bind (slicePart_none ?_)
  show wpAny _ _ (if ((1 : Int) == 0) = true then _ else _) _ _ s
  rw [if_neg (by decide)]
  refine wpAny_bind (slicePart_ pl (wpAny_bind (slicePart_ pu (wpAny_bind (wpAny_pure ?_)))))
  show wpAny _ _ (match Builtin.Slice.sliceAdjust lo hi 1 (n : Int) with | (lo, hi) => pure (lo, (1 : Int), Builtin.Slice.slicePlaces lo hi 1)) _ _ s
  rw [adjust_gen lo hi n]
  show wpAny _ _ (pure (((sIx n 0 lo : Nat) : Int), (1 : Int), Builtin.Slice.slicePlaces ((sIx n 0 lo : Nat) : Int) ((sIx n n hi : Nat) : Int) 1)) _ _ s
  rw [places_gen]
  exact wpAny_pure h
theorem pick_gen (xs : Array Value) (i k : Nat) : ((List.range k).filterMap fun (m : Nat) => xs[((i : Int) + (m : Int) * 1).toNat]?).toArray = ((xs.toList.drop i).take k).toArray := by
  have e : (fun (m : Nat) => xs[((i : Int) + (m : Int) * 1).toNat]?) = fun m => xs[i + m]? := by
    funext m
    have : ((i : Int) + (m : Int) * 1).toNat = i + m := by omega
    rw [this]
  rw [e]
  have := pick_run xs i k
  rw [List.filterMap_map] at this
  have e2 : ((fun x => xs[x]?) ∘ fun x => i + x) = fun m => xs[i + m]? := rfl
  rw [e2] at this
  rw [this]
theorem getItem_tuple_cut {t sl : Addr} {items : Array Value} {vl vu : Value} {lo hi : Option Int} {Q : Value → Shared → Prop} (ht : IsTup s.heap t items) (hs : s.heap.IsSliceOf sl vl vu .none) (pl : IsPart vl lo) (pu : IsPart vu hi)
    (hw : ¬ (sIx items.size 0 lo = 0 ∧ sIx items.size items.size hi = items.size))
    (h : Q (.ref s.heap.objs.size) { s with heap := s.heap.push { cls := .type "tuple", data := .seq ((items.toList.drop (sIx items.size 0 lo)).take (sIx items.size items.size hi - sIx items.size 0 lo)).toArray } })
    (hsz : items.size ≤ sizeLine) : wpAny (model prog w) A (getItem (.ref t) (.ref sl)) Q E s := by
  have htake : sizeOk (.seq ((items.toList.drop (sIx items.size 0 lo)).take (sIx items.size items.size hi - sIx items.size 0 lo)).toArray) := by
    show ((items.toList.drop (sIx items.size 0 lo)).take (sIx items.size items.size hi - sIx items.size 0 lo)).toArray.size ≤ sizeLine
    rw [List.size_toArray, List.length_take, List.length_drop, Array.length_toList]
    omega
  have hj : sIx items.size items.size hi ≤ items.size := sIx_le _ _ (Nat.le_refl _) hi
  obtain ⟨os, hos, hcs, hds⟩ := id hs
  have hTs : s.TypeIs (.ref sl) "slice" := ⟨os, hos, hcs⟩
  unfold getItem
  try with_reducible refine wpAny_holding ?_
  first | refine wpAny_bind (wpAny_pure ?_) | skip
  refine wpAny_bind (wpAny_sequenceKey ht.typeIs (by decide) ?_)
  refine wpAny_bind (wpAny_callSpecial?_slot (name := Str.ofString "__getitem__") ht.typeIs PyProof.Rows.slot_tuple_getitem
    (wpAny_call_entry PyProof.Rows.slot_tuple_getitem ht.typeIs entry_tuple_getitem ?_ (args_tuple_getitem _ _)))
  show wpAny _ _ (Builtin.Tuple.tupleItemsOf (.ref t) >>= _) _ _ s
  refine wpAny_bind (tupleItemsOf_ ht ?_)
  refine wpAny_bind (wpAny_typeOf hTs ?_)
  rw [if_pos (by decide)]
  refine wpAny_bind (sliceApplied_gen hs pl pu ?_)
  have hno : ¬ ((((sIx items.size 0 lo : Nat) : Int) == 0 && (1 : Int) == 1 && (sIx items.size items.size hi - sIx items.size 0 lo) == items.size) = true) := by
    intro q
    rw [Bool.and_eq_true, Bool.and_eq_true] at q
    have q1 : ((sIx items.size 0 lo : Nat) : Int) = 0 := eq_of_beq q.1.1
    have q2 : sIx items.size items.size hi - sIx items.size 0 lo = items.size := eq_of_beq q.2
    exact hw ⟨by omega, by omega⟩
  show wpAny _ _ (if (((sIx items.size 0 lo : Nat) : Int) == 0 && (1 : Int) == 1 && (sIx items.size items.size hi - sIx items.size 0 lo) == items.size) = true then _ else _) _ _ s
  rw [if_neg hno, pick_gen]
  first
    | exact wpAny_bind (m := Builtin.Tuple.tupleExact _) (wpAny_newObj_type (wpAny_pure ⟨_, rfl, wpAny_pure h⟩) htake)
    | exact wpAny_bind (m := Builtin.Tuple.tupleExact _) (wpAny_newObj_type (wpAny_bind (wpAny_pure (wpAny_pure ⟨_, rfl, wpAny_pure h⟩))) htake)
    | exact wpAny_bind (wpAny_bind (m := Builtin.Tuple.tupleExact _) (wpAny_newObj_type (wpAny_pure (wpAny_pure ⟨_, rfl, wpAny_pure h⟩)) htake))
    | exact wpAny_bind (wpAny_bind (m := Builtin.Tuple.tupleExact _) (wpAny_newObj_type (wpAny_pure ⟨_, rfl, wpAny_pure h⟩) htake))
end
end HT
namespace L2
open PySem PySem.Spec PyProof.Rows
noncomputable abbrev TO := St → Hp → (Option Int → Hp → Prop) → Prop
noncomputable def PO (X : Cx) (e : Option Expr) (t : TO) : Prop :=
  ∀ (pins : List (Addr × Obj)) (s : Shared) (σ : St) (H : Hp) (Q : Option Int → Hp → Prop), Inv X pins σ H s → t σ H Q →
    wpAny (model X.prog X.w) X.A (evalPart e X.env) (fun u s' => ∃ o H', Inv X pins σ H' s' ∧ IsPart u o ∧ Q o H') X.xe s
noncomputable def tNoPart : TO := fun _ H Q => Q none H
noncomputable def tPart (t : TE) : TO := fun σ H Q => t σ H fun x H1 => ∃ i, x = .int i ∧ Q (some i) H1
section
variable {X : Cx} {e : Expr} {te : TE} {lo hi : Option Expr} {tl th : TO} {pos p2 : Pos}
theorem po_none : PO X none tNoPart := by
  intro pins s σ H Q I h
  rw [evalPart_none]
  exact wpAny_pure ⟨none, H, I, .none, h⟩
theorem po_some (h : PE X e te) : PO X (some e) (tPart te) := by
  intro pins s σ H Q I hw
  rw [evalPart_some]
  refine thn (h pins s σ H _ I hw) fun u s1 ⟨x, H1, I1, r1, q1⟩ => ?_
  obtain ⟨i, rfl, q⟩ := q1
  obtain ⟨t, rfl⟩ := r1
  exact ⟨some i, H1, I1, .int i t, q⟩
noncomputable def SlR (X : Cx) (r : V → Option Int → Option Int → Hp → VK → Prop) : Prop :=
  ∀ (pins : List (Addr × Obj)) (s : Shared) (σ : St) (H : Hp) (x : V) (v vl vu : Value) (lo hi : Option Int) (sl : Addr) (Q : VK), Inv X pins σ H s → RelV x v → s.heap.IsSliceOf sl vl vu .none → IsPart vl lo → IsPart vu hi → r x lo hi H Q →
    ∃ T id, typeLookup (.type T) "__getitem__" = pure (some (.builtin id)) ∧ s.TypeIs v T ∧ wpAny (model X.prog X.w) X.A (getItem v (.ref sl)) (EP X pins σ Q) X.xe s
noncomputable def tSl (r : V → Option Int → Option Int → Hp → VK → Prop) (te : TE) (tl th : TO) : TE := fun σ H Q => te σ H fun x H1 => tl σ H1 fun l H2 => th σ H2 fun u H3 => r x l u H3 Q
theorem pe_slice {r : V → Option Int → Option Int → Hp → VK → Prop} (hr : SlR X r) (he : PE X e te) (hl : PO X lo tl) (hu : PO X hi th) : PE X (.Subscript e (.Slice lo hi none p2) pos) (tSl r te tl th) := by
  intro pins s σ H Q I h
  refine Subscript_ (thn (he pins s σ H _ I h) fun v s1 ⟨x, H1, I1, r1, q1⟩ => ?_)
  refine wpAny_Slice (thn (hl pins s1 σ H1 _ I1 q1) fun vl s2 ⟨l, H2, I2, pl, q2⟩ => thn (hu pins s2 σ H2 _ I2 q2) fun vu s3 ⟨u, H3, I3, pu, q3⟩ => ?_)
  rw [evalPart_none]
  refine wpAny_pure ?_
  have I4 : Inv X pins σ H3 { s3 with heap := s3.heap.push { cls := .type "slice", data := .fields #[vl, vu, .none] } } := I3.kept (t' := s3.toks) fun b ob q => Heap.get?_push_of_some _ q
  obtain ⟨T, id, hT, ht, hg⟩ := hr pins { s3 with heap := s3.heap.push { cls := .type "slice", data := .fields #[vl, vu, .none] } } σ H3 x v vl vu l u s3.heap.objs.size Q I4 r1 (Heap.IsSliceOf.new ..) pl pu q3
  show wpAny (model X.prog X.w) X.A (subscriptTail e (.Slice lo hi none p2) v (.ref s3.heap.objs.size)) (EP X pins σ Q) X.xe { s3 with heap := s3.heap.push { cls := .type "slice", data := .fields #[vl, vu, .none] } }
  exact tail_any (ops := [.ref s3.heap.objs.size, v]) ht hT hg (by with_unfolding_all rfl)
noncomputable def cutV (xs : List V) (lo hi : Option Int) : List V := (xs.drop (HT.sIx xs.length 0 lo)).take (HT.sIx xs.length xs.length hi - HT.sIx xs.length 0 lo)
theorem cutV_length (xs : List V) (lo hi : Option Int) : (cutV xs lo hi).length ≤ xs.length := by
  unfold cutV
  rw [List.length_take, List.length_drop]
  omega
noncomputable def rSlT (K : PySem.W.Frag) : V → Option Int → Option Int → Hp → VK → Prop := fun x lo hi H Q => ∃ a xs, x = .ref a ∧ SqT K H a xs ∧
  ¬ (HT.sIx xs.length 0 lo = 0 ∧ HT.sIx xs.length xs.length hi = xs.length) ∧ ∀ p, H p = none → Q (.ref p) (upd H p (.tup (cutV xs lo hi)))
theorem sl_tup : SlR X (rSlT X.K) := by
  intro pins s σ H x v vl vu lo hi sl Q I rx hs pl pu h
  obtain ⟨a, xs, rfl, hx, hw, q⟩ := h
  cases rx
  obtain ⟨its, r, ht, hz⟩ := I.tuple hx
  have hlen : its.toArray.size = xs.length := by rw [List.size_toArray]; exact r.length.symm
  refine ⟨"tuple", _, PyProof.Rows.slot_tuple_getitem.lookup, ht.typeIs, ?_⟩
  refine HT.getItem_tuple_cut ht hs pl pu (by rw [hlen]; exact hw) ?_ (by rw [hlen]; exact hz)
  rw [hlen]
  refine ⟨.ref s.heap.objs.size, _, I.laid (t' := s.toks) (o := .tup (cutV xs lo hi)) (fun b ob q => Heap.get?_push_of_some _ q) (Nat.le_refl _) ?_, rfl, q _ (I.hok.fresh (Nat.le_refl _))⟩
  exact ⟨Nat.le_trans (cutV_length xs lo hi) hz, _, (r.drop (HT.sIx xs.length 0 lo)).take (HT.sIx xs.length xs.length hi - HT.sIx xs.length 0 lo), IsTup.new _ _⟩
noncomputable def rCatT (K : PySem.W.Frag) : R2 := fun x y H Q => ∃ a b xs ys, x = .ref a ∧ y = .ref b ∧ SqT K H a xs ∧ SqT K H b ys ∧ xs ≠ [] ∧ xs.length + ys.length ≤ sizeLine ∧
  (ys = [] → Q (.ref a) H) ∧ (ys ≠ [] → ∀ p, H p = none → Q (.ref p) (upd H p (.tup (xs ++ ys))))
theorem Vals.nil_iff {xs : List V} {us : List Value} (r : Vals xs us) : us = [] ↔ xs = [] := by
  cases r with
  | nil => simp
  | cons _ _ => simp
theorem op_catT : OpR X (binaryOp .Add) (rCatT X.K) := by
  intro pins s σ H x y v u Q I rx ry h
  obtain ⟨a, b, xs, ys, rfl, rfl, ha, hb, hx, hz, q1, q2⟩ := h
  cases rx
  cases ry
  obtain ⟨its, r1, p1, _⟩ := I.tuple ha
  obtain ⟨its2, r2, p2, _⟩ := I.tuple hb
  refine HT.cat_tup p1 p2 (fun z => hx (r1.nil_iff.mp z)) (fun z => ⟨.ref a, H, I, rfl, q1 (r2.nil_iff.mp z)⟩) (fun z => ?_) (by rw [← r1.length, ← r2.length]; exact hz)
  refine ⟨.ref s.heap.objs.size, _, I.laid (t' := s.toks) (o := .tup (xs ++ ys)) (fun b ob q => Heap.get?_push_of_some _ q) (Nat.le_refl _) ?_, rfl, q2 (fun w => z (r2.nil_iff.mpr w)) _ (I.hok.fresh (Nat.le_refl _))⟩
  exact ⟨by rw [List.length_append]; exact hz, _, r1.append r2, IsTup.new _ _⟩
end
end L2
namespace L2
open PySem PySem.Spec PyProof.Rows
noncomputable def ixN (n : Nat) (i : Int) : Option Nat := if 0 ≤ i then (if i < n then some i.toNat else none) else if -(n : Int) ≤ i then some (i + n).toNat else none
noncomputable def atI {α : Type} (xs : List α) (i : Int) : Option α := (ixN xs.length i).bind fun j => xs[j]?
theorem ixN_seq {n : Nat} {i : Int} {j : Nat} (h : ixN n i = some j) : seqIndex? i n = some j ∧ j < n ∧ -(n : Int) ≤ i ∧ i < n := by
  unfold ixN at h
  by_cases h0 : 0 ≤ i
  · rw [if_pos h0] at h
    by_cases h1 : i < n
    · rw [if_pos h1] at h
      have e : i.toNat = j := Option.some.inj h
      exact ⟨by rw [seqIndex_of h0 h1, e], by omega, by omega, h1⟩
    · rw [if_neg h1] at h; cases h
  · rw [if_neg h0] at h
    by_cases h1 : -(n : Int) ≤ i
    · rw [if_pos h1] at h
      have e : (i + n).toNat = j := Option.some.inj h
      exact ⟨by rw [seqIndex_neg (by omega) h1, e], by omega, h1, by omega⟩
    · rw [if_neg h1] at h; cases h
theorem atI_get {α : Type} {xs : List α} {i : Int} {v : α} (h : atI xs i = some v) : ∃ j, seqIndex? i xs.length = some j ∧ xs[j]? = some v ∧ j < xs.length ∧ -(xs.length : Int) ≤ i ∧ i < xs.length := by
  unfold atI at h
  cases e : ixN xs.length i with
  | none => rw [e] at h; cases h
  | some j =>
    rw [e] at h
    obtain ⟨h1, h2, h3, h4⟩ := ixN_seq e
    exact ⟨j, h1, h, h2, h3, h4⟩
theorem atI_nat {α : Type} {xs : List α} {j : Nat} {v : α} (h : xs[j]? = some v) : atI xs (j : Int) = some v := by
  have hj : j < xs.length := (List.getElem?_eq_some_iff.mp h).1
  have e : ixN xs.length (j : Int) = some j := by
    unfold ixN
    rw [if_pos (by omega), if_pos (by omega)]; simp
  unfold atI; rw [e]; exact h
noncomputable def PlainIx (b : Expr) : Prop := ∀ o i, subscripted b false o i = operate [o, i] (getItem o i)
noncomputable def IxR (X : Cx) (r : R2) : Prop :=
  ∀ (value slice : Expr) (pins : List (Addr × Obj)) (s : Shared) (σ : St) (H : Hp) (x y : V) (v u : Value) (Q : VK), Inv X pins σ H s → RelV x v → RelV y u → r x y H Q →
    subscripted slice false v u = operate [v, u] (getItem v u) → wpAny (model X.prog X.w) X.A (subscriptTail value slice v u) (EP X pins σ Q) X.xe s
noncomputable def MtR (X : Cx) (id : String) (r : V → List V → Hp → VK → Prop) : Prop :=
  ∀ (pins : List (Addr × Obj)) (s : Shared) (σ : St) (H : Hp) (x : V) (xs : List V) (v : Value) (us : List Value) (Q : VK), Inv X pins σ H s → RelV x v → Vals xs us → r x xs H Q →
    wpAny (model X.prog X.w) X.A (call (.builtin id) (v :: us)) (EP X pins σ Q) X.xe s
section
variable {X : Cx} {a b : Expr} {ta tb : TE} {pos : Pos}
theorem pe_ix {r : R2} (hr : IxR X r) (ha : PE X a ta) (hb : PE X b tb) (hs : PlainIx b) : PE X (.Subscript a b pos) (tOp r ta tb) := by
  intro pins s σ H Q I h
  exact Subscript_ (binT ha hb I h fun v u s2 x y H2 I2 rx ry q => hr a b pins s2 σ H2 x y v u Q I2 rx ry q (hs _ _))
noncomputable def rIxL (K : PySem.W.Frag) : R2 := fun x y H Q => ∃ p xs i v, x = .ref p ∧ y = .int i ∧ SqL K H p xs ∧ atI xs i = some v ∧ Q v H
noncomputable def rIxT (K : PySem.W.Frag) : R2 := fun x y H Q => ∃ p xs i v, x = .ref p ∧ y = .int i ∧ SqT K H p xs ∧ atI xs i = some v ∧ Q v H
noncomputable def rIxS : R2 := fun x y H Q => ∃ z i c, x = .str z ∧ y = .int i ∧ z.length ≤ sizeLine ∧ atI z.cps.toList i = some c ∧ Q (.str ⟨#[c]⟩) H
theorem ix_list : IxR X (rIxL X.K) := by
  intro value slice pins s σ H x y v u Q I rx ry h hs
  obtain ⟨p, xs, i, z, rfl, rfl, hq, he, q⟩ := h
  cases rx
  obtain ⟨t, rfl⟩ := ry
  obtain ⟨its, r, pl, hz⟩ := I.list hq
  obtain ⟨j, h1, h2, h3, h4, h5⟩ := atI_get he
  obtain ⟨w, ew, rw'⟩ := r.get h2
  have hl := r.length
  have hn := line63
  have fin : EP X pins σ Q w s := ⟨z, H, I, rw', q⟩
  by_cases h0 : 0 ≤ i
  · have hj : i.toNat = j := by
      rw [seqIndex_of h0 h5] at h1
      exact Option.some.inj h1
    exact item_listR pl.isList h0 (by omega) (by rw [hj]; simpa using ew) fin hs
  · have hj : (i + (its.toArray.size : Int)).toNat = j := by
      rw [seqIndex_neg (by omega) h4] at h1
      rw [List.size_toArray, ← hl]
      exact Option.some.inj h1
    exact subscriptTail_builtinR (x := w) pl.isList.typeIs slot_list_getitem.lookup
      (wpAny_getItem_list_neg (Q := fun r s' => r = w ∧ EP X pins σ Q r s') pl.isList (by omega) (by rw [List.size_toArray] <;> omega) (by omega) (by rw [hj]; simpa using ew) ⟨rfl, fin⟩) hs
theorem ix_tup : IxR X (rIxT X.K) := by
  intro value slice pins s σ H x y v u Q I rx ry h hs
  obtain ⟨p, xs, i, z, rfl, rfl, hq, he, q⟩ := h
  cases rx
  obtain ⟨t, rfl⟩ := ry
  obtain ⟨its, r, pl, hz⟩ := I.tuple hq
  obtain ⟨j, h1, h2, h3, h4, h5⟩ := atI_get he
  obtain ⟨w, ew, rw'⟩ := r.get h2
  have hl := r.length
  have hn := line63
  have fin : EP X pins σ Q w s := ⟨z, H, I, rw', q⟩
  exact subscriptTail_builtinR (x := w) pl.typeIs slot_tuple_getitem.lookup
    (getItem_tuple (j := j) (Q := fun r s' => r = w ∧ EP X pins σ Q r s') pl (by omega) (by omega) (by rw [List.size_toArray, ← hl]; exact h1) (by simpa using ew) ⟨rfl, fin⟩) hs
theorem ix_str : IxR X rIxS := by
  intro value slice pins s σ H x y v u Q I rx ry h hs
  obtain ⟨z, i, c, rfl, rfl, hz, he, q⟩ := h
  obtain ⟨t, rfl⟩ := rx
  obtain ⟨t', rfl⟩ := ry
  obtain ⟨j, h1, h2, h3, h4, h5⟩ := atI_get he
  have hl : z.cps.toList.length = z.length := by simp [Str.length]
  rw [hl] at h1 h4 h5
  have hn := line63
  exact tail_any (typeIs_str s z t) slot_str_getitem.lookup (getItem_str (c := c) (by
    have e1 : decide (i < -(2 ^ 63 : Int)) = false := decide_eq_false (by omega)
    have e2 : decide (i ≥ 2 ^ 63) = false := decide_eq_false (by omega)
    rw [e1, e2, Bool.or_false]) (by rw [h1]; simpa using h2) ⟨.str ⟨#[c]⟩, H, I.tok _, ⟨_, rfl⟩, q⟩) hs
theorem slice_bounds (lo hi : Option Int) (n : Nat) : (sliceBounds lo hi none n).1 = ((HT.sIx n 0 lo : Nat) : Int) ∧ (sliceBounds lo hi none n).2.1 = ((HT.sIx n n hi : Nat) : Int) ∧ (sliceBounds lo hi none n).2.2 = 1 := by
  refine ⟨?_, ?_, rfl⟩
  · cases lo with
    | none => simp [sliceBounds, HT.sIx]
    | some i =>
      simp only [sliceBounds, HT.sIx, Option.getD_none, show (1 : Int) > 0 by decide, if_true]
      by_cases h : i < 0
      · simp only [h, if_true] <;> omega
      · simp only [h, if_false] <;> omega
  · cases hi with
    | none => simp [sliceBounds, HT.sIx]
    | some i =>
      simp only [sliceBounds, HT.sIx, Option.getD_none, show (1 : Int) > 0 by decide, if_true]
      by_cases h : i < 0
      · simp only [h, if_true] <;> omega
      · simp only [h, if_false] <;> omega
theorem slicePick_cut (its : List Value) (lo hi : Option Int) : slicePick its.toArray lo hi none = ((its.drop (HT.sIx its.length 0 lo)).take (HT.sIx its.length its.length hi - HT.sIx its.length 0 lo)).toArray := by
  obtain ⟨h1, h2, h3⟩ := slice_bounds lo hi its.toArray.size
  unfold slicePick
  rw [h1, h2, h3]
  simp only [sliceRange_one, pick_run, List.size_toArray] <;> rfl
noncomputable def rSlL (K : PySem.W.Frag) : V → Option Int → Option Int → Hp → VK → Prop := fun x lo hi H Q => ∃ a xs, x = .ref a ∧ SqL K H a xs ∧ ∀ p, H p = none → Q (.ref p) (upd H p (.lst (cutV xs lo hi)))
theorem sl_list : SlR X (rSlL X.K) := by
  intro pins s σ H x v vl vu lo hi sl Q I rx hs pl pu h
  obtain ⟨a, xs, rfl, hx, q⟩ := h
  cases rx
  obtain ⟨its, r, ht, hz⟩ := I.list hx
  have hlen := r.length
  refine ⟨"list", _, slot_list_getitem.lookup, ht.isList.typeIs, ?_⟩
  refine wpAny_getItem_list_slice ht.isList hs pl pu .none (by simp) ?_ (by rw [List.size_toArray] <;> omega)
  rw [slicePick_cut, ← hlen]
  refine ⟨.ref s.heap.objs.size, _, I.laid (t' := s.toks) (o := .lst (cutV xs lo hi)) (fun b ob q => Heap.get?_push_of_some _ q) (Nat.le_refl _) ?_, rfl, q _ (I.hok.fresh (Nat.le_refl _))⟩
  exact ⟨Nat.le_trans (cutV_length xs lo hi) hz, _, 0, (r.drop (HT.sIx xs.length 0 lo)).take (HT.sIx xs.length xs.length hi - HT.sIx xs.length 0 lo), Heap.get?_push_size _ rfl⟩
theorem call_len_seq : CallR X (.builtin "len") (fun xs H Q => ∃ p ys, xs = [.ref p] ∧ (SqL X.K H p ys ∨ SqT X.K H p ys) ∧ Q (.int ys.length) H) := by
  intro pins s σ H xs us Q I r h
  obtain ⟨p, ys, rfl, hq, q⟩ := h
  obtain ⟨u, rfl, rx⟩ := vals1 r
  cases rx
  have hn := line63
  rcases hq with hq | hq
  · obtain ⟨its, r', pl, hz⟩ := I.list hq
    have hlen := r'.length
    exact Calls.call_len_list pl.isList (by simp only [List.size_toArray] <;> omega) ⟨.int ys.length, H, I.tok _, ⟨s.toks + 1, by rw [List.size_toArray, hlen]⟩, q⟩
  · obtain ⟨its, r', pl, hz⟩ := I.tuple hq
    have hlen := r'.length
    exact len_tuple pl (by simp only [List.size_toArray] <;> omega) ⟨.int ys.length, H, I.tok _, ⟨s.toks + 1, by rw [List.size_toArray, hlen]⟩, q⟩
theorem call_len_str : CallR X (.builtin "len") (fun xs H Q => ∃ z, xs = [.str z] ∧ z.length ≤ sizeLine ∧ Q (.int z.length) H) := by
  intro pins s σ H xs us Q I r h
  obtain ⟨z, rfl, hz, q⟩ := h
  obtain ⟨u, rfl, t, rfl⟩ := vals1 r
  have hn := line63
  exact len_str (by omega) ⟨.int z.length, H, I.tok _, ⟨_, rfl⟩, q⟩
noncomputable def tyV (K : PySem.W.Frag) (T : String) (x : V) (H : Hp) : Prop := match x with
  | .str _ => T = "str"
  | .int _ => T = "int"
  | .ref p => (T = "list" ∧ ∃ xs, SqL K H p xs) ∨ (T = "tuple" ∧ ∃ o, K.lookup p = some o ∧ o.cls = .type "tuple" ∧ o.dict = none) ∨
      (T = "dict" ∧ ((∃ kvs, H p = some (.dK kvs)) ∨ ∃ kvs, H p = some (.dT kvs))) ∨ (T = "set" ∧ ∃ S n, H p = some (.set S n))
  | _ => False
theorem tyV_is {pins : List (Addr × Obj)} {σ : St} {H : Hp} {s : Shared} {T : String} {x : V} {v : Value} (I : Inv X pins σ H s) (r : RelV x v) (ty : tyV X.K T x H) :
    s.TypeIs v T ∧ ∀ a, v = .ref a → ∃ ob, s.heap.get? a = some ob ∧ ob.dict = none := by
  cases x with
  | str z =>
    obtain ⟨t, rfl⟩ := r
    cases (show T = "str" from ty)
    exact ⟨typeIs_str s z t, fun _ e => nomatch e⟩
  | int i =>
    obtain ⟨t, rfl⟩ := r
    cases (show T = "int" from ty)
    exact ⟨typeIs_int s i t, fun _ e => nomatch e⟩
  | ref p =>
    cases r
    rcases ty with ⟨rfl, xs, hq⟩ | ⟨rfl, o, hk, hc, hd⟩ | ⟨rfl, hk⟩ | ⟨rfl, S, n, hk⟩
    · obtain ⟨its, _, pl, _⟩ := I.list hq
      refine ⟨pl.isList.typeIs, fun a e => ?_⟩
      cases e
      obtain ⟨o, n, e, c, hd, _⟩ := pl
      exact ⟨o, e, hd⟩
    · refine ⟨⟨o, I.kIn p o hk, hc⟩, fun a e => ?_⟩
      cases e
      exact ⟨o, I.kIn _ o hk, hd⟩
    · have z : ∃ o, s.heap.get? p = some o ∧ o.ExactDict := by
        rcases hk with ⟨kvs, hk⟩ | ⟨kvs, hk⟩
        · obtain ⟨_, _, _, _, o, _, _, e, ex, _⟩ := I.hok p _ hk
          exact ⟨o, e, ex⟩
        · obtain ⟨_, _, _, _, o, _, _, e, ex, _⟩ := I.hok p _ hk
          exact ⟨o, e, ex⟩
      obtain ⟨o, e, ex⟩ := z
      refine ⟨⟨o, e, ex.1⟩, fun a e2 => ?_⟩
      cases e2
      exact ⟨o, e, ex.2.1⟩
    · obtain ⟨o, _, _, _, e, ex, _⟩ := I.hok p _ hk
      refine ⟨⟨o, e, ex.1⟩, fun a e2 => ?_⟩
      cases e2
      exact ⟨o, e, ex.2.1⟩
  | _ => exact False.elim ty
noncomputable def tBM0 (K : PySem.W.Frag) (T : String) (r : V → List V → Hp → VK → Prop) (to : TE) : TE := fun σ H Q => to σ H fun x H1 => tyV K T x H1 ∧ r x [] H1 Q
noncomputable def tBM (K : PySem.W.Frag) (T : String) (r : V → List V → Hp → VK → Prop) (to : TE) (t : TA) : TE := fun σ H Q => to σ H fun x H1 => tyV K T x H1 ∧ t σ H1 fun xs H2 => r x xs H2 Q
variable {o e : Expr} {es : List Expr} {to : TE} {t : TA} {name : Str} {apos cpos : Pos} {T id : String} {r : V → List V → Hp → VK → Prop}
theorem pe_bm0 (pa : PlainAttrs T) (slot : Slot T name id) (hty : typeOf (.builtin id) = pure (.type "method_descriptor")) (hm : MtR X id r) (ho : PE X o to)
    (hbase : attributeBase o name X.env (eval o X.env) = eval o X.env := by rfl) (hline : (apos.endLine == cpos.line) = true := by rfl) : PE X (.Call (.Attribute o name apos) [] [] cpos) (tBM0 X.K T r to) := by
  intro pins s σ H Q I h
  refine wpAny_Call_method0_late hbase hline (thn (ho pins s σ H _ I h) fun v s1 ⟨x, H1, I1, r1, ty, q1⟩ => ?_)
  obtain ⟨h1, h2⟩ := tyV_is I1 r1 ty
  exact ⟨T, id, pa, slot, hty, h1, h2, Calls.callWith_builtin rfl (PySem.evalArgs_none (hm pins s1 σ H1 x [] v [] Q I1 r1 .nil q1))⟩
theorem pe_bm (pa : PlainAttrs T) (slot : Slot T name id) (hty : typeOf (.builtin id) = pure (.type "method_descriptor")) (hm : MtR X id r) (ho : PE X o to) (ha : PA X (e :: es) t)
    (hbase : attributeBase o name X.env (eval o X.env) = eval o X.env := by rfl)
    (hfew : ((backTo cpos (starEach (e :: es) X.env)).all (fun x => !x.1) && (backToKw cpos (keywordEach [] X.env)).all (fun x => x.1.isSome)
      && decide ((e :: es).length + ([] : List Keyword).length + (if ([] : List Keyword).isEmpty then 0 else 1) < 30)) = true := by rfl)
    (hline : (apos.endLine == cpos.line) = true := by rfl) (hs : starEach (e :: es) X.env = (false, eval e X.env) :: starEach es X.env := by rfl) (hplain : (backTo cpos (starEach es X.env)).any (·.1) = false := by rfl) :
    PE X (.Call (.Attribute o name apos) (e :: es) [] cpos) (tBM X.K T r to t) := by
  intro pins s σ H Q I h
  refine wpAny_Call_method_late hbase hfew hline rfl (thn (ho pins s σ H _ I h) fun v s1 ⟨x, H1, I1, r1, ty, q1⟩ => ?_)
  obtain ⟨h1, h2⟩ := tyV_is I1 r1 ty
  refine ⟨T, id, pa, slot, hty, h1, h2, ?_⟩
  have hA := ha cpos pins s1 σ H1 _ I1 q1
  rw [hs] at hA ⊢
  refine Calls.callWith_builtin (by show (false || (backTo cpos (starEach es X.env)).any (·.1)) = false; rw [hplain] <;> rfl) (Calls.evalArgs_plain ?_)
  exact thn hA fun us s2 ⟨vs, H2, I2, r2, q2⟩ => hm pins s2 σ H2 x vs v us Q I2 r1 r2 q2
end
end L2
namespace L2
open PySem PySem.Spec PyProof.Rows
noncomputable def MtM (X : Cx) (id : String) (r : V → List V → Hp → VK → Prop) : Prop :=
  ∀ (pins : List (Addr × Obj)) (s : Shared) (σ : St) (H : Hp) (x : V) (xs : List V) (v : Value) (us : List Value) (Q : VK), Inv X pins σ H s → RelV x v → Vals xs us → r x xs H Q →
    wpAny (model X.prog X.w) X.A (call (.builtin id) (v :: us)) (EP X pins σ Q) X.xe s
theorem Vals.one : ∀ {x : V} {us : List Value}, Vals [x] us → ∃ u, us = [u] ∧ RelV x u
  | _, _, .cons r .nil => ⟨_, rfl, r⟩
theorem Vals.zero : ∀ {us : List Value}, Vals [] us → us = []
  | _, .nil => rfl
theorem Vals.dropLast {xs : List V} {us : List Value} (h : Vals xs us) : Vals xs.dropLast us.dropLast := by
  induction h with
  | nil => exact .nil
  | cons r t ih =>
    cases t with
    | nil => exact .nil
    | cons q t' => exact .cons r ih
theorem Vals.eraseIdx : ∀ {xs : List V} {us : List Value} (i : Nat), Vals xs us → Vals (xs.eraseIdx i) (us.eraseIdx i)
  | _, _, _, .nil => .nil
  | _, _, 0, .cons _ t => t
  | _, _, i + 1, .cons r t => .cons r (Vals.eraseIdx i t)
theorem Vals.reverse {xs : List V} {us : List Value} (h : Vals xs us) : Vals xs.reverse us.reverse := by
  induction h with
  | nil => exact .nil
  | cons r t ih => rw [List.reverse_cons, List.reverse_cons]; exact Vals.append ih (.cons r .nil)
theorem erase_last {α : Type} (l : List α) : l.eraseIdx (l.length - 1) = l.dropLast := by
  induction l with
  | nil => rfl
  | cons a r ih =>
    cases r with
    | nil => rfl
    | cons b r =>
      have e : (a :: b :: r).length - 1 = ((b :: r).length - 1) + 1 := by
        have h1 : (a :: b :: r).length = r.length + 2 := rfl
        have h2 : (b :: r).length = r.length + 1 := rfl
        omega
      rw [e, List.eraseIdx_cons_succ, ih]
      all_goals rfl
section
variable {X : Cx} {pins : List (Addr × Obj)} {σ : St} {H : Hp} {s : Shared} {l b : Addr} {xs ys zs : List V}
theorem Inv.lset {its its' : List Value} {n : Nat} {f : Array Value → Array Value} {t' : Nat} (I : Inv X pins σ H s) (hH : H l = some (.lst xs))
    (e : s.heap.get? l = some { cls := .type "list", data := .seq its.toArray n }) (hf : f its.toArray = its'.toArray) (hv : Vals ys its') (hz : ys.length ≤ sizeLine) :
    Inv X pins σ (upd H l (.lst ys)) { s with heap := s.heap.update l (Obj.mapSeq f), toks := t' } := by
  have q := PySem.IsL.update e f
  rw [hf] at q
  refine I.write (x := l) (e := l) (by rw [hH]; exact trivial) (.inl rfl) (fun b' u hb hu => (Heap.get?_update_other s.heap (Obj.mapSeq f) (Ne.symm hb)).trans hu) ⟨_, q⟩ ?_
  exact ⟨hz, its', _, hv, q⟩
theorem Inv.lnew {its : List Value} {t' : Nat} (I : Inv X pins σ H s) (hv : Vals ys its) (hz : ys.length ≤ sizeLine) :
    Inv X pins σ (upd H s.heap.objs.size (.lst ys)) { s with heap := s.heap.push { cls := .type "list", data := .seq its.toArray }, toks := t' } :=
  I.laid (fun _ _ q => Heap.get?_push_of_some _ q) (Nat.le_refl _) ⟨hz, its, 0, hv, Heap.get?_push_size _ rfl⟩
theorem Inv.fresh (I : Inv X pins σ H s) : H s.heap.objs.size = none := I.hok.fresh (Nat.le_refl _)
theorem Inv.lstM (I : Inv X pins σ H s) (hH : H l = some (.lst xs)) : xs.length ≤ sizeLine ∧ ∃ (its : List Value) (n : Nat), Vals xs its ∧ xs.length = its.length ∧ s.heap.get? l = some { cls := .type "list", data := .seq its.toArray n } := by
  obtain ⟨z, its, n, r, e⟩ := I.hok l _ hH
  exact ⟨z, its, n, r, r.length, e⟩
theorem notLongL {n : Nat} (h : n ≤ sizeLine) : Builtin.List.listTooLong n = false := by
  unfold Builtin.List.listTooLong
  exact decide_eq_false (by omega)
end
section
variable {X : Cx}
noncomputable def rAppend : V → List V → Hp → VK → Prop := fun x vs H Q => ∃ l xs y, x = .ref l ∧ vs = [y] ∧ H l = some (.lst xs) ∧ xs.length < sizeLine ∧ Q .non (upd H l (.lst (xs ++ [y])))
theorem mt_append : MtM X "list.append" rAppend := by
  intro pins s σ H x vs v us Q I rx rv h
  obtain ⟨l, xs, y, rfl, rfl, hH, hz, q⟩ := h
  cases rx
  obtain ⟨u, rfl, ru⟩ := rv.one
  obtain ⟨z, its, n, r, hl, e⟩ := I.lstM hH
  refine call_meets F.slot_list_append ⟨_, e, rfl⟩ F.entry_list_append (F.args_list_append_2 _ _) (PySem.list_append l its.toArray n u (by rw [List.size_toArray]; omega)) ⟨e, ?_⟩
  refine ⟨.non, _, I.lset (its' := its ++ [u]) hH e (by simp) (r.append (.cons ru .nil)) ?_, rfl, q⟩
  rw [List.length_append, List.length_singleton]
  omega
noncomputable def rPop : V → List V → Hp → VK → Prop := fun x vs H Q => ∃ l xs y, x = .ref l ∧ vs = [] ∧ H l = some (.lst xs) ∧ xs[xs.length - 1]? = some y ∧ Q y (upd H l (.lst xs.dropLast))
theorem mt_pop : MtM X "list.pop" rPop := by
  intro pins s σ H x vs v us Q I rx rv h
  obtain ⟨l, xs, y, rfl, rfl, hH, hy, q⟩ := h
  cases rx
  have hus := rv.zero
  subst hus
  obtain ⟨z, its, n, r, hl, e⟩ := I.lstM hH
  obtain ⟨u, hu, ru⟩ := r.get hy
  have hy' : its.toArray[its.toArray.size - 1]? = some u := by
    show its.toArray[its.length - 1]? = some u
    rw [← Array.getElem?_toList, ← hl]
    exact hu
  refine call_meets F.slot_list_pop ⟨_, e, rfl⟩ F.entry_list_pop (F.args_list_pop_1 _) (MeetsSeq.list_pop_last l its.toArray n u hy' (by rw [List.size_toArray]; omega)) ⟨e, ?_⟩
  refine ⟨y, _, I.lset (its' := its.dropLast) hH e ?_ r.dropLast ?_, ru, q⟩
  · show its.toArray.eraseIdxIfInBounds (its.toArray.size - 1) = its.dropLast.toArray
    rw [List.size_toArray, List.eraseIdxIfInBounds_toArray, erase_last]
  · rw [List.length_dropLast]
    omega
noncomputable def rClear : V → List V → Hp → VK → Prop := fun x vs H Q => ∃ l xs, x = .ref l ∧ vs = [] ∧ H l = some (.lst xs) ∧ Q .non (upd H l (.lst []))
theorem mt_clear : MtM X "list.clear" rClear := by
  intro pins s σ H x vs v us Q I rx rv h
  obtain ⟨l, xs, rfl, rfl, hH, q⟩ := h
  cases rx
  have hus := rv.zero
  subst hus
  obtain ⟨z, its, n, r, hl, e⟩ := I.lstM hH
  refine call_meets F.slot_list_clear ⟨_, e, rfl⟩ F.entry_list_clear (F.args_list_clear_1 _) (AutoSeq1.list_clear_list_0 l its.toArray n (by rw [List.size_toArray]; omega)) ⟨e, ?_⟩
  exact ⟨.non, _, I.lset (its' := []) (ys := []) hH e rfl .nil (Nat.zero_le _), rfl, q⟩
end
section
variable {prog : Program} {w : World} {A : Around} {E : Value → Shared → Prop} {s : Shared}
end
section
variable {X : Cx}
end
end L2
namespace Att
open PySem PySem.W PySem.Calls PyProof.Rows
theorem ints_of_wellAll {P : Params} {h : Heap} : ∀ (ns : List Int) (vs : List Value), WellAll P h vs (ns.map WData.int) → IntsAre vs ns := by
  intro ns
  induction ns with
  | nil =>
    intro vs w
    rw [List.map_nil] at w
    cases w
    exact .nil
  | cons n ns ih =>
    intro vs w
    rw [List.map_cons] at w
    cases w with
    | cons a b =>
      cases a
      exact .cons _ _ (ih _ b)
theorem script_of {l : OpenLaw} {n : Nat} (hn : l.most = some n) {P : Params} {h : Heap} {args : List WData} {vals : List Value}
    (hpre : l.row.toRowW.claim.pre args = true) (hwl : WellAll P h vals args) :
    ∃ a vs ns, vals = [Value.ref a] ∧ args = [WData.list (ns.map WData.int)] ∧ h.get? a = some { cls := .type "list", data := .seq vs.toArray } ∧ IntsAre vs ns ∧ ns.length ≤ n := by
  have hsh : WShape.hasAll [] args [.list .int] = true := (pre_splitW hpre).1
  have hc : l.pre.holds [] { args := args } = true := (pre_splitW hpre).2
  obtain ⟨d, r, rfl, h1, h2⟩ := hasAllW_cons hsh
  obtain rfl := hasAllW_nil h2
  obtain ⟨xs, rfl, h3⟩ := hasW_list h1
  obtain ⟨ns, rfl⟩ := items_int h3
  have hlen : ns.length ≤ n := by
    unfold OpenLaw.pre at hc
    have h4 : (WTm.not (.lt (.lit (.int (n : Int))) (.len (.arg 0)))).holds [] { args := [.list (ns.map .int)] } = true := by
      have h4 := (holds_andW hc).1
      rw [hn] at h4
      exact h4
    have h5 := condW_of h4 (w_not (w_lt w_lit (w_len_list (w_arg rfl))))
    rw [List.length_map] at h5
    refine Nat.le_of_not_lt fun q => ?_
    have q' : (n : Int) < ((ns.length : Nat) : Int) := by omega
    first
      | (rw [decide_eq_true q'] at h5; exact absurd h5 (by decide))
      | (simp at h5; omega)
  cases hwl with
  | cons w1 w2 =>
    cases w2
    cases w1 with
    | list ho hall => exact ⟨_, _, ns, rfl, rfl, ho, ints_of_wellAll ns _ hall, hlen⟩
theorem post_true (l : OpenLaw) (args : List WData) : l.row.toRowW.claim.post args (.bool true) args = true :=
  postW_of (r := l.row.toRowW) (X := (true == true))
    (show WShape.has [] (.bool true) .bool = true by first | rfl | decide | simp [WShape.has, WShape.arms, WShape.armsAll])
    (show (WTm.eq .res (.lit (.bool true))).value [] { args := args, res := some (.bool true), after := args } = some (.bool (true == true)) from w_eq_bool (w_res rfl) w_lit) rfl
theorem attach_call {l : OpenLaw} {n : Nat} {q : Program} {loose : List Str} {XP : (Str → Option Value) → Heap → Prop} {YP : World → Heap → Prop} {d : DefRec}
    (hn : l.most = some n) (hdf : d.params.defaults = [])
    (call : ∀ (w : World) (s₀ s₁ : Shared) (mg mb : Str → Option Value) (fa : Addr) (o : Obj) (pm cd doc : Value) (a : Addr) (vs : List Value) (ns : List Int),
      Ground q loose [] XP w s₀ mg mb s₁.heap → YP w s₁.heap →
      s₁.heap.get? fa = some o → o.data = .func (docDef d.name d.params d.body d.scope pm cd doc) → s₁.heap.CodeRec cd d.name → mg d.name = some (.ref fa) →
      s₁.heap.get? a = some { cls := .type "list", data := .seq vs.toArray } → IntsAre vs ns → ns.length ≤ n → s₁.gens = #[] →
      codeAny (model l.prog w) callerA (.call (.ref fa) ⟨[.ref a], []⟩) (fun r s' => r = .ok (.ret (.bool true)) ∧ OldK s₁.heap s'.heap ∧ s'.os = s₁.os ∧ AllBare s'.gens) s₁) :
    WalkO q loose XP YP l.row.toRowW d [] (fun f vs => PySem.call f vs) := by
  intro w s₀ s₁ mg mb G Y fa o pm cd doc dV kV ho hd hcd hD hmg hg args vals as hpre hlay hrd hwl hlo
  obtain rfl : dV = .none := Dflts.none hD hdf
  obtain rfl : kV = .none := Dflts.noKw hD
  obtain ⟨a, vs, ns, rfl, rfl, hobj, hints, hlen⟩ := script_of hn hpre hwl
  refine enter_call (codeAny_mono (call w s₀ s₁ mg mb fa o pm cd doc a vs ns G Y ho (fd_plain hd) hcd hmg hobj hints hlen hg) fun r s' hq => ?_)
  obtain ⟨rfl, h2, h3, h4⟩ := hq
  exact ⟨.inl ⟨.bool true, .bool true, [], rfl, fun _ => rfl, .bool true, post_true l _, fun _ => ⟨List.Pairwise.nil, fun _ hm => (nomatch hm)⟩⟩, h2, h3, h4⟩
section
variable {prog : Program} {w : World} {A : Around} {E : Value → Shared → Prop} {s : Shared} {K : Frag}
end
end Att
namespace L2
open PySem PySem.Spec PyProof.Rows
theorem vals_ints : ∀ {vs : List Value} {ns : List Int}, IntsAre vs ns → Vals (ns.map V.int) vs
  | _, _, .nil => .nil
  | _, _, .cons n t h => .cons ⟨t, rfl⟩ (vals_ints h)
noncomputable def Only (H : Hp) : Prop := ∀ b, H b = none ∨ ∃ o xs, H b = some (.frz o (.lst xs))
theorem law_call {P : Program} {w : World} {K : PySem.W.Frag} {mg mb : Str → Option Value} {CX : CXT} {k : Nat} {fa a : Addr} {fd : FuncData} {x : Str} {sp : Sp} {s₁ : Shared} {vs : List Value} {ns : List Int}
    (KX : K.In s₁.heap) (hns : s₁.heap.Ns mainGlobals mg) (hb : s₁.heap.Ns builtinsNs mb) (hbb : ∀ x : Str, x ≠ "__name__" → mb x = bootBuiltins x) (hlim : s₁.heap.NoLimit) (hg : s₁.gens = #[])
    (ha : s₁.heap.get? a = some { cls := .type "list", data := .seq vs.toArray }) (hi : IntsAre vs ns) (hl : ns.length ≤ sizeLine) (hr : Room k callerA)
    (F : ∀ base : Heap, K.In base → base.Ns mainGlobals mg → FnOk P w K mg base CX k fa fd [x] sp) (hbind : ∀ (s : Shared) (u : Value), BindsTo s fd ⟨[u], []⟩ [(x, u)])
    (hsp : ∀ H : Hp, Only H → SqL K H a (ns.map V.int) → sp [.ref a] H (fun v _ => v = .bl true) fun _ _ _ => False)
    (hCX : ∀ H e s', CX [] H s₁ (fun _ _ _ => False) e s' → False) :
    codeAny (model P w) callerA (.call (.ref fa) ⟨[.ref a], []⟩) (fun r s' => r = .ok (.ret (.bool true)) ∧ OldK s₁.heap s'.heap ∧ s'.os = s₁.os ∧ AllBare s'.gens) s₁ := by
  have rv := vals_ints hi
  have lenV := hi.length
  have core : ∀ H : Hp, Only H → SqL K H a (ns.map V.int) → HOk P w H s₁.heap → (∀ b, H b ≠ none → b = a) → (H a ≠ none → K.lookup a = none) →
      codeAny (model P w) callerA (.call (.ref fa) ⟨[.ref a], []⟩) (fun r s' => r = .ok (.ret (.bool true)) ∧ OldK s₁.heap s'.heap ∧ s'.os = s₁.os ∧ AllBare s'.gens) s₁ := by
    intro H hO hS hok hA hK
    have base_of : ∀ {b : Addr} {o : Obj}, s₁.heap.get? b = some o → H b = none → (hidT s₁.heap H).get? b = some o := fun e n => hidT_get e n
    have noA : ∀ {b : Addr} {o : Obj} {es : Array DictEntry} {ep : Nat}, s₁.heap.get? b = some o → o.data = .dict es ep → H b = none := fun {b o es ep} e d => by
      cases q : H b with
      | none => rfl
      | some u =>
        have e' : b = a := hA b (by rw [q]; simp)
        subst e'
        rw [ha] at e; cases e
        have d' : Data.seq vs.toArray _ = Data.dict es ep := d
        cases d'
    have nsK : ∀ {b : Addr} {m : Str → Option Value}, s₁.heap.Ns b m → (hidT s₁.heap H).Ns b m := fun {b m} ⟨o, es, ep, e, d, r⟩ => ⟨o, es, ep, base_of e (noA e d), d, r⟩
    have hKb : K.In (hidT s₁.heap H) := fun b o e => base_of (KX b o e) (by
      cases q : H b with
      | none => rfl
      | some u =>
        have e' : b = a := hA b (by rw [q]; simp)
        subst e'
        rw [hK (by rw [q]; simp)] at e; cases e)
    have hM : Mod K mg (hidT s₁.heap H) := ⟨hKb, nsK hns, ⟨mb, nsK hb, hbb⟩, let ⟨mc, h1, h2⟩ := hlim; ⟨mc, nsK h1, h2⟩⟩
    have e0 : Env0 P w K mg (hidT s₁.heap H) callerA [] s₁ H := ⟨rfl, hM, fun b o e => of_hidT e, Nat.le_of_eq (hidT_size _ _), trivial, fun b hb => absurd (show b ∈ ([] : List Addr) from hb) (by simp), hok, .of_eq hg⟩
    refine codeAny_mono ((F _ hKb (nsK hns)).run callerA [] s₁ H ⟨[.ref a], []⟩ [.ref a] [.ref a] _ _ hr e0 (hbind s₁ (.ref a)) (.cons rfl .nil) (hsp H hO hS)) fun r s' h => ?_
    cases r with
    | error e => exact (hCX H e s' h).elim
    | ok fl =>
      cases fl with
      | next => exact False.elim h
      | brk => exact False.elim h
      | cont => exact False.elim h
      | ret u =>
        obtain ⟨v, H', os, bare, un, hok', r', q⟩ := h
        have q' : v = .bl true := q
        subst q'
        obtain rfl : u = Value.bool true := r'
        refine ⟨rfl, OldK.of_keep fun b o e => ?_, os, bare⟩
        cases q : H b with
        | none => exact un.keep b o e q (by intro z; exact absurd (show b ∈ ([] : List Addr) from z) (by simp)) (by simp)
        | some u =>
          rcases hO b with z | ⟨ob, xs, z⟩
          · rw [q] at z; cases z
          · have z2 := un.frzs b ob _ z
            obtain ⟨e1, _⟩ := hok b _ z
            obtain ⟨e2, _⟩ := hok' b _ z2
            rw [e] at e1; cases e1
            exact e2
  cases hk : K.lookup a with
  | some o =>
    have e := KX a o hk
    rw [ha] at e
    cases e
    refine core (fun _ => none) (fun _ => .inl rfl) (.inr ⟨_, vs.toArray, _, hk, rfl, rfl, rfl, by rw [List.size_toArray, lenV]; exact hl, by simpa using rv⟩) (fun b u z => by have z' : (none : Option HO) = some u := z; cases z') (fun b z => absurd rfl z) fun z => absurd rfl z
  | none =>
    refine core (fun b => if b = a then some (.frz { cls := .type "list", data := .seq vs.toArray } (.lst (ns.map V.int))) else none) (fun b => ?_) (.inl (.inr ⟨{ cls := .type "list", data := .seq vs.toArray }, if_pos rfl⟩)) (fun b u z => ?_) (fun b z => ?_) fun _ => hk
    · by_cases hb : b = a
      · exact .inr ⟨_, _, if_pos hb⟩
      · exact .inl (if_neg hb)
    · by_cases hb : b = a
      · have z' := (if_pos hb).symm.trans z
        cases z'
        subst hb
        exact ⟨ha, by rw [List.length_map]; exact hl, vs, _, rv, ha⟩
      · have z' := (if_neg hb).symm.trans z
        cases z'
    · by_cases hb : b = a
      · exact hb
      · exact absurd (if_neg hb) z
end L2
namespace L2
open PySem PySem.Spec PyProof.Rows
noncomputable abbrev KOf {K : PySem.W.Frag} {h : Heap} (_ : K.In h) : PySem.W.Frag := K
theorem walk_of {l : PySem.W.OpenLaw} {n k : Nat} {q : Program} {loose : List Str} {XP : (Str → Option Value) → Heap → Prop} {YP : World → Heap → Prop} {d : DefRec} {K : Params → PySem.W.Frag} {CX : World → CXT} {sp : World → Sp} {x : Str}
    (hn : l.most = some n) (hn2 : n ≤ sizeLine) (hdf : d.params.defaults = []) (hr : Room k callerA)
    (hY : ∀ (w : World) (h : Heap), YP w h → (K w.params).In h)
    (F : ∀ (w : World) (mg : Str → Option Value) (fa : Addr) (h : Heap), (K w.params).In h → h.Ns mainGlobals mg → mg d.name = some (.ref fa) →
      ∃ fd : FuncData, (∀ (s : Shared) (u : Value), BindsTo s fd ⟨[u], []⟩ [(x, u)]) ∧
        ∀ base : Heap, (K w.params).In base → base.Ns mainGlobals mg → FnOk l.prog w (K w.params) mg base (CX w) k fa fd [x] (sp w))
    (hsp : ∀ (w : World) (H : Hp) (a : Addr) (ns : List Int), ns.length ≤ n → Only H → SqL (K w.params) H a (ns.map V.int) → sp w [.ref a] H (fun v _ => v = .bl true) fun _ _ _ => False)
    (hCX : ∀ (w : World) (H : Hp) (s : Shared) (e : Value) (s' : Shared), CX w [] H s (fun _ _ _ => False) e s' → False) :
    PySem.W.WalkO q loose XP YP l.row.toRowW d [] (fun f vs => PySem.call f vs) := by
  refine Att.attach_call hn hdf fun w s₀ s₁ mg mb fa o pm cd doc a vs ns G Y ho hd hcd hmg hobj hints hlen hg => ?_
  have KX := hY w _ Y
  obtain ⟨fd, hb, hF⟩ := F w mg fa _ KX G.T.g hmg
  exact law_call KX G.T.g G.T.b G.T.builtins G.T.nolimit hg hobj hints (Nat.le_trans hlen hn2) hr hF hb (fun H hO hS => hsp w H a ns hlen hO hS) fun H e s' => hCX w H s₁ e s'
end L2
namespace L2
open PySem PySem.Spec PyProof.Rows
noncomputable def defArgs (s : Stmt) : Arguments := match s with
  | .FunctionDef _ a _ _ _ _ _ _ _ _ => a
  | _ => { posonlyargs := [], args := [], vararg := none, kwonlyargs := [], kw_defaults := [], kwarg := none, defaults := [] }
noncomputable def defBody (s : Stmt) : List Stmt := match s with
  | .FunctionDef _ _ b _ _ _ _ _ _ _ => b
  | _ => []
noncomputable def defScope (s : Stmt) : Scope := match s with
  | .FunctionDef _ _ _ _ _ _ sc _ _ _ => sc
  | _ => { kind := .function, names := [], isGenerator := false, isCoroutine := false }
structure Fun (K : PySem.W.Frag) (x qual : Str) (st : Stmt) (f : Addr) (fd : FuncData) : Prop where
  ex : ∃ (oc : Value) (od : Option Addr) (kV doc pm : Value) (an : Option Addr) (cdv ct : Value) (osl : Array (Option Value)),
    fd = PySem.W.fnOf x qual (defArgs st) (defBody st) (defScope st) .none kV doc pm an cdv ct ∧ K.lookup f = some ⟨oc, od, .func fd, osl⟩ ∧ PySem.W.codeIn K cdv qual = true
  kp : PySem.W.keepIn K (.ref f) = true
section
variable {P : Program} {w : World} {K : PySem.W.Frag} {mg : Str → Option Value} {base : Heap}
theorem Fun.binds {x qual : Str} {st : Stmt} {f : Addr} {fd : FuncData} {ps : List Str} (F : Fun K x qual st f fd)
    (h : ∀ (kV doc pm : Value) (an : Option Addr) (cdv ct : Value) (us : List Value), us.length = ps.length → bindArgs (PySem.W.fnOf x qual (defArgs st) (defBody st) (defScope st) .none kV doc pm an cdv ct) ⟨us, []⟩ = pure (ps.zip us)) : Binds K fd ps [] := by
  obtain ⟨oc, od, kV, doc, pm, an, cdv, ct, osl, rfl, lk, hcd⟩ := F.ex
  exact .all (h kV doc pm an cdv ct)
theorem fun_mk {x qual : Str} {st : Stmt} {f : Addr} {oc : Value} {od an : Option Addr} {osl : Array (Option Value)} {kV doc pm cdv ct : Value} (l : K.lookup f = some ⟨oc, od, .func (PySem.W.fnOf x qual (defArgs st) (defBody st) (defScope st) .none kV doc pm an cdv ct), osl⟩)
    (c : PySem.W.codeIn K cdv qual = true) (k : PySem.W.keepIn K (.ref f) = true) : Fun K x qual st f (PySem.W.fnOf x qual (defArgs st) (defBody st) (defScope st) .none kV doc pm an cdv ct) := ⟨⟨oc, od, kV, doc, pm, an, cdv, ct, osl, rfl, l, c⟩, k⟩
end
section
variable {X : Cx}
end
noncomputable def Same (H H' : Hp) : Prop := ∀ b o, H b = some o → H' b = some o
theorem Same.free {H H' : Hp} (e : Same H H') {l : Addr} (h : H' l = Option.none) : H l = Option.none := by
  cases q : H l with
  | none => rfl
  | some o =>
    rw [e l o q] at h
    cases h
end L2
end
section
set_option Elab.async false
set_option linter.all false
set_option maxRecDepth 100000
namespace L2
open PySem PySem.Spec PyProof.Rows
section
variable {κ : Type} [DecidableEq κ]
noncomputable def valV (kvs : List (κ × V)) (k : κ) : Option V := (kvs.find? fun kv => decide (kv.1 = k)).map (·.2)
noncomputable def putK (kvs : List (κ × V)) (k : κ) (v : V) : List (κ × V) :=
  if (kvs.any fun kv => decide (kv.1 = k)) = true then kvs.map (fun kv => if kv.1 = k then (kv.1, v) else kv) else kvs ++ [(k, v)]
theorem valV_pos {p : κ × V} {r : List (κ × V)} {k : κ} (e : p.1 = k) : valV (p :: r) k = some p.2 := by simp [valV, List.find?_cons, e]
theorem valV_neg {p : κ × V} {r : List (κ × V)} {k : κ} (e : ¬ p.1 = k) : valV (p :: r) k = valV r k := by simp [valV, List.find?_cons, e]
theorem valV_any (k : κ) : ∀ kvs : List (κ × V), (kvs.any fun kv => decide (kv.1 = k)) = (valV kvs k).isSome
  | [] => rfl
  | p :: r => by
    rw [List.any_cons]
    by_cases e : p.1 = k
    · simp only [valV_pos e, decide_eq_true e, Bool.true_or, Option.isSome_some]
    · rw [valV_neg e, decide_eq_false e, Bool.false_or]; exact valV_any k r
theorem length_putK (kvs : List (κ × V)) (k : κ) (v : V) : (putK kvs k v).length ≤ kvs.length + 1 := by
  unfold putK
  split
  · rw [List.length_map]; omega
  · rw [List.length_append, List.length_cons, List.length_nil]; omega
theorem RelO.isSome_eq {o : Option V} {u : Option Value} (r : RelO o u) : o.isSome = u.isSome := by
  cases o with
  | none => cases u with
    | none => rfl
    | some _ => exact (show False from r).elim
  | some _ => cases u with
    | none => exact (show False from r).elim
    | some _ => rfl
theorem RelO.getD {o : Option V} {u : Option Value} {d : V} {d' : Value} (r : RelO o u) (rd : RelV d d') : RelV (o.getD d) (u.getD d') := by
  cases o with
  | none => cases u with
    | none => exact rd
    | some _ => exact (show False from r).elim
  | some _ => cases u with
    | none => exact (show False from r).elim
    | some _ => exact r
theorem KV.val {kvs : List (κ × V)} {vs : List (κ × Value)} (r : KV kvs vs) (k : κ) : RelO (valV kvs k) (valueAt vs k) := by
  unfold KV at r
  induction r with
  | nil => exact True.intro
  | @cons p q ps qs h t ih =>
    obtain ⟨h1, h2⟩ := h
    by_cases e : p.1 = k
    · have e' : q.1 = k := h1.symm.trans e
      have b : valueAt (q :: qs) k = some q.2 := by simp [valueAt, List.find?_cons, e']
      rw [valV_pos e, b]; exact h2
    · have e' : ¬ q.1 = k := fun z => e (h1.trans z)
      have b : valueAt (q :: qs) k = valueAt qs k := by simp [valueAt, List.find?_cons, e']
      rw [valV_neg e, b]; exact ih
theorem KV.any {kvs : List (κ × V)} {vs : List (κ × Value)} (r : KV kvs vs) (k : κ) : (kvs.any fun kv => decide (kv.1 = k)) = vs.any fun kv => decide (kv.1 = k) := by
  unfold KV at r
  induction r with
  | nil => rfl
  | cons h t ih => rw [List.any_cons, List.any_cons, ih, h.1]
theorem KV.repl {kvs : List (κ × V)} {vs : List (κ × Value)} (r : KV kvs vs) (k : κ) {y : V} {u : Value} (ry : RelV y u) :
    KV (kvs.map fun kv => if kv.1 = k then (kv.1, y) else kv) (vs.map fun kv => if kv.1 = k then (kv.1, u) else kv) := by
  unfold KV at r ⊢
  induction r with
  | nil => exact .nil
  | @cons p q ps qs h t ih =>
    rw [List.map_cons, List.map_cons]
    refine .cons ?_ ih
    obtain ⟨h1, h2⟩ := h
    by_cases e : p.1 = k
    · rw [if_pos e, if_pos (h1.symm.trans e)]; exact ⟨h1, ry⟩
    · rw [if_neg e, if_neg (fun z => e (h1.trans z))]; exact ⟨h1, h2⟩
theorem KV.put {kvs : List (κ × V)} {vs : List (κ × Value)} (r : KV kvs vs) (k : κ) {y : V} {u : Value} (ry : RelV y u) : KV (putK kvs k y) (stored vs k u) := by
  unfold putK stored
  rw [r.any k]
  by_cases e : (vs.any fun kv => decide (kv.1 = k)) = true
  · rw [if_pos e, if_pos e]; exact r.repl k ry
  · rw [if_neg e, if_neg e]; exact Paired.snoc r ⟨rfl, ry⟩
theorem KV.length {kvs : List (κ × V)} {vs : List (κ × Value)} (r : KV kvs vs) : kvs.length = vs.length := Paired.length r
end
theorem kV_is {P : Program} {w : World} {k : Key} {u : Value} (r : RelV (kV k) u) : (mixKind P w).is k u = true := by
  cases k with
  | inl i => obtain ⟨t, e⟩ := (show ∃ t, u = Value.int i t from r); subst e; exact mixKind_int P w i t
  | inr x => obtain ⟨t, e⟩ := (show ∃ t, u = Value.str x t from r); subst e; exact mixKind_str P w x t
theorem items_are {P : Program} {w : World} : ∀ {ks : List Key} {us : List Value}, Vals (ks.map kV) us → ItemsAre (mixKind P w) ks us
  | [], _, r => by rw [List.map_nil] at r; cases r; exact .nil
  | k :: ks, _, r => by
    rw [List.map_cons] at r
    cases r with
    | cons h t => exact .cons (kV_is h) (items_are t)
noncomputable abbrev KT (H : Hp) : List (List Key × V) → List (List Key × Addr × Value) → Prop := Paired fun p q => p.1 = q.1 ∧ H q.2.1 = some (.tup (p.1.map kV)) ∧ RelV p.2 q.2.2
theorem KT.val {H : Hp} {kvs : List (List Key × V)} {xs : List (List Key × Addr × Value)} (r : KT H kvs xs) (k : List Key) : RelO (valV kvs k) ((atKey xs k).map (·.2)) := by
  induction r with
  | nil => exact True.intro
  | @cons p q ps qs h t ih =>
    obtain ⟨h1, _, h2⟩ := h
    by_cases e : p.1 = k
    · have e' : q.1 = k := h1.symm.trans e
      have b : atKey (q :: qs) k = some q.2 := by simp [atKey, List.find?_cons, e']
      rw [valV_pos e, b]; exact h2
    · have e' : ¬ q.1 = k := fun z => e (h1.trans z)
      have b : atKey (q :: qs) k = atKey qs k := by simp [atKey, List.find?_cons, e']
      rw [valV_neg e, b]; exact ih
theorem KT.repl {H : Hp} {kvs : List (List Key × V)} {xs : List (List Key × Addr × Value)} (r : KT H kvs xs) (k : List Key) {y : V} {u : Value} (ry : RelV y u) :
    KT H (kvs.map fun kv => if kv.1 = k then (kv.1, y) else kv) (xs.map (putAt k u)) := by
  induction r with
  | nil => exact .nil
  | @cons p q ps qs h t ih =>
    rw [List.map_cons, List.map_cons]
    refine .cons ?_ ih
    obtain ⟨h1, h2, h3⟩ := h
    unfold putAt
    by_cases e : p.1 = k
    · rw [if_pos e, if_pos (h1.symm.trans e)]; exact ⟨h1, h2, ry⟩
    · rw [if_neg e, if_neg (fun z => e (h1.trans z))]; exact ⟨h1, h2, h3⟩
theorem KT.put {H : Hp} {kvs : List (List Key × V)} {xs : List (List Key × Addr × Value)} (r : KT H kvs xs) (k : List Key) {b : Addr} {y : V} {u : Value} (hb : H b = some (.tup (k.map kV))) (ry : RelV y u) :
    KT H (putK kvs k y) (storedH xs k b u) := by
  have e : (kvs.any fun kv => decide (kv.1 = k)) = (atKey xs k).isSome := by
    rw [valV_any, (r.val k).isSome_eq, Option.isSome_map]
  unfold putK storedH
  rw [e]
  by_cases q : (atKey xs k).isSome = true
  · rw [if_pos q, if_pos q]; exact r.repl k ry
  · rw [if_neg q, if_neg q]; exact Paired.snoc r ⟨rfl, hb, ry⟩
theorem KT.keeps {H H' : Hp} {kvs : List (List Key × V)} {xs : List (List Key × Addr × Value)} (r : KT H kvs xs) (ht : ∀ b ys, H b = some (.tup ys) → H' b = some (.tup ys)) : KT H' kvs xs :=
  Paired.mapP r fun _ _ z => ⟨z.1, ht _ _ z.2.1, z.2.2⟩
section
variable {P : Program} {w : World} {H : Hp} {h : Heap} {a : Addr}
theorem rd_of {u : HO} (ok : HOk P w H h) (e : Rd H a u) : ObjOk P w H h a u := e.ok ok
theorem dk_rd {kvs : List (Key × V)} (ok : HOk P w H h) (e : Rd H a (.dK kvs)) : kvs.length ≤ sizeLine ∧ (a == sysModules) = false ∧ ∃ vs, KV kvs vs ∧ h.DictOf (mixKind P w) a vs :=
  show ObjOk P w H h a (.dK kvs) from rd_of ok e
theorem dk_of {kvs : List (Key × V)} (ok : HOk P w H h) (e : H a = some (.dK kvs)) : kvs.length ≤ sizeLine ∧ (a == sysModules) = false ∧ ∃ vs, KV kvs vs ∧ h.DictOf (mixKind P w) a vs := dk_rd ok (.inl e)
theorem key_of {ks : List Key} (ok : HOk P w H h) (e : H a = some (.tup (ks.map kV))) : (tupleKind (mixKind P w)).is h ks a := by
  obtain ⟨_, its, r, o, h1, h2, n, h3⟩ := (show ObjOk P w H h a (.tup (ks.map kV)) from ok a _ e)
  exact ⟨o, its.toArray, n, h1, h2, h3, by simpa using items_are r⟩
theorem dt_rd {kvs : List (List Key × V)} (ok : HOk P w H h) (e : Rd H a (.dT kvs)) : kvs.length ≤ sizeLine ∧ (a == sysModules) = false ∧
    ∃ xs, KT H kvs xs ∧ h.DictOfH (tupleKind (mixKind P w)) a xs := by
  obtain ⟨z, y, xs, r, o, es, ep, h1, h2, h3, h4, h5⟩ := (show ObjOk P w H h a (.dT kvs) from rd_of ok e)
  refine ⟨z, y, xs, r, o, es, ep, h1, h2, h3, h4, fun x hx => ?_, h5⟩
  have all : ∀ {l : List (List Key × V)} {m : List (List Key × Addr × Value)}, KT H l m → ∀ x ∈ m, (tupleKind (mixKind P w)).is h x.1 x.2.1 := by
    intro l m q
    induction q with
    | nil => intro x hx; exact nomatch hx
    | @cons p q ps qs hq t ih =>
      intro x hx
      rcases List.mem_cons.mp hx with e | hx
      · subst e
        exact key_of ok (by rw [← hq.1]; exact hq.2.1)
      · exact ih x hx
  exact all r x hx
theorem dt_of {kvs : List (List Key × V)} (ok : HOk P w H h) (e : H a = some (.dT kvs)) : kvs.length ≤ sizeLine ∧ (a == sysModules) = false ∧
    ∃ xs, KT H kvs xs ∧ h.DictOfH (tupleKind (mixKind P w)) a xs := dt_rd ok (.inl e)
end
noncomputable def DGet (H : Hp) (a : Addr) (y : V) (r : Option V) : Prop :=
  (∃ kvs k, Rd H a (.dK kvs) ∧ y = kV k ∧ r = valV kvs k) ∨ ∃ kvs k b, Rd H a (.dT kvs) ∧ y = .ref b ∧ H b = some (.tup (k.map kV)) ∧ r = valV kvs k
noncomputable def DPut (H : Hp) (a : Addr) (y v : V) (H' : Hp) : Prop :=
  (∃ kvs k, H a = some (.dK kvs) ∧ y = kV k ∧ kvs.length < sizeLine ∧ H' = upd H a (.dK (putK kvs k v))) ∨
  ∃ kvs k b, H a = some (.dT kvs) ∧ y = .ref b ∧ H b = some (.tup (k.map kV)) ∧ kvs.length < sizeLine ∧ H' = upd H a (.dT (putK kvs k v))
theorem DGet.k {H : Hp} {a : Addr} {kvs : List (Key × V)} {k : Key} (e : H a = some (.dK kvs)) : DGet H a (kV k) (valV kvs k) := .inl ⟨kvs, k, .inl e, rfl, rfl⟩
theorem DGet.t {H : Hp} {a b : Addr} {kvs : List (List Key × V)} {k : List Key} (e : H a = some (.dT kvs)) (eb : H b = some (.tup (k.map kV))) : DGet H a (.ref b) (valV kvs k) := .inr ⟨kvs, k, b, .inl e, rfl, eb, rfl⟩
theorem DPut.k {H : Hp} {a : Addr} {kvs : List (Key × V)} {k : Key} {v : V} (e : H a = some (.dK kvs)) (hl : kvs.length < sizeLine) : DPut H a (kV k) v (upd H a (.dK (putK kvs k v))) := .inl ⟨kvs, k, e, rfl, hl, rfl⟩
theorem DPut.t {H : Hp} {a b : Addr} {kvs : List (List Key × V)} {k : List Key} {v : V} (e : H a = some (.dT kvs)) (eb : H b = some (.tup (k.map kV))) (hl : kvs.length < sizeLine) :
    DPut H a (.ref b) v (upd H a (.dT (putK kvs k v))) := .inr ⟨kvs, k, b, e, rfl, eb, hl, rfl⟩
section
variable {X : Cx} {pins : List (Addr × Obj)} {σ : St} {H : Hp} {s : Shared} {a : Addr} {y v : V} {u r : Value} {o : Option V} {A : Around} {E : Value → Shared → Prop}
theorem Inv.big (I : Inv X pins σ H s) : sysModules < s.heap.objs.size := by
  have h : mainGlobals < s.heap.objs.size := (I.mod.glob.keeps I.bk).lt
  exact Nat.lt_trans (by decide) h
theorem d_write {h' : Heap} {t' : Nat} {ob : HO} (I : Inv X pins σ H s) (mu : Mut (H a)) (hs : Heap.SameBut a s.heap h') (he : ∃ q, h'.get? a = some q) (new : ObjOk X.prog X.w (upd H a ob) h' a ob) :
    Inv X pins σ (upd H a ob) { s with heap := h', toks := t' } :=
  I.write (x := a) (e := a) mu (.inl rfl) (fun b q hb z => (hs.2 b hb).trans z) he new
theorem dk_new {P : Program} {w : World} {H' : Hp} {h' : Heap} {kvs : List (Key × V)} {vs : List (Key × Value)} (z : kvs.length ≤ sizeLine) (hd : (a == sysModules) = false) (rel : KV kvs vs) (dd : h'.DictOf (mixKind P w) a vs) :
    ObjOk P w H' h' a (.dK kvs) := ⟨z, hd, vs, rel, dd⟩
theorem d_setItem {H' : Hp} {Q : Unit → Shared → Prop} (hu : A.units + 1 < cLine) (I : Inv X pins σ H s) (g : DPut H a y v H') (ry : RelV y u) (rv : RelV v r) (h : ∀ s', Inv X pins σ H' s' → Q () s') :
    wpAny (model X.prog X.w) A (setItem (.ref a) u r) Q E s := by
  rcases g with ⟨kvs, k, e, ey, l, eH⟩ | ⟨kvs, k, b, e, ey, eb, l, eH⟩
  · subst ey eH
    obtain ⟨z, hd, vs, rel, dd⟩ := dk_of I.hok e
    have hz : vs.length ≤ sizeLine := by rw [← rel.length]; exact z
    have hl : (putK kvs k v).length ≤ sizeLine := by have := length_putK kvs k v; omega
    refine wpAny_setItem_pairs (hsz := hz) (kV_is ry) dd fun h' dd' hs => h _ ?_
    have he : ∃ q, h'.get? a = some q := let ⟨q, _, _, hq, _⟩ := dd'; ⟨q, hq⟩
    exact d_write I (by rw [e]; exact True.intro) hs he (dk_new hl hd (rel.put k rv) dd')
  · subst ey eH
    cases (show u = Value.ref b from ry)
    obtain ⟨z, hd, xs, rel, dd⟩ := dt_of I.hok e
    have hz : xs.length ≤ sizeLine := by rw [← Paired.length rel]; exact z
    have hl : (putK kvs k v).length ≤ sizeLine := by have := length_putK kvs k v; omega
    refine wpAny_setItem_heap (hsz := hz) (tupleKind_room_in1 hu) (key_of I.hok eb) dd fun h' dd' hs => h _ ?_
    obtain ⟨q, es, ep, hq, h2, h3, h4, _, h5⟩ := dd'
    refine d_write I (by rw [e]; exact True.intro) hs ⟨q, hq⟩ ⟨hl, hd, _, (rel.put k eb rv).keeps fun c ys ec => ?_, q, es, ep, hq, h2, h3, h4, h5⟩
    rw [upd_ne (ne_of ec e (fun z => nomatch z))]
    exact ec
end
section
variable {X : Cx} {pins : List (Addr × Obj)} {σ : St} {H : Hp} {s : Shared} {a : Addr} {kvs : List (Key × V)} {k : Key} {u : Value} {A : Around} {E : Value → Shared → Prop}
end
noncomputable def sDPut (td ty tv : TE) : TS := fun D σ H => tv σ H fun v H1 => td σ H1 fun x H2 => ty σ H2 fun y H3 => ∃ a H4, x = .ref a ∧ DPut H3 a y v H4 ∧ D.nx σ H4
section
variable {X : Cx} {o i e value : Expr} {pos pos' tpos : Pos} {td ty tv : TE}
theorem ps_dput (hu : X.A.units + 1 < cLine) (ho : PE X o td) (hi : PE X i ty) (hv : PE X value tv) (hs : swapsWith value (some (.Subscript o i pos')) pos.line X.env = pure false) :
    PS X (.Assign [.Subscript o i pos'] value pos) (sDPut td ty tv) := by
  intro pins s σ H D I h
  refine wpAny_Assign_Subscript (thn (hv pins s σ H _ I h) fun r s1 ⟨v, H1, I1, rv, q1⟩ => thn (ho pins s1 σ H1 _ I1 q1) fun u s2 ⟨x, H2, I2, rx, q2⟩ => thn (hi pins s2 σ H2 _ I2 q2) fun iv s3 ⟨y, H3, I3, ry, a, H4, ex, g, q3⟩ => ?_) hs
  subst ex
  obtain rfl : u = Value.ref a := rx
  exact d_setItem hu I3 g ry rv fun s4 I4 => ⟨σ, H4, I4, q3⟩
end
theorem dk_empty {P : Program} {w : World} {H : Hp} (h : Heap) (hb : sysModules < h.objs.size) : ObjOk P w H (h.push { cls := .type "dict", data := .dict #[] }) h.objs.size (.dK []) :=
  ⟨Nat.zero_le _, beq_eq_false_iff_ne.mpr (Ne.symm (Nat.ne_of_lt hb)), [], .nil, Heap.DictOf.new h⟩
noncomputable def tDNewK : TE := fun _ H Q => ∀ p, H p = none → Q (.ref p) (upd H p (.dK []))
section
variable {X : Cx} {pos : Pos}
theorem pe_dnewK : PE X (.Dict [] [] pos) tDNewK := fun pins s σ H Q I h =>
  wpAny_Dict_empty ⟨.ref s.heap.objs.size, _, I.laid (a := s.heap.objs.size) (o := .dK []) (t' := s.toks) (fun _ _ q => Heap.get?_push_of_some _ q) (Nat.le_refl _) (dk_empty s.heap I.big), rfl, h _ (I.hok.fresh (Nat.le_refl _))⟩
end
structure M1 (X : Cx) (o : Expr) (m : Str) (apos : Pos) (e : Expr) (cpos : Pos) : Prop where
  base : attributeBase o m X.env (eval o X.env) = eval o X.env
  few : ((backTo cpos (starEach [e] X.env)).all (fun x => !x.1) && (backToKw cpos (keywordEach [] X.env)).all (fun x => x.1.isSome)
    && decide (([e] : List Expr).length + ([] : List Keyword).length + (if ([] : List Keyword).isEmpty then 0 else 1) < 30)) = true
  line : (apos.endLine == cpos.line) = true
  trees : backTo cpos (starEach [e] X.env) = [(false, eval e X.env)]
structure M2 (X : Cx) (o : Expr) (m : Str) (apos : Pos) (e f : Expr) (cpos : Pos) : Prop where
  base : attributeBase o m X.env (eval o X.env) = eval o X.env
  few : ((backTo cpos (starEach [e, f] X.env)).all (fun x => !x.1) && (backToKw cpos (keywordEach [] X.env)).all (fun x => x.1.isSome)
    && decide (([e, f] : List Expr).length + ([] : List Keyword).length + (if ([] : List Keyword).isEmpty then 0 else 1) < 30)) = true
  line : (apos.endLine == cpos.line) = true
  trees : backTo cpos (starEach [e, f] X.env) = [(false, eval e X.env), (false, eval f X.env)]
noncomputable def IsD (H : Hp) (a : Addr) : Prop := (∃ kvs, Rd H a (.dK kvs)) ∨ ∃ kvs, Rd H a (.dT kvs)
theorem isD_at {X : Cx} {pins : List (Addr × Obj)} {σ : St} {H : Hp} {s : Shared} {a : Addr} (I : Inv X pins σ H s) (d : IsD H a) :
    s.TypeIs (.ref a) "dict" ∧ (∀ b, Value.ref a = .ref b → ∃ ob, s.heap.get? b = some ob ∧ ob.dict = none) ∧ (a == sysModules) = false := by
  rcases d with ⟨kvs, e⟩ | ⟨kvs, e⟩
  · obtain ⟨_, hd, vs, _, dd⟩ := dk_rd I.hok e
    refine ⟨dd.typeIs, fun b q => ?_, hd⟩
    cases q
    obtain ⟨ob, _, _, h1, h2, _⟩ := dd
    exact ⟨ob, h1, h2.2.1⟩
  · obtain ⟨_, hd, xs, _, dd⟩ := dt_rd I.hok e
    refine ⟨dd.typeIs, fun b q => ?_, hd⟩
    cases q
    obtain ⟨ob, _, _, h1, h2, _⟩ := dd
    exact ⟨ob, h1, h2.2.1⟩
section
variable {X : Cx} {pins : List (Addr × Obj)} {σ : St} {H : Hp} {s : Shared} {a : Addr} {y d : V} {u r : Value} {o : Option V} {A : Around} {E : Value → Shared → Prop}
theorem d_get2 {Q : Value → Shared → Prop} (hu : A.units + 1 < cLine) (I : Inv X pins σ H s) (g : DGet H a y o) (ry : RelV y u) (rd : RelV d r) (h : ∀ w' s', Inv X pins σ H s' → RelV (o.getD d) w' → Q w' s') :
    wpAny (model X.prog X.w) A (call (.builtin "dict.get") [.ref a, u, r]) Q E s := by
  rcases g with ⟨kvs, k, e, ey, l⟩ | ⟨kvs, k, b, e, ey, eb, l⟩
  · subst ey
    obtain ⟨z, hd, vs, rel, dd⟩ := dk_rd I.hok e
    refine call_meetsIn PySem.F.slot_dict_get dd.typeIs PySem.F.entry_dict_get (PySem.F.args_dict_get_3 _ _ _) (meets_dict_get_default (mixKind X.prog X.w) a (kV_is ry) hd r) ⟨_, dd.mapOf, h _ _ (I.tok _) ?_⟩
    rw [l]
    exact (rel.val k).getD rd
  · subst ey
    cases (show u = Value.ref b from ry)
    obtain ⟨z, hd, xs, rel, dd⟩ := dt_rd I.hok e
    refine call_meetsIn PySem.F.slot_dict_get dd.typeIs PySem.F.entry_dict_get (PySem.F.args_dict_get_3 _ _ _) (meetsH_dict_get_default (tupleKind (mixKind X.prog X.w)) a b hd r) ⟨tupleKind_room_in1 hu, k, xs, key_of I.hok eb, dd, h _ _ (I.tok _) ?_⟩
    rw [l]
    exact (rel.val k).getD rd
end
noncomputable def tDGet2 (td ty tx : TE) : TE := fun σ H Q => td σ H fun x H1 => ∃ a, x = .ref a ∧ IsD H1 a ∧ ty σ H1 fun y H2 => tx σ H2 fun z H3 => ∃ o, DGet H3 a y o ∧ Q (o.getD z) H3
section
variable {X : Cx} {o e f : Expr} {apos cpos : Pos} {td ty tx : TE}
theorem pe_dget2 (hu : X.A.units + 1 < cLine) (ho : PE X o td) (he : PE X e ty) (hf : PE X f tx) (m : M2 X o "get" apos e f cpos) : PE X (.Call (.Attribute o "get" apos) [e, f] [] cpos) (tDGet2 td ty tx) := by
  intro pins s σ H Q I h
  refine wpAny_Call_method m.base m.few m.line PySem.F.plainAttrs_dict PySem.F.slot_dict_get PySem.F.type_dict_get (thn (ho pins s σ H _ I h) fun u s1 ⟨x, H1, I1, rx, a, ex, d, q1⟩ => ?_)
  subst ex
  obtain rfl : u = Value.ref a := rx
  obtain ⟨t1, t2, _⟩ := isD_at I1 d
  refine ⟨t1, t2, ?_⟩
  rw [m.trees]
  refine Calls.callWith_builtin rfl (Calls.evalArgs_plain (Calls.spliced_cons (thn (he pins s1 σ H1 _ I1 q1) fun iv s2 ⟨y, H2, I2, ry, q2⟩ =>
    Calls.spliced_cons (thn (hf pins s2 σ H2 _ I2 q2) fun fv s3 ⟨z, H3, I3, rz, ov, g, q3⟩ => Calls.spliced_nil ?_))))
  exact d_get2 hu I3 g ry rz fun w' s4 I4 rw' => ⟨_, H3, I4, rw', q3⟩
end
section
variable {X : Cx} {pins : List (Addr × Obj)} {σ : St} {H : Hp} {s : Shared} {a : Addr} {kvs : List (Key × V)} {A : Around} {E : Value → Shared → Prop}
end
section
variable {X : Cx} {pins : List (Addr × Obj)} {σ : St} {H : Hp} {s : Shared} {a : Addr} {y : V} {u : Value} {A : Around} {E : Value → Shared → Prop}
end
end L2
end
section
set_option Elab.async false
set_option linter.all false
set_option maxRecDepth 100000
namespace L3
open PySem PySem.Spec L2
inductive D where
  | non | bl (b : Bool) | int (i : Int) | str (x : Str) | tup (xs : List D) | con (xs : List D) | obj (n : Nat) | fn (x : Str) | exo (cls : Str) (args : List D)
inductive DO where
  | lst (xs : List D)
  | dead
  | dct (kvs : List (Key × D))
noncomputable abbrev DH := List DO
noncomputable abbrev DS := List (Option D)
inductive XD where
  | mk (cls : Str) (args : List D)
inductive Out (α : Type) where
  | stuck
  | ok (a : α) (G : DH)
  | exn (c : XD) (G : DH)
noncomputable abbrev M (α : Type) := DH → Out α
noncomputable def M.bind {α β : Type} (m : M α) (k : α → M β) : M β := fun G => match m G with
  | .stuck => .stuck
  | .ok a G' => k a G'
  | .exn c G' => .exn c G'
noncomputable def M.ret {α : Type} (a : α) : M α := fun G => .ok a G
noncomputable def M.stop {α : Type} : M α := fun _ => .stuck
noncomputable def SqC (K : PySem.W.Frag) (H : Hp) (a : Addr) (xs : List V) : Prop :=
  (∃ o, H a = some (.frz o (.lst xs))) ∨
    ∃ (o : Obj) (its : Array Value) (n : Nat), K.lookup a = some o ∧ o.cls = .type "list" ∧ o.dict = none ∧ o.data = .seq its n ∧ its.size ≤ sizeLine ∧ Vals xs its.toList
theorem SqC.seq {K : PySem.W.Frag} {H : Hp} {a : Addr} {xs : List V} (h : SqC K H a xs) : SqL K H a xs := by
  rcases h with ⟨o, h⟩ | h
  · exact .inl (.inr ⟨o, h⟩)
  · exact .inr h
noncomputable def excIs (a : Addr) (cv : Value) : Heap → Prop := fun h => ∃ o, h.get? a = some o ∧ o.cls = cv
mutual
noncomputable def Rep (K : PySem.W.Frag) (mg : Str → Option Value) (ρ : List Addr) (H : Hp) : D → V → Prop
  | .non, v => v = .non
  | .bl b, v => v = .bl b
  | .int i, v => v = .int i
  | .str x, v => v = .str x
  | .tup ds, v => ∃ a xs, v = .ref a ∧ SqT K H a xs ∧ Reps K mg ρ H ds xs
  | .con ds, v => ∃ a xs, v = .ref a ∧ SqC K H a xs ∧ Reps K mg ρ H ds xs
  | .obj n, v => ∃ a, v = .ref a ∧ ρ[n]? = some a
  | .fn x, v => ∃ a, v = .ref a ∧ mg x = some (.ref a)
  | .exo c _, v => ∃ a cv, v = .ref a ∧ mg c = some cv ∧ H a = some (.ext (excIs a cv))
noncomputable def Reps (K : PySem.W.Frag) (mg : Str → Option Value) (ρ : List Addr) (H : Hp) : List D → List V → Prop
  | [], vs => vs = []
  | d :: ds, vs => ∃ v r, vs = v :: r ∧ Rep K mg ρ H d v ∧ Reps K mg ρ H ds r
end
structure Fut (K : PySem.W.Frag) (H H' : Hp) (ρ ρ' : List Addr) : Prop where
  tup : ∀ a xs, SqT K H a xs → SqT K H' a xs
  con : ∀ a xs, SqC K H a xs → SqC K H' a xs
  pre : ∃ r, ρ' = ρ ++ r
  ext : ∀ a φ, H a = some (.ext φ) → H' a = some (.ext φ)
section
variable {K : PySem.W.Frag} {mg : Str → Option Value} {H H' H1 H2 : Hp} {ρ ρ' ρ1 ρ2 : List Addr}
theorem Fut.refl : Fut K H H ρ ρ := ⟨fun _ _ h => h, fun _ _ h => h, ⟨[], by simp⟩, fun _ _ h => h⟩
theorem Fut.trans (a : Fut K H H1 ρ ρ1) (b : Fut K H1 H2 ρ1 ρ2) : Fut K H H2 ρ ρ2 := by
  obtain ⟨r1, e1⟩ := a.pre
  obtain ⟨r2, e2⟩ := b.pre
  exact ⟨fun x xs h => b.tup x xs (a.tup x xs h), fun x xs h => b.con x xs (a.con x xs h), ⟨r1 ++ r2, by rw [e2, e1, List.append_assoc]⟩, fun x φ h => b.ext x φ (a.ext x φ h)⟩
theorem Fut.get (f : Fut K H H' ρ ρ') {n : Nat} {a : Addr} (h : ρ[n]? = some a) : ρ'[n]? = some a := by
  obtain ⟨r, e⟩ := f.pre
  rw [e, List.getElem?_append_left (List.getElem?_eq_some_iff.mp h).1]; exact h
mutual
theorem Rep.mono (f : Fut K H H' ρ ρ') : ∀ (d : D) (v : V), Rep K mg ρ H d v → Rep K mg ρ' H' d v
  | .non, v, h => by unfold Rep at h ⊢; exact h
  | .bl b, v, h => by unfold Rep at h ⊢; exact h
  | .int i, v, h => by unfold Rep at h ⊢; exact h
  | .str x, v, h => by unfold Rep at h ⊢; exact h
  | .tup ds, v, h => by
    unfold Rep at h ⊢
    obtain ⟨a, xs, e, s, r⟩ := h
    exact ⟨a, xs, e, f.tup _ _ s, Reps.mono f ds xs r⟩
  | .con ds, v, h => by
    unfold Rep at h ⊢
    obtain ⟨a, xs, e, s, r⟩ := h
    exact ⟨a, xs, e, f.con _ _ s, Reps.mono f ds xs r⟩
  | .obj n, v, h => by
    unfold Rep at h ⊢
    obtain ⟨a, e, r⟩ := h
    exact ⟨a, e, f.get r⟩
  | .fn x, v, h => by unfold Rep at h ⊢; exact h
  | .exo c as, v, h => by
    unfold Rep at h ⊢
    obtain ⟨a, cv, e, m, r⟩ := h
    exact ⟨a, cv, e, m, f.ext _ _ r⟩
theorem Reps.mono (f : Fut K H H' ρ ρ') : ∀ (ds : List D) (vs : List V), Reps K mg ρ H ds vs → Reps K mg ρ' H' ds vs
  | [], vs, h => by unfold Reps at h ⊢; exact h
  | d :: ds, vs, h => by
    unfold Reps at h ⊢
    obtain ⟨v, r, e, h1, h2⟩ := h
    exact ⟨v, r, e, Rep.mono f d v h1, Reps.mono f ds r h2⟩
end
theorem Reps.length : ∀ {ds : List D} {vs : List V}, Reps K mg ρ H ds vs → ds.length = vs.length
  | [], vs, h => by unfold Reps at h; subst h; rfl
  | d :: ds, vs, h => by
    unfold Reps at h
    obtain ⟨v, r, rfl, _, h2⟩ := h
    simp [Reps.length h2]
theorem Reps.nil : Reps K mg ρ H [] [] := by unfold Reps; rfl
theorem Reps.cons {d : D} {v : V} {ds : List D} {vs : List V} (h : Rep K mg ρ H d v) (t : Reps K mg ρ H ds vs) : Reps K mg ρ H (d :: ds) (v :: vs) := by
  unfold Reps; exact ⟨v, vs, rfl, h, t⟩
theorem Reps.get : ∀ {ds : List D} {vs : List V} {i : Nat} {d : D}, Reps K mg ρ H ds vs → ds[i]? = some d → ∃ v, vs[i]? = some v ∧ Rep K mg ρ H d v
  | [], vs, i, d, h, e => by simp at e
  | x :: ds, vs, 0, d, h, e => by
    unfold Reps at h
    obtain ⟨v, r, rfl, h1, _⟩ := h
    simp at e; subst e
    exact ⟨v, rfl, h1⟩
  | x :: ds, vs, i + 1, d, h, e => by
    unfold Reps at h
    obtain ⟨v, r, rfl, _, h2⟩ := h
    obtain ⟨u, e1, e2⟩ := Reps.get (i := i) (d := d) h2 (by simpa using e)
    exact ⟨u, by simpa using e1, e2⟩
theorem Reps.append : ∀ {ds es : List D} {vs us : List V}, Reps K mg ρ H ds vs → Reps K mg ρ H es us → Reps K mg ρ H (ds ++ es) (vs ++ us)
  | [], es, vs, us, h, h' => by unfold Reps at h; subst h; exact h'
  | d :: ds, es, vs, us, h, h' => by
    unfold Reps at h
    obtain ⟨v, r, rfl, h1, h2⟩ := h
    exact .cons h1 (Reps.append h2 h')
theorem Reps.take : ∀ (n : Nat) {ds : List D} {vs : List V}, Reps K mg ρ H ds vs → Reps K mg ρ H (ds.take n) (vs.take n)
  | 0, _, _, _ => by simpa using Reps.nil
  | n + 1, [], vs, h => by unfold Reps at h; subst h; simpa using Reps.nil
  | n + 1, d :: ds, vs, h => by
    unfold Reps at h
    obtain ⟨v, r, rfl, h1, h2⟩ := h
    exact .cons h1 (Reps.take n h2)
theorem Reps.drop : ∀ (n : Nat) {ds : List D} {vs : List V}, Reps K mg ρ H ds vs → Reps K mg ρ H (ds.drop n) (vs.drop n)
  | 0, _, _, h => by simpa using h
  | n + 1, [], vs, h => by unfold Reps at h; subst h; simpa using Reps.nil
  | n + 1, d :: ds, vs, h => by
    unfold Reps at h
    obtain ⟨v, r, rfl, h1, h2⟩ := h
    simpa using Reps.drop n h2
theorem Reps.ints : ∀ (ns : List Int), Reps K mg ρ H (ns.map D.int) (ns.map V.int)
  | [] => .nil
  | n :: ns => .cons (by unfold Rep; rfl) (Reps.ints ns)
end
noncomputable def ORep (K : PySem.W.Frag) (mg : Str → Option Value) (ρ : List Addr) (H : Hp) (a : Addr) : DO → Prop
  | .lst ds => ∃ xs, H a = some (.lst xs) ∧ Reps K mg ρ H ds xs
  | .dead => ∃ o, H a = some o
  | .dct kvs => ∃ xs, H a = some (.dK ((kvs.map (·.1)).zip xs)) ∧ Reps K mg ρ H (kvs.map (·.2)) xs
structure HAb (K : PySem.W.Frag) (mg : Str → Option Value) (H : Hp) (ρ : List Addr) (G : DH) : Prop where
  hl : ρ.length = G.length
  nd : ρ.Nodup
  ob : ∀ (n : Nat) (o : DO), G[n]? = some o → ∃ a, ρ[n]? = some a ∧ ORep K mg ρ H a o
noncomputable def SRep (K : PySem.W.Frag) (mg : Str → Option Value) (H : Hp) (ρ : List Addr) (σ : St) (τ : DS) : Prop :=
  σ.length = τ.length ∧ ∀ (i : Nat) (d : D), τ[i]? = some (some d) → ∃ v, σ[i]? = some (some v) ∧ Rep K mg ρ H d v
structure Ab (K : PySem.W.Frag) (mg : Str → Option Value) (σ : St) (H : Hp) (τ : DS) (ρ : List Addr) (G : DH) : Prop where
  st : SRep K mg H ρ σ τ
  hp : HAb K mg H ρ G
section
variable {K : PySem.W.Frag} {mg : Str → Option Value} {H H' H1 H2 : Hp} {ρ ρ' ρ1 ρ2 : List Addr} {G G' : DH} {σ : L2.St} {τ : DS}
theorem SRep.mono (f : Fut K H H' ρ ρ') (h : SRep K mg H ρ σ τ) : SRep K mg H' ρ' σ τ := ⟨h.1, fun i d e => by
  obtain ⟨v, e1, r⟩ := h.2 i d e
  exact ⟨v, e1, r.mono f⟩⟩
theorem SRep.set {i : Nat} {d : D} {v : V} (h : SRep K mg H ρ σ τ) (r : Rep K mg ρ H d v) : SRep K mg H ρ (σ.set i (some v)) (τ.set i (some d)) := by
  refine ⟨by simp [h.1], fun j e he => ?_⟩
  by_cases hj : i = j
  · subst hj
    rw [List.getElem?_set] at he
    by_cases hi : i < τ.length
    · rw [if_pos rfl, if_pos hi] at he
      cases he
      exact ⟨v, by rw [List.getElem?_set, if_pos rfl, if_pos (by rw [h.1]; exact hi)], r⟩
    · rw [if_pos rfl, if_neg hi] at he
      cases he
  · rw [List.getElem?_set_ne hj] at he
    obtain ⟨u, e1, r1⟩ := h.2 j e he
    exact ⟨u, by rw [List.getElem?_set_ne hj]; exact e1, r1⟩
theorem Ab.fut (ab : Ab K mg σ H τ ρ G) (f : Fut K H H' ρ ρ') (hp : HAb K mg H' ρ' G') : Ab K mg σ H' τ ρ' G' := ⟨ab.st.mono f, hp⟩
theorem HAb.lst {n : Nat} {ds : List D} (h : HAb K mg H ρ G) (e : G[n]? = some (.lst ds)) : ∃ a xs, ρ[n]? = some a ∧ H a = some (.lst xs) ∧ Reps K mg ρ H ds xs := by
  obtain ⟨a, e1, xs, e2, r⟩ := h.ob n _ e
  exact ⟨a, xs, e1, e2, r⟩
theorem HAb.there {n : Nat} {a : Addr} (h : HAb K mg H ρ G) (e : ρ[n]? = some a) : ∃ o, H a = some o := by
  have hn : n < G.length := by rw [← h.hl]; exact (List.getElem?_eq_some_iff.mp e).1
  obtain ⟨a', e1, r⟩ := h.ob n G[n] (List.getElem?_eq_getElem hn)
  rw [e] at e1; cases e1
  cases hg : G[n] with
  | lst xs => rw [hg] at r; obtain ⟨ys, e2, _⟩ := r; exact ⟨_, e2⟩
  | dead => rw [hg] at r; exact r
  | dct kv => rw [hg] at r; obtain ⟨ys, e2, _⟩ := r; exact ⟨_, e2⟩
theorem HAb.not_mem {p : Addr} (h : HAb K mg H ρ G) (hp : H p = none) : p ∉ ρ := fun hm => by
  obtain ⟨n, hn, e⟩ := List.getElem_of_mem hm
  obtain ⟨o, q⟩ := h.there (n := n) (a := p) (by rw [List.getElem?_eq_getElem hn, e])
  rw [hp] at q; cases q
theorem ORep.mono {a : Addr} {o : DO} (f : Fut K H H' ρ ρ') (he : ∀ u, H a = some u → H' a = some u) (h : ORep K mg ρ H a o) : ORep K mg ρ' H' a o := by
  cases o with
  | lst ds =>
    obtain ⟨xs, e, r⟩ := h
    exact ⟨xs, he _ e, r.mono f⟩
  | dead =>
    obtain ⟨o, e⟩ := h
    exact ⟨o, he _ e⟩
  | dct kv =>
    obtain ⟨xs, e, r⟩ := h
    exact ⟨xs, he _ e, r.mono f⟩
theorem fut_new {p : Addr} {o : HO} (hp : H p = none) (ρ : List Addr) : Fut K H (upd H p o) ρ ρ := by
  refine ⟨fun a xs h => ?_, fun a xs h => ?_, ⟨[], by simp⟩, fun a φ h => by rw [upd_ne (ne_of_none h hp)]; exact h⟩
  · rcases h with (h | ⟨q, h⟩) | h
    · exact .inl (.inl (by rw [upd_ne (ne_of_none h hp)]; exact h))
    · exact .inl (.inr ⟨q, by rw [upd_ne (ne_of_none h hp)]; exact h⟩)
    · exact .inr h
  · rcases h with ⟨q, h⟩ | h
    · exact .inl ⟨q, by rw [upd_ne (ne_of_none h hp)]; exact h⟩
    · exact .inr h
theorem fut_set {p : Addr} {xs ys : List V} (hp : H p = some (.lst xs)) (ρ : List Addr) : Fut K H (upd H p (.lst ys)) ρ ρ := by
  refine ⟨fun a zs h => ?_, fun a zs h => ?_, ⟨[], by simp⟩, fun a φ h => by rw [upd_ne (ne_of h hp (by intro z; cases z))]; exact h⟩
  · rcases h with (h | ⟨q, h⟩) | h
    · exact .inl (.inl (by rw [upd_ne (ne_of h hp (by intro z; cases z))]; exact h))
    · exact .inl (.inr ⟨q, by rw [upd_ne (ne_of h hp (by intro z; cases z))]; exact h⟩)
    · exact .inr h
  · rcases h with ⟨q, h⟩ | h
    · exact .inl ⟨q, by rw [upd_ne (ne_of h hp (by intro z; cases z))]; exact h⟩
    · exact .inr h
theorem HAb.new {p : Addr} {o : HO} (h : HAb K mg H ρ G) (hp : H p = none) : HAb K mg (upd H p o) ρ G :=
  ⟨h.hl, h.nd, fun n ob e => by
    obtain ⟨a, e1, r⟩ := h.ob n ob e
    exact ⟨a, e1, r.mono (fut_new hp ρ) fun u q => by rw [upd_ne (ne_of_none q hp)]; exact q⟩⟩
theorem getElem?_concat_self {α : Type} (l : List α) (a : α) : (l ++ [a])[l.length]? = some a := by simp
theorem fut_more (ρ : List Addr) (p : Addr) : Fut K H H ρ (ρ ++ [p]) := ⟨fun _ _ h => h, fun _ _ h => h, ⟨[p], rfl⟩, fun _ _ h => h⟩
theorem HAb.more {p : Addr} {ds : List D} {xs : List V} (h : HAb K mg H ρ G) (hp : H p = none) (r : Reps K mg ρ H ds xs) : HAb K mg (upd H p (.lst xs)) (ρ ++ [p]) (G ++ [.lst ds]) := by
  have f : Fut K H (upd H p (.lst xs)) ρ (ρ ++ [p]) := (fut_new hp ρ).trans (fut_more ρ p)
  refine ⟨by simp [h.hl], ?_, fun n ob e => ?_⟩
  · rw [List.nodup_append]
    refine ⟨h.nd, by simp, fun a ha b hb => ?_⟩
    have e : b = p := by simpa using hb
    subst e
    rintro rfl
    exact h.not_mem hp ha
  · by_cases hn : n < G.length
    · rw [List.getElem?_append_left hn] at e
      obtain ⟨a, e1, r'⟩ := h.ob n ob e
      exact ⟨a, f.get e1, r'.mono f fun u q => by rw [upd_ne (ne_of_none q hp)]; exact q⟩
    · have hl : n < (G ++ [DO.lst ds]).length := (List.getElem?_eq_some_iff.mp e).1
      have hn' : n = G.length := by simp at hl; omega
      subst hn'
      rw [getElem?_concat_self] at e
      cases e
      refine ⟨p, by rw [← h.hl, getElem?_concat_self], xs, upd_same, r.mono f⟩
theorem HAb.put {n : Nat} {a : Addr} {ds es : List D} {xs ys : List V} (h : HAb K mg H ρ G) (hn : ρ[n]? = some a) (ha : H a = some (.lst xs)) (r : Reps K mg ρ H es ys) : HAb K mg (upd H a (.lst ys)) ρ (G.set n (.lst es)) := by
  have f : Fut K H (upd H a (.lst ys)) ρ ρ := fut_set ha ρ
  refine ⟨by simp [h.hl], h.nd, fun m ob e => ?_⟩
  by_cases hm : n = m
  · subst hm
    rw [List.getElem?_set, if_pos rfl] at e
    split at e
    · cases e
      exact ⟨a, hn, ys, upd_same, r.mono f⟩
    · cases e
  · rw [List.getElem?_set_ne hm] at e
    obtain ⟨b, e1, r'⟩ := h.ob m ob e
    have hb : b ≠ a := by
      rintro rfl
      obtain ⟨h1, e1'⟩ := List.getElem?_eq_some_iff.mp hn
      obtain ⟨h2, e2'⟩ := List.getElem?_eq_some_iff.mp e1
      exact hm ((List.getElem_inj h.nd).mp (e1'.trans e2'.symm))
    exact ⟨b, e1, r'.mono f fun u q => by rw [upd_ne hb]; exact q⟩
end
noncomputable abbrev EXK := XD → St → Hp → Prop
section
variable (K : PySem.W.Frag) (mg : Str → Option Value) (EE : EXK)
noncomputable def OkE (H : Hp) (σ : St) (τ : DS) (ρ : List Addr) : Out D → VK → Prop
  | .stuck, _ => False
  | .ok d G', Q => ∀ v H' ρ', Fut K H H' ρ ρ' → Ab K mg σ H' τ ρ' G' → Rep K mg ρ' H' d v → Q v H'
  | .exn c G', _ => ∀ H' ρ', Fut K H H' ρ ρ' → Ab K mg σ H' τ ρ' G' → EE c σ H'
noncomputable def OkT (H : Hp) (σ : St) (τ : DS) (ρ : List Addr) : Out Bool → (Bool → Hp → Prop) → Prop
  | .stuck, _ => False
  | .ok b G', Q => ∀ H' ρ', Fut K H H' ρ ρ' → Ab K mg σ H' τ ρ' G' → Q b H'
  | .exn c G', _ => ∀ H' ρ', Fut K H H' ρ ρ' → Ab K mg σ H' τ ρ' G' → EE c σ H'
noncomputable def OkA (H : Hp) (σ : St) (τ : DS) (ρ : List Addr) : Out (List D) → (List V → Hp → Prop) → Prop
  | .stuck, _ => False
  | .ok ds G', Q => ∀ vs H' ρ', Fut K H H' ρ ρ' → Ab K mg σ H' τ ρ' G' → Reps K mg ρ' H' ds vs → Q vs H'
  | .exn c G', _ => ∀ H' ρ', Fut K H H' ρ ρ' → Ab K mg σ H' τ ρ' G' → EE c σ H'
noncomputable def liftE (m : DS → M D) : TE := fun σ H Q => ∃ τ ρ G, Ab K mg σ H τ ρ G ∧ OkE K mg EE H σ τ ρ (m τ G) Q
noncomputable def liftT (m : DS → M Bool) : TT := fun σ H Q => ∃ τ ρ G, Ab K mg σ H τ ρ G ∧ OkT K mg EE H σ τ ρ (m τ G) Q
noncomputable def liftA (m : DS → M (List D)) : TA := fun σ H Q => ∃ τ ρ G, Ab K mg σ H τ ρ G ∧ OkA K mg EE H σ τ ρ (m τ G) Q
inductive Res where
  | stuck
  | nx (τ : DS) (G : DH)
  | rt (d : D) (G : DH)
  | bk (τ : DS) (G : DH)
  | ct (τ : DS) (G : DH)
  | xn (c : XD) (τ : DS) (G : DH)
noncomputable def OkS (H : Hp) (ρ : List Addr) (Dd : Ends) : Res → Prop
  | .stuck => False
  | .nx τ G => ∀ σ' H' ρ', Fut K H H' ρ ρ' → Ab K mg σ' H' τ ρ' G → Dd.nx σ' H'
  | .bk τ G => ∀ σ' H' ρ', Fut K H H' ρ ρ' → Ab K mg σ' H' τ ρ' G → Dd.bk σ' H'
  | .ct τ G => ∀ σ' H' ρ', Fut K H H' ρ ρ' → Ab K mg σ' H' τ ρ' G → Dd.ct σ' H'
  | .rt d G => ∀ v H' ρ', Fut K H H' ρ ρ' → HAb K mg H' ρ' G → Rep K mg ρ' H' d v → Dd.rt v H'
  | .xn c τ G => ∀ σ' H' ρ', Fut K H H' ρ ρ' → Ab K mg σ' H' τ ρ' G → EE c σ' H'
noncomputable abbrev MS := DS → DH → Res
noncomputable def liftS (m : MS) : TS := fun Dd σ H => ∃ τ ρ G, Ab K mg σ H τ ρ G ∧ OkS K mg EE H ρ Dd (m τ G)
end
section
variable {K : PySem.W.Frag} {mg : Str → Option Value} {EE : EXK} {H H1 : Hp} {σ : L2.St} {τ : DS} {ρ ρ1 : List Addr}
theorem OkE.fut {r : Out D} {Q : VK} (f : Fut K H H1 ρ ρ1) (h : OkE K mg EE H σ τ ρ r Q) : OkE K mg EE H1 σ τ ρ1 r Q := by
  cases r with
  | stuck => exact h
  | ok d G' => exact fun v H' ρ' f' => h v H' ρ' (f.trans f')
  | exn c G' => exact fun H' ρ' f' => h H' ρ' (f.trans f')
theorem OkT.fut {r : Out Bool} {Q : Bool → Hp → Prop} (f : Fut K H H1 ρ ρ1) (h : OkT K mg EE H σ τ ρ r Q) : OkT K mg EE H1 σ τ ρ1 r Q := by
  cases r with
  | stuck => exact h
  | ok d G' => exact fun H' ρ' f' => h H' ρ' (f.trans f')
  | exn c G' => exact fun H' ρ' f' => h H' ρ' (f.trans f')
theorem OkA.fut {r : Out (List D)} {Q : List V → Hp → Prop} (f : Fut K H H1 ρ ρ1) (h : OkA K mg EE H σ τ ρ r Q) : OkA K mg EE H1 σ τ ρ1 r Q := by
  cases r with
  | stuck => exact h
  | ok d G' => exact fun v H' ρ' f' => h v H' ρ' (f.trans f')
  | exn c G' => exact fun H' ρ' f' => h H' ρ' (f.trans f')
theorem OkS.fut {r : Res} {Dd : Ends} (f : Fut K H H1 ρ ρ1) (h : OkS K mg EE H ρ Dd r) : OkS K mg EE H1 ρ1 Dd r := by
  cases r with
  | stuck => exact h
  | nx τ G => exact fun s H' ρ' f' => h s H' ρ' (f.trans f')
  | bk τ G => exact fun s H' ρ' f' => h s H' ρ' (f.trans f')
  | ct τ G => exact fun s H' ρ' f' => h s H' ρ' (f.trans f')
  | rt d G => exact fun s H' ρ' f' => h s H' ρ' (f.trans f')
  | xn c τ G => exact fun s H' ρ' f' => h s H' ρ' (f.trans f')
theorem bindEE {m : DS → M D} {k : DS → D → M D} {Q : VK} (h : liftE K mg EE (fun τ => (m τ).bind (k τ)) σ H Q) :
    liftE K mg EE m σ H fun x H1 => ∃ τ ρ G d, Ab K mg σ H1 τ ρ G ∧ Rep K mg ρ H1 d x ∧ OkE K mg EE H1 σ τ ρ (k τ d G) Q := by
  obtain ⟨τ, ρ, G, ab, ok⟩ := h
  refine ⟨τ, ρ, G, ab, ?_⟩
  dsimp only [M.bind] at ok
  cases e : m τ G with
  | stuck => rw [e] at ok; exact ok
  | exn c G' => rw [e] at ok; exact ok
  | ok d G' => rw [e] at ok; exact fun v H' ρ' f ab' r => ⟨τ, ρ', G', d, ab', r, ok.fut f⟩
theorem bindET {m : DS → M D} {k : DS → D → M Bool} {Q : Bool → Hp → Prop} (h : liftT K mg EE (fun τ => (m τ).bind (k τ)) σ H Q) :
    liftE K mg EE m σ H fun x H1 => ∃ τ ρ G d, Ab K mg σ H1 τ ρ G ∧ Rep K mg ρ H1 d x ∧ OkT K mg EE H1 σ τ ρ (k τ d G) Q := by
  obtain ⟨τ, ρ, G, ab, ok⟩ := h
  refine ⟨τ, ρ, G, ab, ?_⟩
  dsimp only [M.bind] at ok
  cases e : m τ G with
  | stuck => rw [e] at ok; exact ok
  | exn c G' => rw [e] at ok; exact ok
  | ok d G' => rw [e] at ok; exact fun v H' ρ' f ab' r => ⟨τ, ρ', G', d, ab', r, ok.fut f⟩
theorem bindTT {m : DS → M Bool} {k : DS → Bool → M Bool} {Q : Bool → Hp → Prop} (h : liftT K mg EE (fun τ => (m τ).bind (k τ)) σ H Q) :
    liftT K mg EE m σ H fun b H1 => ∃ τ ρ G, Ab K mg σ H1 τ ρ G ∧ OkT K mg EE H1 σ τ ρ (k τ b G) Q := by
  obtain ⟨τ, ρ, G, ab, ok⟩ := h
  refine ⟨τ, ρ, G, ab, ?_⟩
  dsimp only [M.bind] at ok
  cases e : m τ G with
  | stuck => rw [e] at ok; exact ok
  | exn c G' => rw [e] at ok; exact ok
  | ok d G' => rw [e] at ok; exact fun H' ρ' f ab' => ⟨τ, ρ', G', ab', ok.fut f⟩
theorem bindEA {m : DS → M D} {k : DS → D → M (List D)} {Q : List V → Hp → Prop} (h : liftA K mg EE (fun τ => (m τ).bind (k τ)) σ H Q) :
    liftE K mg EE m σ H fun x H1 => ∃ τ ρ G d, Ab K mg σ H1 τ ρ G ∧ Rep K mg ρ H1 d x ∧ OkA K mg EE H1 σ τ ρ (k τ d G) Q := by
  obtain ⟨τ, ρ, G, ab, ok⟩ := h
  refine ⟨τ, ρ, G, ab, ?_⟩
  dsimp only [M.bind] at ok
  cases e : m τ G with
  | stuck => rw [e] at ok; exact ok
  | exn c G' => rw [e] at ok; exact ok
  | ok d G' => rw [e] at ok; exact fun v H' ρ' f ab' r => ⟨τ, ρ', G', d, ab', r, ok.fut f⟩
theorem bindAE {m : DS → M (List D)} {k : DS → List D → M D} {Q : VK} (h : liftE K mg EE (fun τ => (m τ).bind (k τ)) σ H Q) :
    liftA K mg EE m σ H fun x H1 => ∃ τ ρ G d, Ab K mg σ H1 τ ρ G ∧ Reps K mg ρ H1 d x ∧ OkE K mg EE H1 σ τ ρ (k τ d G) Q := by
  obtain ⟨τ, ρ, G, ab, ok⟩ := h
  refine ⟨τ, ρ, G, ab, ?_⟩
  dsimp only [M.bind] at ok
  cases e : m τ G with
  | stuck => rw [e] at ok; exact ok
  | exn c G' => rw [e] at ok; exact ok
  | ok d G' => rw [e] at ok; exact fun v H' ρ' f ab' r => ⟨τ, ρ', G', d, ab', r, ok.fut f⟩
noncomputable def sBind {α : Type} (m : M α) (k : α → DH → Res) (x : XD → DH → Res) : DH → Res := fun G => match m G with
  | .stuck => .stuck
  | .ok a G' => k a G'
  | .exn c G' => x c G'
theorem bindES {m : DS → M D} {k : DS → D → DH → Res} {Dd : Ends} (h : liftS K mg EE (fun τ => sBind (m τ) (k τ) fun c G => .xn c τ G) Dd σ H) :
    liftE K mg EE m σ H fun x H1 => ∃ τ ρ G d, Ab K mg σ H1 τ ρ G ∧ Rep K mg ρ H1 d x ∧ OkS K mg EE H1 ρ Dd (k τ d G) := by
  obtain ⟨τ, ρ, G, ab, ok⟩ := h
  refine ⟨τ, ρ, G, ab, ?_⟩
  dsimp only [sBind] at ok
  cases e : m τ G with
  | stuck => rw [e] at ok; exact ok
  | exn c G' => rw [e] at ok; exact fun H' ρ' f ab' => ok σ H' ρ' f ab'
  | ok d G' => rw [e] at ok; exact fun v H' ρ' f ab' r => ⟨τ, ρ', G', d, ab', r, ok.fut f⟩
theorem bindTS {m : DS → M Bool} {k : DS → Bool → DH → Res} {Dd : Ends} (h : liftS K mg EE (fun τ => sBind (m τ) (k τ) fun c G => .xn c τ G) Dd σ H) :
    liftT K mg EE m σ H fun b H1 => ∃ τ ρ G, Ab K mg σ H1 τ ρ G ∧ OkS K mg EE H1 ρ Dd (k τ b G) := by
  obtain ⟨τ, ρ, G, ab, ok⟩ := h
  refine ⟨τ, ρ, G, ab, ?_⟩
  dsimp only [sBind] at ok
  cases e : m τ G with
  | stuck => rw [e] at ok; exact ok
  | exn c G' => rw [e] at ok; exact fun H' ρ' f ab' => ok σ H' ρ' f ab'
  | ok d G' => rw [e] at ok; exact fun H' ρ' f ab' => ⟨τ, ρ', G', ab', ok.fut f⟩
end
noncomputable def QE (X : Cx) (EE : EXK) (e : Expr) (m : DS → M D) : Prop := PE X e (liftE X.K X.mg EE m)
noncomputable def QT (X : Cx) (EE : EXK) (e : Expr) (m : DS → M Bool) : Prop := PT X e (liftT X.K X.mg EE m)
noncomputable def QW (X : Cx) (EE : EXK) (e : Expr) (m : DS → M Bool) : Prop := PW X e (liftT X.K X.mg EE m)
noncomputable def QA (X : Cx) (EE : EXK) (es : List Expr) (m : DS → M (List D)) : Prop := PA X es (liftA X.K X.mg EE m)
noncomputable def QS (X : Cx) (EE : EXK) (st : Stmt) (m : MS) : Prop := PS X st (liftS X.K X.mg EE m)
noncomputable def QSs (X : Cx) (EE : EXK) (st : List Stmt) (m : MS) : Prop := PSs X st (liftS X.K X.mg EE m)
section
variable {X : Cx}
theorem PE.mono {e : Expr} {t t' : TE} (h : PE X e t) (i : ∀ σ H Q, t' σ H Q → t σ H Q) : PE X e t' := fun pins s σ H Q I q => h pins s σ H Q I (i _ _ _ q)
theorem PT.mono {e : Expr} {t t' : TT} (h : PT X e t) (i : ∀ σ H Q, t' σ H Q → t σ H Q) : PT X e t' := fun pins s σ H Q I q => h pins s σ H Q I (i _ _ _ q)
theorem PA.mono {e : List Expr} {t t' : TA} (h : PA X e t) (i : ∀ σ H Q, t' σ H Q → t σ H Q) : PA X e t' := fun pos pins s σ H Q I q => h pos pins s σ H Q I (i _ _ _ q)
theorem PS.mono {e : Stmt} {t t' : TS} (h : PS X e t) (i : ∀ D σ H, t' D σ H → t D σ H) : PS X e t' := fun pins s σ H D I q => h pins s σ H D I (i _ _ _ q)
theorem PSs.mono {e : List Stmt} {t t' : TS} (h : PSs X e t) (i : ∀ D σ H, t' D σ H → t D σ H) : PSs X e t' := fun pins s σ H D I q => h pins s σ H D I (i _ _ _ q)
end
end L3
end
section
set_option Elab.async false
set_option linter.all false
set_option maxRecDepth 100000
namespace L3
open PySem PySem.Spec L2
section
variable {X : Cx} {EE : EXK} {a b c : Expr} {ma mb mc : DS → M D} {pos : Pos}
noncomputable def eVar (i : Nat) : DS → M D := fun τ G => match τ[i]? with
  | some (some d) => .ok d G
  | _ => .stuck
noncomputable def eC (d : D) : DS → M D := fun _ => M.ret d
theorem qe_var (i : Nat) {x : Str} {pos : Pos} (hN : X.N[i]? = some x := by rfl) (hv : Vis X.env.scope x := by first | exact Or.inl rfl | exact Or.inr (Or.inl rfl) | exact Or.inr (Or.inr rfl)) (hd : (x == ("__debug__" : Str)) = false := by decide)
    (hcd : (x == ("__classdict__" : Str)) = false := by decide) : QE X EE (.Name x pos) (eVar i) := PE.mono (pe_var hN hv hd hcd) fun σ H Q ⟨τ, ρ, G, ab, ok⟩ => by
  unfold eVar at ok
  cases e : τ[i]? with
  | none => rw [e] at ok; exact ok.elim
  | some o =>
    cases o with
    | none => rw [e] at ok; exact ok.elim
    | some d =>
      rw [e] at ok
      obtain ⟨v, e1, r⟩ := ab.st.2 i d e
      exact ⟨v, e1, ok v H ρ .refl ab r⟩
theorem qe_C {d : D} {v : V} {e : Expr} (h : PE X e (tC v)) (r : ∀ ρ H, Rep X.K X.mg ρ H d v) : QE X EE e (eC d) := PE.mono h fun σ H Q ⟨τ, ρ, G, ab, ok⟩ => ok v H ρ .refl ab (r ρ H)
theorem qe_int {i : Int} {j pos} : QE X EE (.Constant (.int i) j pos) (eC (.int i)) := qe_C pe_int fun _ _ => by unfold Rep; rfl
theorem qe_bl {i : Bool} {j pos} : QE X EE (.Constant (.bool i) j pos) (eC (.bl i)) := qe_C pe_bl fun _ _ => by unfold Rep; rfl
theorem qe_str {x j pos} : QE X EE (.Constant (.str x) j pos) (eC (.str x)) := qe_C pe_str fun _ _ => by unfold Rep; rfl
noncomputable def eOp (f : D → D → M D) (ma mb : DS → M D) : DS → M D := fun τ => (ma τ).bind fun x => (mb τ).bind fun y => f x y
noncomputable def OpD (X : Cx) (EE : EXK) (r : R2) (f : D → D → M D) : Prop := ∀ (σ : L2.St) (H : Hp) (τ : DS) (ρ : List Addr) (G : DH) (x y : V) (d e : D) (Q : VK),
  Ab X.K X.mg σ H τ ρ G → Rep X.K X.mg ρ H d x → Rep X.K X.mg ρ H e y → OkE X.K X.mg EE H σ τ ρ (f d e G) Q → r x y H Q
theorem op_lift {f : D → D → M D} {r : R2} (hd : OpD X EE r f) {σ : L2.St} {H : Hp} {Q : VK} (h : liftE X.K X.mg EE (eOp f ma mb) σ H Q) :
    tOp r (liftE X.K X.mg EE ma) (liftE X.K X.mg EE mb) σ H Q := by
  obtain ⟨τ, ρ, G, ab, ok⟩ := bindEE (k := fun τ x => (mb τ).bind fun y => f x y) h
  refine ⟨τ, ρ, G, ab, ?_⟩
  cases e : ma τ G with
  | stuck => rw [e] at ok; exact ok
  | exn c G' => rw [e] at ok; exact ok
  | ok d G' =>
    rw [e] at ok
    intro v H' ρ' f' ab' r'
    obtain ⟨τ2, ρ2, G2, d2, ab2, r2, ok2⟩ := ok v H' ρ' f' ab' r'
    refine ⟨τ2, ρ2, G2, ab2, ?_⟩
    dsimp only [M.bind] at ok2
    cases e2 : mb τ2 G2 with
    | stuck => rw [e2] at ok2; exact ok2
    | exn c G' => rw [e2] at ok2; exact ok2
    | ok d3 G3 =>
      rw [e2] at ok2
      exact fun v3 H3 ρ3 f3 ab3 r3 => hd σ H3 τ2 ρ3 G3 v v3 d2 d3 Q ab3 (r2.mono f3) r3 (ok2.fut f3)
theorem qe_op {op : Operator} {r : R2} {f : D → D → M D} (ho : OpR X (binaryOp op) r) (hd : OpD X EE r f) (ha : QE X EE a ma) (hb : QE X EE b mb) : QE X EE (.BinOp a op b pos) (eOp f ma mb) :=
  PE.mono (pe_op ho ha hb) fun _ _ _ h => op_lift hd h
theorem qe_cmp {op : CmpOp} {r : R2} {f : D → D → M D} (ho : OpR X (compareOp op) r) (hd : OpD X EE r f) (ha : QE X EE a ma) (hb : QE X EE b mb) (hm : behindInMarks op b = false) : QE X EE (.Compare a [op] [b] pos) (eOp f ma mb) :=
  PE.mono (pe_cmpR ho ha hb hm) fun _ _ _ h => op_lift hd h
theorem qe_ix {r : R2} {f : D → D → M D} (ho : IxR X r) (hd : OpD X EE r f) (ha : QE X EE a ma) (hb : QE X EE b mb) (hs : PlainIx b := by intro _ _; rfl) : QE X EE (.Subscript a b pos) (eOp f ma mb) :=
  PE.mono (pe_ix ho ha hb hs) fun _ _ _ h => op_lift hd h
noncomputable def dInt2 (C : Int → Int → Bool) (g : Int → Int → D) : D → D → M D
  | .int i, .int j => if C i j then M.ret (g i j) else M.stop
  | _, _ => M.stop
theorem int2_of {C : Int → Int → Bool} {g : Int → Int → D} {d e : D} {G : DH} {σ : L2.St} {H : Hp} {τ : DS} {ρ : List Addr} {Q : VK} (ok : OkE X.K X.mg EE H σ τ ρ (dInt2 C g d e G) Q) :
    ∃ i j, d = .int i ∧ e = .int j ∧ C i j = true ∧ OkE X.K X.mg EE H σ τ ρ (.ok (g i j) G) Q := by
  cases d <;> cases e <;> try exact ok.elim
  rename_i i j
  dsimp only [dInt2] at ok
  cases hc : C i j with
  | false => rw [hc] at ok; exact ok.elim
  | true => rw [hc] at ok; exact ⟨i, j, rfl, rfl, hc, ok⟩
theorem opD_int {C : Int → Int → Bool} {P : Int → Int → Prop} {g : Int → Int → D} {gv : Int → Int → V} (hC : ∀ i j, C i j = true → P i j) (hg : ∀ i j ρ H, Rep X.K X.mg ρ H (g i j) (gv i j)) : OpD X EE (rI P gv) (dInt2 C g) :=
  fun σ H τ ρ G x y d e Q ab r1 r2 ok => by
    obtain ⟨i, j, rfl, rfl, hc, ok⟩ := int2_of ok
    unfold Rep at r1 r2
    exact ⟨i, j, r1, r2, hC i j hc, ok _ H ρ .refl ab (hg i j ρ H)⟩
theorem opD_int0 {g : Int → Int → D} {gv : Int → Int → V} (hg : ∀ i j ρ H, Rep X.K X.mg ρ H (g i j) (gv i j)) : OpD X EE (rI0 gv) (dInt2 (fun _ _ => true) g) :=
  fun σ H τ ρ G x y d e Q ab r1 r2 ok => by
    obtain ⟨i, j, rfl, rfl, hc, ok⟩ := int2_of ok
    unfold Rep at r1 r2
    exact ⟨i, j, r1, r2, ok _ H ρ .refl ab (hg i j ρ H)⟩
noncomputable abbrev dSub := dInt2 (fun _ _ => true) fun i j => .int (i - j)
noncomputable abbrev dMul := dInt2 (fun i j => (decide (-(2 ^ 64) < i) && decide (i < 2 ^ 64)) || (decide (-(2 ^ 64) < j) && decide (j < 2 ^ 64))) fun i j => .int (i * j)
noncomputable abbrev dFdiv := dInt2 (fun _ j => decide (0 < j) && decide (j < 1073741824)) fun i j => .int (i / j)
noncomputable abbrev dMod := dInt2 (fun _ j => decide (0 < j)) fun i j => .int (i % j)
noncomputable abbrev dPow := dInt2 (fun i j => decide (0 ≤ j) && (decide (j ≤ 1000000) && decide (i.natAbs < 2 ^ 64))) fun i j => .int (i ^ j.toNat)
noncomputable abbrev dLt := dInt2 (fun _ _ => true) fun i j => .bl (decide (i < j))
noncomputable abbrev dGt := dInt2 (fun _ _ => true) fun i j => .bl (decide (j < i))
noncomputable abbrev dGe := dInt2 (fun _ _ => true) fun i j => .bl (decide (j ≤ i))
theorem qe_sub (ha : QE X EE a ma) (hb : QE X EE b mb) : QE X EE (.BinOp a .Sub b pos) (eOp dSub ma mb) := qe_op op_sub (opD_int0 fun _ _ _ _ => by unfold Rep; rfl) ha hb
theorem qe_mul (ha : QE X EE a ma) (hb : QE X EE b mb) : QE X EE (.BinOp a .Mult b pos) (eOp dMul ma mb) := qe_op op_mul (opD_int (fun i j h => by
  simp only [Bool.or_eq_true, Bool.and_eq_true, decide_eq_true_eq] at h; exact h) fun _ _ _ _ => by unfold Rep; rfl) ha hb
theorem qe_fdiv (ha : QE X EE a ma) (hb : QE X EE b mb) : QE X EE (.BinOp a .FloorDiv b pos) (eOp dFdiv ma mb) := qe_op op_fdiv (opD_int (fun i j h => by
  simp only [Bool.and_eq_true, decide_eq_true_eq] at h; exact h) fun _ _ _ _ => by unfold Rep; rfl) ha hb
theorem qe_mod (ha : QE X EE a ma) (hb : QE X EE b mb) : QE X EE (.BinOp a .Mod b pos) (eOp dMod ma mb) := qe_op op_mod (opD_int (fun i j h => of_decide_eq_true h) fun _ _ _ _ => by unfold Rep; rfl) ha hb
theorem qe_pow (ha : QE X EE a ma) (hb : QE X EE b mb) : QE X EE (.BinOp a .Pow b pos) (eOp dPow ma mb) := qe_op op_pow (opD_int (fun i j h => by
  simp only [Bool.and_eq_true, decide_eq_true_eq] at h; exact h) fun _ _ _ _ => by unfold Rep; rfl) ha hb
noncomputable def dNew (ds : List D) : M D := fun G => if ds.length ≤ sizeLine then .ok (.obj G.length) (G ++ [.lst ds]) else .stuck
noncomputable def dTup (ds : List D) : M D := fun G => if ds.length ≤ sizeLine then .ok (.tup ds) G else .stuck
theorem new_ok {σ : L2.St} {H : Hp} {τ : DS} {ρ : List Addr} {G : DH} {ds : List D} {vs : List V} {Q : VK} (ab : Ab X.K X.mg σ H τ ρ G) (r : Reps X.K X.mg ρ H ds vs) (ok : OkE X.K X.mg EE H σ τ ρ (dNew ds G) Q) :
    vs.length ≤ sizeLine ∧ ∀ p, H p = none → Q (.ref p) (upd H p (.lst vs)) := by
  unfold dNew at ok
  split at ok
  · rename_i hl
    rw [r.length] at hl
    refine ⟨hl, fun p hp => ?_⟩
    have f : Fut X.K H (upd H p (.lst vs)) ρ (ρ ++ [p]) := (fut_new hp ρ).trans (fut_more ρ p)
    refine ok (.ref p) _ (ρ ++ [p]) f (ab.fut f (ab.hp.more hp r)) ?_
    unfold Rep
    exact ⟨p, rfl, by rw [← ab.hp.hl, getElem?_concat_self]⟩
  · exact ok.elim
theorem tup_ok {σ : L2.St} {H : Hp} {τ : DS} {ρ : List Addr} {G : DH} {ds : List D} {vs : List V} {Q : VK} (ab : Ab X.K X.mg σ H τ ρ G) (r : Reps X.K X.mg ρ H ds vs) (ok : OkE X.K X.mg EE H σ τ ρ (dTup ds G) Q) :
    vs.length ≤ sizeLine ∧ ∀ p, H p = none → Q (.ref p) (upd H p (.tup vs)) := by
  unfold dTup at ok
  split at ok
  · rename_i hl
    rw [r.length] at hl
    refine ⟨hl, fun p hp => ?_⟩
    have f : Fut X.K H (upd H p (.tup vs)) ρ ρ := fut_new hp ρ
    refine ok (.ref p) _ ρ f (ab.fut f (ab.hp.new hp)) ?_
    unfold Rep
    exact ⟨p, vs, rfl, .of upd_same, r.mono f⟩
  · exact ok.elim
noncomputable def aNil : DS → M (List D) := fun _ => M.ret []
noncomputable def aCons (m : DS → M D) (r : DS → M (List D)) : DS → M (List D) := fun τ => (m τ).bind fun x => (r τ).bind fun xs => M.ret (x :: xs)
theorem qa_nil : QA X EE [] aNil := PA.mono pa_nil fun σ H Q ⟨τ, ρ, G, ab, ok⟩ => ok [] H ρ .refl ab .nil
theorem qa_cons {e : Expr} {es : List Expr} {m : DS → M D} {r : DS → M (List D)} (ha : QE X EE e m) (hr : QA X EE es r) (hs : starEach (e :: es) X.env = (false, eval e X.env) :: starEach es X.env := by rfl) : QA X EE (e :: es) (aCons m r) :=
  PA.mono (pa_cons ha hr hs) fun σ H Q h => by
    obtain ⟨τ, ρ, G, ab, ok⟩ := bindEA (k := fun τ x => (r τ).bind fun xs => M.ret (x :: xs)) h
    refine ⟨τ, ρ, G, ab, ?_⟩
    cases e : m τ G with
    | stuck => rw [e] at ok; exact ok
    | exn c G' => rw [e] at ok; exact ok
    | ok d G' =>
      rw [e] at ok
      intro v H' ρ' f' ab' r'
      obtain ⟨τ2, ρ2, G2, d2, ab2, r2, ok2⟩ := ok v H' ρ' f' ab' r'
      refine ⟨τ2, ρ2, G2, ab2, ?_⟩
      dsimp only [M.bind] at ok2
      cases e2 : r τ2 G2 with
      | stuck => rw [e2] at ok2; exact ok2
      | exn c G' => rw [e2] at ok2; exact ok2
      | ok d3 G3 =>
        rw [e2] at ok2
        exact fun v3 H3 ρ3 f3 ab3 r3 => ok2 (v :: v3) H3 ρ3 f3 ab3 (.cons (r2.mono f3) r3)
noncomputable def eArgs (f : List D → M D) (m : DS → M (List D)) : DS → M D := fun τ => (m τ).bind f
theorem args_lift {m : DS → M (List D)} {f : List D → M D} {r : List V → Hp → VK → Prop} {σ : L2.St} {H : Hp} {Q : VK}
    (hd : ∀ (H : Hp) (τ : DS) (ρ : List Addr) (G : DH) (xs : List V) (ds : List D), Ab X.K X.mg σ H τ ρ G → Reps X.K X.mg ρ H ds xs → OkE X.K X.mg EE H σ τ ρ (f ds G) Q → r xs H Q)
    (h : liftE X.K X.mg EE (eArgs f m) σ H Q) : liftA X.K X.mg EE m σ H fun xs H1 => r xs H1 Q := by
  obtain ⟨τ, ρ, G, ab, ok⟩ := bindAE (k := fun _ => f) h
  refine ⟨τ, ρ, G, ab, ?_⟩
  cases e : m τ G with
  | stuck => rw [e] at ok; exact ok
  | exn c G' => rw [e] at ok; exact ok
  | ok d G' =>
    rw [e] at ok
    intro v H' ρ' f' ab' r'
    obtain ⟨τ2, ρ2, G2, d2, ab2, r2, ok2⟩ := ok v H' ρ' f' ab' r'
    exact hd H' τ2 ρ2 G2 v d2 ab2 r2 ok2
theorem qe_tup {es : List Expr} {m : DS → M (List D)} {x1} (h : QA X EE es m) : QE X EE (.Tuple es x1 pos) (eArgs dTup m) :=
  PE.mono (pe_tup h) fun σ H Q h => args_lift (r := fun xs H1 Q => xs.length ≤ sizeLine ∧ ∀ p, H1 p = none → Q (.ref p) (upd H1 p (.tup xs))) (fun H τ ρ G xs ds ab r ok => tup_ok ab r ok) h
theorem qe_lst {es : List Expr} {m : DS → M (List D)} (h : QA X EE es m) : QE X EE (.List es pos) (eArgs dNew m) :=
  PE.mono (pe_lst h) fun σ H Q h => args_lift (r := fun xs H1 Q => xs.length ≤ sizeLine ∧ ∀ p, H1 p = none → Q (.ref p) (upd H1 p (.lst xs))) (fun H τ ρ G xs ds ab r ok => new_ok ab r ok) h
noncomputable def CallD (X : Cx) (EE : EXK) (r : List V → Hp → VK → Prop) (f : List D → M D) : Prop := ∀ (σ : L2.St) (H : Hp) (τ : DS) (ρ : List Addr) (G : DH) (xs : List V) (ds : List D) (Q : VK),
  Ab X.K X.mg σ H τ ρ G → Reps X.K X.mg ρ H ds xs → OkE X.K X.mg EE H σ τ ρ (f ds G) Q → r xs H Q
theorem qe_callB {x : Str} {p : Pos} {e : Expr} {es : List Expr} {m : DS → M (List D)} {id : String} {r : List V → Hp → VK → Prop} {f : List D → M D} (hc : CallR X (.builtin id) r) (hd : CallD X EE r f) (hm : X.mg x = none) (ha : QA X EE (e :: es) m)
    (hg : Gl X x := by rfl) (hv : bootBuiltins x = some (.builtin id) := by first | rfl | decide) (hn : x ≠ "__name__" := by decide) (hdb : (x == ("__debug__" : Str)) = false := by decide)
    (he : starEach (e :: es) X.env = (false, eval e X.env) :: starEach es X.env := by rfl) (hpl : (backTo pos (starEach es X.env)).any (·.1) = false := by rfl) : QE X EE (.Call (.Name x p) (e :: es) [] pos) (eArgs f m) :=
  PE.mono (pe_callB hc hg hm hv ha hn hdb he hpl) fun σ H Q h => args_lift (r := r) (fun H τ ρ G xs ds ab r ok => hd σ H τ ρ G xs ds Q ab r ok) h
theorem qe_callTy {x : Str} {p : Pos} {e : Expr} {es : List Expr} {m : DS → M (List D)} {T : String} {r : List V → Hp → VK → Prop} {f : List D → M D} (hc : CallR X (.type T) r) (hd : CallD X EE r f) (hm : X.mg x = none) (ha : QA X EE (e :: es) m)
    (hg : Gl X x := by rfl) (hv : bootBuiltins x = some (.type T) := by first | rfl | decide) (hn : x ≠ "__name__" := by decide) (hdb : (x == ("__debug__" : Str)) = false := by decide)
    (he : starEach (e :: es) X.env = (false, eval e X.env) :: starEach es X.env := by rfl) (hpl : (backTo pos (starEach es X.env)).any (·.1) = false := by rfl) : QE X EE (.Call (.Name x p) (e :: es) [] pos) (eArgs f m) :=
  PE.mono (pe_callTy hc hg hm hv ha hn hdb he hpl) fun σ H Q h => args_lift (r := r) (fun H τ ρ G xs ds ab r ok => hd σ H τ ρ G xs ds Q ab r ok) h
noncomputable def tTruth (f : D → M Bool) (m : DS → M D) : DS → M Bool := fun τ => (m τ).bind f
noncomputable def dTru : D → M Bool
  | .non => M.ret false
  | .bl b => M.ret b
  | .int i => M.ret (i != 0)
  | .str y => if y.length ≤ sizeLine then M.ret ((y.length : Int) != 0) else M.stop
  | .tup xs => M.ret (!xs.isEmpty)
  | .con xs => M.ret (!xs.isEmpty)
  | .obj n => fun G => match G[n]? with
    | some (.lst xs) => .ok (!xs.isEmpty) G
    | _ => .stuck
  | .fn _ => M.stop
  | .exo _ _ => M.stop
theorem isEmpty_reps {K : PySem.W.Frag} {mg : Str → Option Value} {ρ : List Addr} {H : Hp} {ds : List D} {vs : List V} (r : Reps K mg ρ H ds vs) : (!vs.isEmpty) = !ds.isEmpty := by
  have := r.length
  cases ds <;> cases vs <;> first | rfl | (simp at this)
theorem tru_lift {m : DS → M D} {σ : L2.St} {H : Hp} {Q : Bool → Hp → Prop} (h : liftT X.K X.mg EE (tTruth dTru m) σ H Q) :
    liftE X.K X.mg EE m σ H fun x H1 => ∃ k, TruV X.K x H1 k ∧ Q k H1 := by
  obtain ⟨τ, ρ, G, ab, ok⟩ := bindET (k := fun _ => dTru) h
  refine ⟨τ, ρ, G, ab, ?_⟩
  cases e : m τ G with
  | stuck => rw [e] at ok; exact ok
  | exn c G' => rw [e] at ok; exact ok
  | ok d G' =>
    rw [e] at ok
    intro v H' ρ' f' ab' r'
    obtain ⟨τ2, ρ2, G2, d2, ab2, r2, ok2⟩ := ok v H' ρ' f' ab' r'
    cases d2 with
    | non => unfold Rep at r2; subst r2; exact ⟨false, rfl, ok2 H' ρ2 .refl ab2⟩
    | bl b => unfold Rep at r2; subst r2; exact ⟨b, rfl, ok2 H' ρ2 .refl ab2⟩
    | int i => unfold Rep at r2; subst r2; exact ⟨_, rfl, ok2 H' ρ2 .refl ab2⟩
    | str y =>
      unfold Rep at r2; subst r2
      dsimp only [dTru] at ok2
      split at ok2
      · rename_i hl; exact ⟨_, ⟨hl, rfl⟩, ok2 H' ρ2 .refl ab2⟩
      · exact ok2.elim
    | tup xs =>
      unfold Rep at r2
      obtain ⟨p, vs, rfl, sq, rs⟩ := r2
      exact ⟨!vs.isEmpty, .inr (.inl ⟨vs, sq, rfl⟩), by rw [isEmpty_reps rs]; exact ok2 H' ρ2 .refl ab2⟩
    | con xs =>
      unfold Rep at r2
      obtain ⟨p, vs, rfl, sq, rs⟩ := r2
      exact ⟨!vs.isEmpty, .inl ⟨vs, sq.seq, rfl⟩, by rw [isEmpty_reps rs]; exact ok2 H' ρ2 .refl ab2⟩
    | obj n =>
      unfold Rep at r2
      obtain ⟨p, rfl, e1⟩ := r2
      dsimp only [dTru] at ok2
      cases q : G2[n]? with
      | none => rw [q] at ok2; exact ok2.elim
      | some o =>
        cases o with
        | dead => first | (rw [q] at ok; exact ok.elim) | (rw [q] at ok2; exact ok2.elim) | (rw [q] at e; cases e; done) | (rw [g] at ok; exact ok.elim) | (rw [g] at q; cases q; done) | (rw [g] at h; cases h; done) | (rw [g2] at ok; exact ok.elim) | (rw [g1, g2] at ok; exact ok.elim) | (rw [q1] at ok; exact ok.elim) | exact ok.elim
        | dct kv => first | (rw [q] at ok; exact ok.elim) | (rw [q] at ok2; exact ok2.elim) | (rw [q] at e; cases e; done) | (rw [g] at ok; exact ok.elim) | (rw [g] at q; cases q; done) | (rw [g] at h; cases h; done) | (rw [g2] at ok; exact ok.elim) | (rw [g1, g2] at ok; exact ok.elim) | (rw [q1] at ok; exact ok.elim) | exact ok.elim
        | lst xs =>
          rw [q] at ok2
          obtain ⟨p', vs, e2, hp, rs⟩ := ab2.hp.lst q
          rw [e1] at e2; cases e2
          exact ⟨!vs.isEmpty, .inl ⟨vs, .of hp, rfl⟩, by rw [isEmpty_reps rs]; exact ok2 H' ρ2 .refl ab2⟩
    | fn x => exact ok2.elim
    | exo c as => exact ok2.elim
theorem qt_tru (ha : QE X EE a ma) (he : ∀ whole, isTrue a X.env whole = (do let v ← whole; standAt a.pos; holding [v] (truthy v)) := by intro _; rfl) : QT X EE a (tTruth dTru ma) :=
  PT.mono (pt_truth ha he) fun σ H Q h => tru_lift h
end
end L3
end
section
set_option Elab.async false
set_option linter.all false
set_option maxRecDepth 100000
namespace L3
open PySem PySem.Spec L2
noncomputable def optMap {α β : Type} (f : α → Option β) : List α → Option (List β)
  | [] => some []
  | a :: r => match f a, optMap f r with
    | some b, some bs => some (b :: bs)
    | _, _ => none
noncomputable def toP (G : DH) : Nat → D → Option PyData
  | 0, _ => none
  | _ + 1, .non => some .none
  | _ + 1, .bl b => some (.bool b)
  | _ + 1, .int i => some (.int i)
  | _ + 1, .str x => some (.str x)
  | n + 1, .tup ds => (optMap (toP G n) ds).map .tuple
  | n + 1, .con ds => (optMap (toP G n) ds).map .list
  | n + 1, .obj k => match G[k]? with
    | some (.lst ds) => (optMap (toP G n) ds).map .list
    | _ => none
  | _ + 1, .fn _ => none
  | _ + 1, .exo _ _ => none
section
variable {X : Cx} {EE : EXK} {pins : List (Addr × Obj)} {σ : L2.St} {H : Hp} {s : Shared} {ρ : List Addr} {G : DH}
theorem readsAll {f : D → Option PyData} (hf : ∀ (d : D) (x : V) (u : Value) (p : PyData), Rep X.K X.mg ρ H d x → RelV x u → f d = some p → ∃ as, Reads s.heap u p as) :
    ∀ (ds : List D) (xs : List V) (us : List Value) (ps : List PyData), Reps X.K X.mg ρ H ds xs → Vals xs us → optMap f ds = some ps → ∃ as, ReadsAll s.heap us ps as
  | [], xs, us, ps, r, v, e => by
    unfold Reps at r; subst r
    cases v; cases e
    exact ⟨[], .nil⟩
  | d :: ds, xs, us, ps, r, v, e => by
    unfold Reps at r
    obtain ⟨x, r', rfl, h1, h2⟩ := r
    cases v with
    | cons v1 v2 =>
    unfold optMap at e
    cases e1 : f d with
    | none => rw [e1] at e; cases e
    | some p =>
      cases e2 : optMap f ds with
      | none => rw [e1, e2] at e; cases e
      | some qs =>
        rw [e1, e2] at e
        cases e
        obtain ⟨as, a1⟩ := hf d x _ p h1 v1 e1
        obtain ⟨bs, a2⟩ := readsAll hf ds r' _ qs h2 v2 e2
        exact ⟨as ++ bs, .cons a1 a2⟩
theorem reads_of (I : Inv X pins σ H s) (hp : HAb X.K X.mg H ρ G) : ∀ (n : Nat) (d : D) (x : V) (u : Value) (p : PyData), Rep X.K X.mg ρ H d x → RelV x u → toP G n d = some p → ∃ as, Reads s.heap u p as
  | 0, _, _, _, _, _, _, e => nomatch e
  | n + 1, .non, x, u, p, r, v, e => by unfold Rep at r; subst r; cases v; cases e; exact ⟨_, .none⟩
  | n + 1, .bl b, x, u, p, r, v, e => by unfold Rep at r; subst r; cases v; cases e; exact ⟨_, .bool b⟩
  | n + 1, .int i, x, u, p, r, v, e => by unfold Rep at r; subst r; obtain ⟨t, rfl⟩ := v; cases e; exact ⟨_, .int i t⟩
  | n + 1, .str y, x, u, p, r, v, e => by unfold Rep at r; subst r; obtain ⟨t, rfl⟩ := v; cases e; exact ⟨_, .str y t⟩
  | n + 1, .tup ds, x, u, p, r, v, e => by
    unfold Rep at r
    obtain ⟨a, xs, rfl, sq, rs⟩ := r
    cases v
    obtain ⟨its, vs, ⟨o, e1, e2, k, e3⟩, _⟩ := I.tuple sq
    unfold toP at e
    cases q : optMap (toP G n) ds with
    | none => rw [q] at e; cases e
    | some ps =>
      rw [q] at e; cases e
      obtain ⟨as, ra⟩ := readsAll (fun d x u p => reads_of I hp n d x u p) ds xs its ps rs vs q
      exact ⟨as, .tuple e1 e2 e3 (by simpa using ra)⟩
  | n + 1, .con ds, x, u, p, r, v, e => by
    unfold Rep at r
    obtain ⟨a, xs, rfl, sq, rs⟩ := r
    cases v
    obtain ⟨its, vs, ⟨o, k, e1, e2, e3, e4⟩, _⟩ := I.list sq.seq
    unfold toP at e
    cases q : optMap (toP G n) ds with
    | none => rw [q] at e; cases e
    | some ps =>
      rw [q] at e; cases e
      obtain ⟨as, ra⟩ := readsAll (fun d x u p => reads_of I hp n d x u p) ds xs its ps rs vs q
      exact ⟨_, .list e1 e2 e4 (by simpa using ra)⟩
  | n + 1, .obj k, x, u, p, r, v, e => by
    unfold Rep at r
    obtain ⟨a, rfl, e0⟩ := r
    cases v
    dsimp only [toP] at e
    cases q : G[k]? with
    | none => rw [q] at e; cases e
    | some o =>
      cases o with
      | dead => first | (rw [q] at ok; exact ok.elim) | (rw [q] at ok2; exact ok2.elim) | (rw [q] at e; cases e; done) | (rw [g] at ok; exact ok.elim) | (rw [g] at q; cases q; done) | (rw [g] at h; cases h; done) | (rw [g2] at ok; exact ok.elim) | (rw [g1, g2] at ok; exact ok.elim) | (rw [q1] at ok; exact ok.elim) | exact ok.elim
      | dct kv => first | (rw [q] at ok; exact ok.elim) | (rw [q] at ok2; exact ok2.elim) | (rw [q] at e; cases e; done) | (rw [g] at ok; exact ok.elim) | (rw [g] at q; cases q; done) | (rw [g] at h; cases h; done) | (rw [g2] at ok; exact ok.elim) | (rw [g1, g2] at ok; exact ok.elim) | (rw [q1] at ok; exact ok.elim) | exact ok.elim
      | lst ds =>
        rw [q] at e
        obtain ⟨a', xs, e1, e2, rs⟩ := hp.lst q
        rw [e0] at e1; cases e1
        obtain ⟨its, vs, ⟨o, k, e1, e2, e3, e4⟩, _⟩ := I.list (.of e2)
        dsimp only at e
        cases q : optMap (toP G n) ds with
        | none => rw [q] at e; cases e
        | some ps =>
          rw [q] at e; cases e
          obtain ⟨as, ra⟩ := readsAll (fun d x u p => reads_of I hp n d x u p) ds xs its ps rs vs q
          exact ⟨_, .list e1 e2 e4 (by simpa using ra)⟩
  | n + 1, .fn y, x, u, p, r, v, e => nomatch e
  | n + 1, .exo y _, x, u, p, r, v, e => nomatch e
end
section
variable {X : Cx} {EE : EXK} {a b c : Expr} {ma mb mc : DS → M D} {pos : Pos}
noncomputable def rD (X : Cx) (EE : EXK) (f : D → D → M D) : R2 := fun x y H Q => ∃ σ τ ρ G d e, Ab X.K X.mg σ H τ ρ G ∧ Rep X.K X.mg ρ H d x ∧ Rep X.K X.mg ρ H e y ∧ OkE X.K X.mg EE H σ τ ρ (f d e G) Q
theorem opD_self {f : D → D → M D} : OpD X EE (rD X EE f) f := fun σ H τ ρ G x y d e Q ab r1 r2 ok => ⟨σ, τ, ρ, G, d, e, ab, r1, r2, ok⟩
theorem rD_of {f : D → D → M D} {r : R2} (h : OpD X EE r f) {x y : V} {H : Hp} {Q : VK} (q : rD X EE f x y H Q) : r x y H Q := by
  obtain ⟨σ, τ, ρ, G, d, e, ab, r1, r2, ok⟩ := q
  exact h σ H τ ρ G x y d e Q ab r1 r2 ok
noncomputable abbrev deep : Nat := 600
noncomputable def dEqB (d e : D) (G : DH) : Option Bool := match toP G deep d, toP G deep e with
  | some p, some q => if p.canLay0 && (q.canLay0 && decide (min p.depth q.depth ≤ 580)) then some (PyData.eqv p q) else none
  | _, _ => none
noncomputable def dEq (neg : Bool) (d e : D) : M D := fun G => match dEqB d e G with
  | some b => .ok (.bl (neg ^^ b)) G
  | none => .stuck
theorem op_eqD (hu : X.A.units + 600 < cLine) : OpR X (compareOp .Eq) (rD X EE (dEq false)) := by
  intro pins s σ0 H x y v u Q I rx ry ⟨σ, τ, ρ, G, d, e, ab, r1, r2, ok⟩
  dsimp only [dEq, dEqB] at ok
  cases e1 : toP G deep d with
  | none => rw [e1] at ok; exact ok.elim
  | some p =>
    cases e2 : toP G deep e with
    | none => rw [e1, e2] at ok; exact ok.elim
    | some q =>
      rw [e1, e2] at ok
      dsimp only at ok
      by_cases hc : (p.canLay0 && (q.canLay0 && decide (min p.depth q.depth ≤ 580))) = true
      · rw [if_pos hc] at ok
        simp only [Bool.and_eq_true, decide_eq_true_eq] at hc
        obtain ⟨as, ra⟩ := reads_of I ab.hp deep d x v p r1 rx e1
        obtain ⟨bs, rb⟩ := reads_of I ab.hp deep e y u q r2 ry e2
        refine SeqAt.compareEq_reads ra rb hc.1 hc.2.1 (by omega) ⟨.bl _, H, I, rfl, ?_⟩
        have := ok (.bl _) H ρ .refl ab (by unfold Rep; rfl)
        simpa using this
      · rw [if_neg hc] at ok; exact ok.elim
theorem op_neD (hu : X.A.units + 600 < cLine) : OpR X (compareOp .NotEq) (rD X EE (dEq true)) := by
  intro pins s σ0 H x y v u Q I rx ry ⟨σ, τ, ρ, G, d, e, ab, r1, r2, ok⟩
  dsimp only [dEq, dEqB] at ok
  cases e1 : toP G deep d with
  | none => rw [e1] at ok; exact ok.elim
  | some p =>
    cases e2 : toP G deep e with
    | none => rw [e1, e2] at ok; exact ok.elim
    | some q =>
      rw [e1, e2] at ok
      dsimp only at ok
      by_cases hc : (p.canLay0 && (q.canLay0 && decide (min p.depth q.depth ≤ 580))) = true
      · rw [if_pos hc] at ok
        simp only [Bool.and_eq_true, decide_eq_true_eq] at hc
        obtain ⟨as, ra⟩ := reads_of I ab.hp deep d x v p r1 rx e1
        obtain ⟨bs, rb⟩ := reads_of I ab.hp deep e y u q r2 ry e2
        refine SeqAt.compareNe_reads ra rb hc.1 hc.2.1 (by omega) ⟨.bl _, H, I, rfl, ?_⟩
        have := ok (.bl _) H ρ .refl ab (by unfold Rep; rfl)
        simpa using this
      · rw [if_neg hc] at ok; exact ok.elim
theorem qe_eq (hu : X.A.units + 600 < cLine) (ha : QE X EE a ma) (hb : QE X EE b mb) : QE X EE (.Compare a [.Eq] [b] pos) (eOp (dEq false) ma mb) := qe_cmp (op_eqD hu) opD_self ha hb (nomark _)
inductive SeqK where
  | lst (xs : List D) | tup (xs : List D) | str (x : Str)
noncomputable def seqOf (G : DH) : D → Option SeqK
  | .tup xs => some (.tup xs)
  | .con xs => some (.lst xs)
  | .obj n => match G[n]? with
    | some (.lst xs) => some (.lst xs)
    | _ => none
  | .str x => some (.str x)
  | _ => none
noncomputable def inB (d : D) (ds : List D) (G : DH) : Option Bool := match toP G deep d, optMap (toP G deep) ds with
  | some p, some qs => if p.canLay0 && (PyData.canLayAll0 qs && decide (min (PyData.depthAll qs) p.depth ≤ 580)) then some (qs.any fun y => PyData.eqv y p) else none
  | _, _ => none
noncomputable def dIn (neg : Bool) (d e : D) : M D := fun G => match seqOf G e with
  | some (.lst ds) => match inB d ds G with
    | some b => .ok (.bl (neg ^^ b)) G
    | none => .stuck
  | some (.tup ds) => match inB d ds G with
    | some b => .ok (.bl (neg ^^ b)) G
    | none => .stuck
  | some (.str j) => match d with
    | .str i => .ok (.bl (neg ^^ !(Builtin.Str.occurrences j i 0 j.length 1).isEmpty)) G
    | _ => .stuck
  | none => .stuck
theorem seqOf_lst {pins : List (Addr × Obj)} {σ0 : L2.St} {H : Hp} {s : Shared} {ρ : List Addr} {G : DH} {d : D} {ds : List D} {x : V} (h : HAb X.K X.mg H ρ G) (r : Rep X.K X.mg ρ H d x) (e : seqOf G d = some (.lst ds)) :
    ∃ p xs, x = .ref p ∧ SqL X.K H p xs ∧ Reps X.K X.mg ρ H ds xs := by
  cases d with
  | con xs =>
    cases e
    unfold Rep at r
    obtain ⟨a, xs, rfl, sq, rs⟩ := r
    exact ⟨a, xs, rfl, sq.seq, rs⟩
  | obj n =>
    unfold Rep at r
    obtain ⟨a, rfl, e0⟩ := r
    dsimp only [seqOf] at e
    cases q : G[n]? with
    | none => rw [q] at e; cases e
    | some o =>
      cases o with
      | dead => first | (rw [q] at ok; exact ok.elim) | (rw [q] at ok2; exact ok2.elim) | (rw [q] at e; cases e; done) | (rw [g] at ok; exact ok.elim) | (rw [g] at q; cases q; done) | (rw [g] at h; cases h; done) | (rw [g2] at ok; exact ok.elim) | (rw [g1, g2] at ok; exact ok.elim) | (rw [q1] at ok; exact ok.elim) | exact ok.elim
      | dct kv => first | (rw [q] at ok; exact ok.elim) | (rw [q] at ok2; exact ok2.elim) | (rw [q] at e; cases e; done) | (rw [g] at ok; exact ok.elim) | (rw [g] at q; cases q; done) | (rw [g] at h; cases h; done) | (rw [g2] at ok; exact ok.elim) | (rw [g1, g2] at ok; exact ok.elim) | (rw [q1] at ok; exact ok.elim) | exact ok.elim
      | lst ys =>
        rw [q] at e; cases e
        obtain ⟨a', xs, e1, e2, rs⟩ := h.lst q
        rw [e0] at e1; cases e1
        exact ⟨a, xs, rfl, .of e2, rs⟩
  | _ => cases e
theorem seqOf_tup {H : Hp} {ρ : List Addr} {G : DH} {d : D} {ds : List D} {x : V} (r : Rep X.K X.mg ρ H d x) (e : seqOf G d = some (.tup ds)) :
    ∃ p xs, x = .ref p ∧ SqT X.K H p xs ∧ Reps X.K X.mg ρ H ds xs := by
  cases d with
  | tup xs =>
    cases e
    unfold Rep at r
    obtain ⟨a, xs, rfl, sq, rs⟩ := r
    exact ⟨a, xs, rfl, sq, rs⟩
  | obj n =>
    dsimp only [seqOf] at e
    cases q : G[n]? with
    | none => rw [q] at e; cases e
    | some o => cases o <;> (rw [q] at e; cases e)
  | _ => cases e
theorem seqOf_str {H : Hp} {ρ : List Addr} {G : DH} {d : D} {y : Str} {x : V} (r : Rep X.K X.mg ρ H d x) (e : seqOf G d = some (.str y)) : d = .str y ∧ x = .str y := by
  cases d with
  | str z => cases e; unfold Rep at r; exact ⟨rfl, r⟩
  | obj n =>
    dsimp only [seqOf] at e
    cases q : G[n]? with
    | none => rw [q] at e; cases e
    | some o => cases o <;> (rw [q] at e; cases e)
  | _ => cases e
theorem readsL {pins : List (Addr × Obj)} {σ0 : L2.St} {H : Hp} {s : Shared} {ρ : List Addr} {G : DH} {p : Addr} {xs : List V} {ds : List D} {qs : List PyData} (I : Inv X pins σ0 H s) (hp : HAb X.K X.mg H ρ G) (sq : SqL X.K H p xs) (rs : Reps X.K X.mg ρ H ds xs)
    (e : optMap (toP G deep) ds = some qs) : ∃ as, Reads s.heap (.ref p) (.list qs) as := by
  obtain ⟨its, vs, ⟨o, k, e1, e2, e3, e4⟩, _⟩ := I.list sq
  obtain ⟨as, ra⟩ := readsAll (fun d x u p => reads_of I hp deep d x u p) ds xs its qs rs vs e
  exact ⟨_, .list e1 e2 e4 (by simpa using ra)⟩
theorem readsT {pins : List (Addr × Obj)} {σ0 : L2.St} {H : Hp} {s : Shared} {ρ : List Addr} {G : DH} {p : Addr} {xs : List V} {ds : List D} {qs : List PyData} (I : Inv X pins σ0 H s) (hp : HAb X.K X.mg H ρ G) (sq : SqT X.K H p xs) (rs : Reps X.K X.mg ρ H ds xs)
    (e : optMap (toP G deep) ds = some qs) : ∃ as, Reads s.heap (.ref p) (.tuple qs) as := by
  obtain ⟨its, vs, ⟨o, e1, e2, k, e3⟩, _⟩ := I.tuple sq
  obtain ⟨as, ra⟩ := readsAll (fun d x u p => reads_of I hp deep d x u p) ds xs its qs rs vs e
  exact ⟨_, .tuple e1 e2 e3 (by simpa using ra)⟩
theorem inB_some {d : D} {ds : List D} {G : DH} {b : Bool} (h : inB d ds G = some b) : ∃ p qs, toP G deep d = some p ∧ optMap (toP G deep) ds = some qs ∧ p.canLay0 = true ∧ PyData.canLayAll0 qs = true ∧ min (PyData.depthAll qs) p.depth ≤ 580 ∧ b = qs.any fun y => PyData.eqv y p := by
  unfold inB at h
  cases e1 : toP G deep d with
  | none => rw [e1] at h; cases h
  | some p =>
    cases e2 : optMap (toP G deep) ds with
    | none => rw [e1, e2] at h; cases h
    | some qs =>
      rw [e1, e2] at h
      dsimp only at h
      by_cases hc : (p.canLay0 && (PyData.canLayAll0 qs && decide (min (PyData.depthAll qs) p.depth ≤ 580))) = true
      · rw [if_pos hc] at h
        simp only [Bool.and_eq_true, decide_eq_true_eq] at hc
        exact ⟨p, qs, rfl, rfl, hc.1, hc.2.1, hc.2.2, (Option.some.inj h).symm⟩
      · rw [if_neg hc] at h; cases h
theorem op_inD (hu : X.A.units + 600 < cLine) : OpR X (compareOp .In) (rD X EE (dIn false)) := by
  intro pins s σ0 H x y v u Q I rx ry ⟨σ, τ, ρ, G, d, e, ab, r1, r2, ok⟩
  dsimp only [dIn] at ok
  cases q : seqOf G e with
  | none => rw [q] at ok; exact ok.elim
  | some sk =>
    rw [q] at ok
    cases sk with
    | lst ds =>
      dsimp only at ok
      cases qb : inB d ds G with
      | none => rw [qb] at ok; exact ok.elim
      | some b =>
        rw [qb] at ok
        obtain ⟨p, qs, e1, e2, h1, h2, h3, rfl⟩ := inB_some qb
        obtain ⟨l, xs, rfl, sq, rs⟩ := seqOf_lst (pins := pins) (σ0 := σ0) (s := s) ab.hp r2 q
        cases ry
        obtain ⟨as, ra⟩ := reads_of I ab.hp deep d x v p r1 rx e1
        obtain ⟨bs, rb⟩ := readsL I ab.hp sq rs e2
        refine SeqAt.in_list_reads rb ra h2 h1 (by omega) ⟨.bl _, H, I, rfl, ?_⟩
        have := ok (.bl _) H ρ .refl ab (by unfold Rep; rfl)
        simpa using this
    | tup ds =>
      dsimp only at ok
      cases qb : inB d ds G with
      | none => rw [qb] at ok; exact ok.elim
      | some b =>
        rw [qb] at ok
        obtain ⟨p, qs, e1, e2, h1, h2, h3, rfl⟩ := inB_some qb
        obtain ⟨l, xs, rfl, sq, rs⟩ := seqOf_tup r2 q
        cases ry
        obtain ⟨as, ra⟩ := reads_of I ab.hp deep d x v p r1 rx e1
        obtain ⟨bs, rb⟩ := readsT I ab.hp sq rs e2
        refine SeqAt.in_tuple_reads rb ra h2 h1 (by omega) ⟨.bl _, H, I, rfl, ?_⟩
        have := ok (.bl _) H ρ .refl ab (by unfold Rep; rfl)
        simpa using this
    | str j =>
      obtain ⟨rfl, rfl⟩ := seqOf_str r2 q
      cases d with
      | str i =>
        unfold Rep at r1; subst r1
        refine op_in_str pins s σ0 H _ _ v u Q I rx ry ⟨i, j, rfl, rfl, ?_⟩
        have := ok (.bl _) H ρ .refl ab (by unfold Rep; rfl)
        simpa using this
      | _ => exact ok.elim
end
end L3
end
section
set_option Elab.async false
set_option linter.all false
set_option maxRecDepth 100000
namespace L3
open PySem PySem.Spec L2
section
variable {X : Cx} {EE : EXK} {a b c : Expr} {ma mb mc : DS → M D} {pos : Pos}
noncomputable def dIx (d e : D) : M D := fun G => match e with
  | .int i => match seqOf G d with
    | some (.lst xs) => match atI xs i with
      | some v => .ok v G
      | none => .stuck
    | some (.tup xs) => match atI xs i with
      | some v => .ok v G
      | none => .stuck
    | some (.str z) => if z.length ≤ sizeLine then (match atI z.cps.toList i with
      | some c => .ok (.str ⟨#[c]⟩) G
      | none => .stuck) else .stuck
    | none => .stuck
  | _ => .stuck
theorem atI_reps {K : PySem.W.Frag} {mg : Str → Option Value} {ρ : List Addr} {H : Hp} {ds : List D} {vs : List V} {i : Int} {d : D} (r : Reps K mg ρ H ds vs) (h : atI ds i = some d) : ∃ v, atI vs i = some v ∧ Rep K mg ρ H d v := by
  unfold atI at h ⊢
  rw [← r.length]
  cases e : ixN ds.length i with
  | none => rw [e] at h; cases h
  | some j =>
    rw [e] at h
    obtain ⟨v, e1, e2⟩ := r.get (show ds[j]? = some d from h)
    exact ⟨v, e1, e2⟩
theorem ix_D : IxR X (rD X EE dIx) := by
  intro value slice pins s σ0 H x y v u Q I rx ry ⟨σ, τ, ρ, G, d, e, ab, r1, r2, ok⟩ hs
  cases e <;> try exact ok.elim
  rename_i i
  unfold Rep at r2; subst r2
  dsimp only [dIx] at ok
  cases q : seqOf G d with
  | none => rw [q] at ok; exact ok.elim
  | some sk =>
    rw [q] at ok
    cases sk with
    | lst ds =>
      dsimp only at ok
      cases qa : atI ds i with
      | none => rw [qa] at ok; exact ok.elim
      | some z =>
        rw [qa] at ok
        obtain ⟨l, xs, rfl, sq, rs⟩ := seqOf_lst (pins := pins) (σ0 := σ0) (s := s) ab.hp r1 q
        obtain ⟨w, e1, e2⟩ := atI_reps rs qa
        exact ix_list value slice pins s σ0 H _ _ v u Q I rx ry ⟨l, xs, i, w, rfl, rfl, sq, e1, ok w H ρ .refl ab e2⟩ hs
    | tup ds =>
      dsimp only at ok
      cases qa : atI ds i with
      | none => rw [qa] at ok; exact ok.elim
      | some z =>
        rw [qa] at ok
        obtain ⟨l, xs, rfl, sq, rs⟩ := seqOf_tup r1 q
        obtain ⟨w, e1, e2⟩ := atI_reps rs qa
        exact ix_tup value slice pins s σ0 H _ _ v u Q I rx ry ⟨l, xs, i, w, rfl, rfl, sq, e1, ok w H ρ .refl ab e2⟩ hs
    | str z =>
      dsimp only at ok
      obtain ⟨rfl, rfl⟩ := seqOf_str r1 q
      by_cases hz : z.length ≤ sizeLine
      · rw [if_pos hz] at ok
        cases qa : atI z.cps.toList i with
        | none => rw [qa] at ok; exact ok.elim
        | some c =>
          rw [qa] at ok
          exact ix_str value slice pins s σ0 H _ _ v u Q I rx ry ⟨z, i, c, rfl, rfl, hz, qa, ok _ H ρ .refl ab (by unfold Rep; rfl)⟩ hs
      · rw [if_neg hz] at ok; exact ok.elim
theorem qe_index (ha : QE X EE a ma) (hb : QE X EE b mb) (hs : PlainIx b := by intro _ _; rfl) : QE X EE (.Subscript a b pos) (eOp dIx ma mb) := qe_ix ix_D opD_self ha hb hs
noncomputable def oNone : DS → M (Option Int) := fun _ => M.ret none
noncomputable def oSome (m : DS → M D) : DS → M (Option Int) := fun τ => (m τ).bind fun d => match d with
  | .int i => M.ret (some i)
  | _ => M.stop
noncomputable def OkO (K : PySem.W.Frag) (mg : Str → Option Value) (EE : EXK) (H : Hp) (σ : L2.St) (τ : DS) (ρ : List Addr) : Out (Option Int) → (Option Int → Hp → Prop) → Prop
  | .stuck, _ => False
  | .ok b G', Q => ∀ H' ρ', Fut K H H' ρ ρ' → Ab K mg σ H' τ ρ' G' → Q b H'
  | .exn c G', _ => ∀ H' ρ', Fut K H H' ρ ρ' → Ab K mg σ H' τ ρ' G' → EE c σ H'
noncomputable def liftO (K : PySem.W.Frag) (mg : Str → Option Value) (EE : EXK) (m : DS → M (Option Int)) : TO := fun σ H Q => ∃ τ ρ G, Ab K mg σ H τ ρ G ∧ OkO K mg EE H σ τ ρ (m τ G) Q
noncomputable def QO (X : Cx) (EE : EXK) (e : Option Expr) (m : DS → M (Option Int)) : Prop := PO X e (liftO X.K X.mg EE m)
theorem PO.mono {e : Option Expr} {t t' : TO} (h : PO X e t) (i : ∀ σ H Q, t' σ H Q → t σ H Q) : PO X e t' := fun pins s σ H Q I q => h pins s σ H Q I (i _ _ _ q)
theorem qo_none : QO X EE none oNone := PO.mono po_none fun σ H Q ⟨τ, ρ, G, ab, ok⟩ => ok H ρ .refl ab
theorem qo_some (ha : QE X EE a ma) : QO X EE (some a) (oSome ma) := PO.mono (po_some ha) fun σ H Q ⟨τ, ρ, G, ab, ok⟩ => by
  refine ⟨τ, ρ, G, ab, ?_⟩
  dsimp only [oSome, M.bind] at ok
  cases e : ma τ G with
  | stuck => rw [e] at ok; exact ok
  | exn c G' => rw [e] at ok; exact ok
  | ok d G' =>
    rw [e] at ok
    intro v H' ρ' f ab' r
    cases d <;> try exact ok.elim
    rename_i i
    unfold Rep at r
    exact ⟨i, r, ok H' ρ' f ab'⟩
noncomputable def cutD (xs : List D) (lo hi : Option Int) : List D := (xs.drop (HT.sIx xs.length 0 lo)).take (HT.sIx xs.length xs.length hi - HT.sIx xs.length 0 lo)
noncomputable def dSl (d : D) (lo hi : Option Int) : M D := fun G => match seqOf G d with
  | some (.lst xs) => dNew (cutD xs lo hi) G
  | some (.tup xs) => if HT.sIx xs.length 0 lo = 0 ∧ HT.sIx xs.length xs.length hi = xs.length then .stuck else dTup (cutD xs lo hi) G
  | some (.str z) => if z.length ≤ sizeLine then .ok (.str (Txt.slice z lo hi)) G else .stuck
  | none => .stuck
noncomputable def eSl (m : DS → M D) (ml mh : DS → M (Option Int)) : DS → M D := fun τ => (m τ).bind fun d => (ml τ).bind fun lo => (mh τ).bind fun hi => dSl d lo hi
noncomputable def rSlD (X : Cx) (EE : EXK) : V → Option Int → Option Int → Hp → VK → Prop := fun x lo hi H Q => ∃ σ τ ρ G d, Ab X.K X.mg σ H τ ρ G ∧ Rep X.K X.mg ρ H d x ∧ OkE X.K X.mg EE H σ τ ρ (dSl d lo hi G) Q
theorem cut_reps {K : PySem.W.Frag} {mg : Str → Option Value} {ρ : List Addr} {H : Hp} {ds : List D} {vs : List V} (r : Reps K mg ρ H ds vs) (lo hi : Option Int) : Reps K mg ρ H (cutD ds lo hi) (cutV vs lo hi) := by
  unfold cutD cutV
  rw [r.length]
  exact (r.drop _).take _
theorem slice_map (x : Str) (l u : Option (Int × Tok)) (lo hi : Option Int) (hl : l.map (·.1) = lo) (hu : u.map (·.1) = hi) (t : Tok) (s : Shared) (Q : Value → Shared → Prop) (hz : x.length ≤ sizeLine)
    (h : ∀ t' k, Q (.str (Txt.slice x lo hi) t') { s with toks := k }) : (sliceMade x t l u none).post Q s := by
  subst hl hu
  cases l <;> cases u <;> exact post_val_or_str ⟨Nat.le_trans (Txt.slice_le x _ _) hz, fun t' k => h t' k⟩
theorem sl_D : SlR X (rSlD X EE) := by
  intro pins s σ0 H x v vl vu lo hi sl Q I rx hs pl pu ⟨σ, τ, ρ, G, d, ab, r1, ok⟩
  dsimp only [dSl] at ok
  cases q : seqOf G d with
  | none => rw [q] at ok; exact ok.elim
  | some sk =>
    rw [q] at ok
    cases sk with
    | lst ds =>
      obtain ⟨l, xs, rfl, sq, rs⟩ := seqOf_lst (pins := pins) (σ0 := σ0) (s := s) ab.hp r1 q
      exact sl_list pins s σ0 H _ v vl vu lo hi sl Q I rx hs pl pu ⟨l, xs, rfl, sq, (new_ok ab (cut_reps rs lo hi) ok).2⟩
    | tup ds =>
      obtain ⟨l, xs, rfl, sq, rs⟩ := seqOf_tup r1 q
      dsimp only at ok
      by_cases hw : HT.sIx ds.length 0 lo = 0 ∧ HT.sIx ds.length ds.length hi = ds.length
      · rw [if_pos hw] at ok; exact ok.elim
      · rw [if_neg hw] at ok
        refine sl_tup pins s σ0 H _ v vl vu lo hi sl Q I rx hs pl pu ⟨l, xs, rfl, sq, ?_, (tup_ok ab (cut_reps rs lo hi) ok).2⟩
        rw [← rs.length]; exact hw
    | str z =>
      obtain ⟨rfl, rfl⟩ := seqOf_str r1 q
      dsimp only at ok
      by_cases hz : z.length ≤ sizeLine
      · rw [if_pos hz] at ok
        obtain ⟨t, rfl⟩ := rx
        refine ⟨"str", _, F.slot_str_getitem.lookup, typeIs_str _ _ _, ?_⟩
        obtain ⟨o, e1, e2, e3⟩ := hs
        have fin : ∀ t' k, EP X pins σ0 Q (.str (Txt.slice z lo hi) t') { s with toks := k } := fun t' k => ⟨.str _, H, I.tok k, ⟨t', rfl⟩, ok _ H ρ .refl ab (by unfold Rep; rfl)⟩
        cases pl with
        | none =>
          cases pu with
          | none => exact wpAny_getItem_str_slice (l := none) (u := none) (st := none) ⟨o, e1, e2, e3⟩ rfl (slice_map z none none none none rfl rfl t s _ hz fin)
          | int j tj => exact wpAny_getItem_str_slice (l := none) (u := some (j, tj)) (st := none) ⟨o, e1, e2, e3⟩ rfl (slice_map z none (some (j, tj)) none (some j) rfl rfl t s _ hz fin)
        | int i ti =>
          cases pu with
          | none => exact wpAny_getItem_str_slice (l := some (i, ti)) (u := none) (st := none) ⟨o, e1, e2, e3⟩ rfl (slice_map z (some (i, ti)) none (some i) none rfl rfl t s _ hz fin)
          | int j tj => exact wpAny_getItem_str_slice (l := some (i, ti)) (u := some (j, tj)) (st := none) ⟨o, e1, e2, e3⟩ rfl (slice_map z (some (i, ti)) (some (j, tj)) (some i) (some j) rfl rfl t s _ hz fin)
      · rw [if_neg hz] at ok; exact ok.elim
theorem qe_slice {lo hi : Option Expr} {ml mh : DS → M (Option Int)} {p2 : Pos} (ha : QE X EE a ma) (hl : QO X EE lo ml) (hh : QO X EE hi mh) : QE X EE (.Subscript a (.Slice lo hi none p2) pos) (eSl ma ml mh) :=
  PE.mono (pe_slice sl_D ha hl hh) fun σ H Q ⟨τ, ρ, G, ab, ok⟩ => by
    refine ⟨τ, ρ, G, ab, ?_⟩
    dsimp only [eSl, M.bind] at ok
    cases e1 : ma τ G with
    | stuck => rw [e1] at ok; exact ok
    | exn c G' => rw [e1] at ok; exact ok
    | ok d G1 =>
      rw [e1] at ok
      dsimp only at ok
      intro v H1 ρ1 f1 ab1 r1
      refine ⟨τ, ρ1, G1, ab1, ?_⟩
      cases e2 : ml τ G1 with
      | stuck => rw [e2] at ok; exact ok
      | exn c G' => rw [e2] at ok; exact fun H' ρ' f' => ok H' ρ' (f1.trans f')
      | ok l G2 =>
        rw [e2] at ok
        dsimp only at ok
        intro H2 ρ2 f2 ab2
        refine ⟨τ, ρ2, G2, ab2, ?_⟩
        cases e3 : mh τ G2 with
        | stuck => rw [e3] at ok; exact ok
        | exn c G' => rw [e3] at ok; exact fun H' ρ' f' => ok H' ρ' ((f1.trans f2).trans f')
        | ok u G3 =>
          rw [e3] at ok
          dsimp only at ok
          intro H3 ρ3 f3 ab3
          exact ⟨σ, τ, ρ3, G3, d, ab3, r1.mono (f2.trans f3), ok.fut ((f1.trans f2).trans f3)⟩
noncomputable def tAndD (ma mb : DS → M Bool) : DS → M Bool := fun τ => (ma τ).bind fun c => if c then mb τ else M.ret false
noncomputable def tOrD (ma mb : DS → M Bool) : DS → M Bool := fun τ => (ma τ).bind fun c => if c then M.ret true else mb τ
noncomputable def tNotD (ma : DS → M Bool) : DS → M Bool := fun τ => (ma τ).bind fun c => M.ret (!c)
variable {ta tb tc : DS → M Bool} {rest : List Expr}
theorem or_lift {σ : L2.St} {H : Hp} {Q : Bool → Hp → Prop} (h : liftT X.K X.mg EE (tOrD ta tb) σ H Q) : tOr (liftT X.K X.mg EE ta) (liftT X.K X.mg EE tb) σ H Q := by
  obtain ⟨τ, ρ, G, ab, ok⟩ := bindTT (k := fun τ c => if c then M.ret true else tb τ) h
  refine ⟨τ, ρ, G, ab, ?_⟩
  cases e : ta τ G with
  | stuck => rw [e] at ok; exact ok
  | exn c G' => rw [e] at ok; exact ok
  | ok k G' =>
    rw [e] at ok
    intro H' ρ' f' ab'
    obtain ⟨τ2, ρ2, G2, ab2, ok2⟩ := ok H' ρ' f' ab'
    cases k with
    | false => exact ⟨τ2, ρ2, G2, ab2, ok2⟩
    | true => exact ok2 H' ρ2 .refl ab2
theorem PW.mono {e : Expr} {t t' : TT} (h : PW X e t) (i : ∀ σ H Q, t' σ H Q → t σ H Q) : PW X e t' := fun wh pins s σ H Q I q => h wh pins s σ H Q I (i _ _ _ q)
theorem qw_or1 (ha : QT X EE a ta) : QW X EE (.BoolOp .Or [a] pos) ta := pw_or1 ha
theorem qw_or (ha : QT X EE a ta) (hb : QW X EE (.BoolOp .Or (b :: rest) pos) tb) : QW X EE (.BoolOp .Or (a :: b :: rest) pos) (tOrD ta tb) := PW.mono (pw_or ha hb) fun _ _ _ h => or_lift h
theorem qt_w {e : Expr} (h : QW X EE e ta) : QT X EE e ta := h.pt
theorem qt_not (ha : QT X EE a ta) : QT X EE (.UnaryOp .Not a pos) (tNotD ta) := PT.mono (pt_not ha) fun σ H Q h => by
  obtain ⟨τ, ρ, G, ab, ok⟩ := bindTT (k := fun τ c => M.ret (!c)) h
  refine ⟨τ, ρ, G, ab, ?_⟩
  cases e : ta τ G with
  | stuck => rw [e] at ok; exact ok
  | exn c G' => rw [e] at ok; exact ok
  | ok k G' =>
    rw [e] at ok
    intro H' ρ' f' ab'
    obtain ⟨τ2, ρ2, G2, ab2, ok2⟩ := ok H' ρ' f' ab'
    exact ok2 H' ρ2 .refl ab2
noncomputable def tBl (m : DS → M D) : DS → M Bool := fun τ => (m τ).bind fun d => match d with
  | .bl b => M.ret b
  | _ => M.stop
theorem bl_lift {m : DS → M D} {σ : L2.St} {H : Hp} {Q : Bool → Hp → Prop} (h : liftT X.K X.mg EE (tBl m) σ H Q) : liftE X.K X.mg EE m σ H fun x H1 => ∃ c, x = .bl c ∧ Q c H1 := by
  obtain ⟨τ, ρ, G, ab, ok⟩ := bindET (k := fun _ d => match d with | .bl b => M.ret b | _ => M.stop) h
  refine ⟨τ, ρ, G, ab, ?_⟩
  cases e : m τ G with
  | stuck => rw [e] at ok; exact ok
  | exn c G' => rw [e] at ok; exact ok
  | ok d G' =>
    rw [e] at ok
    intro v H' ρ' f' ab' r'
    obtain ⟨τ2, ρ2, G2, d2, ab2, r2, ok2⟩ := ok v H' ρ' f' ab' r'
    cases d2 <;> try exact ok2.elim
    rename_i k
    unfold Rep at r2
    exact ⟨k, r2, ok2 H' ρ2 .refl ab2⟩
theorem qt_cmp {op : CmpOp} {f : D → D → M D} (ho : OpR X (compareOp op) (rD X EE f)) (ha : QE X EE a ma) (hb : QE X EE b mb) (hm : behindInMarks op b = false) : QT X EE (.Compare a [op] [b] pos) (tBl (eOp f ma mb)) :=
  PT.mono (pt_cmpR ho ha hb hm) fun σ H Q h => by
    have h1 := bl_lift h
    exact op_lift opD_self h1
theorem op_of {f : D → D → M D} {g : Value → Value → Sem Value} {r : R2} (ho : OpR X g r) (hd : OpD X EE r f) : OpR X g (rD X EE f) := fun pins s σ H x y v u Q I rx ry q => ho pins s σ H x y v u Q I rx ry (rD_of hd q)
theorem op_ltD : OpR X (compareOp .Lt) (rD X EE dLt) := op_of op_lt (opD_int0 fun _ _ _ _ => by unfold Rep; rfl)
theorem op_gtD : OpR X (compareOp .Gt) (rD X EE dGt) := op_of op_gt (opD_int0 fun _ _ _ _ => by unfold Rep; rfl)
theorem op_geD : OpR X (compareOp .GtE) (rD X EE dGe) := op_of op_ge (opD_int0 fun _ _ _ _ => by unfold Rep; rfl)
noncomputable def eIf (t : DS → M Bool) (ma mb : DS → M D) : DS → M D := fun τ => (t τ).bind fun c => if c then ma τ else mb τ
noncomputable def eAnd (ma mb : DS → M D) : DS → M D := fun τ => (ma τ).bind fun d => match d with
  | .bl true => mb τ
  | .bl false => M.ret (.bl false)
  | _ => M.stop
theorem qe_one {op} (h : QE X EE a ma) : QE X EE (.BoolOp op [a] pos) ma := pe_one h
theorem qe_and (ha : QE X EE a ma) (hb : QE X EE (.BoolOp .And (b :: rest) pos) mb) : QE X EE (.BoolOp .And (a :: b :: rest) pos) (eAnd ma mb) := PE.mono (pe_and ha hb) fun σ H Q h => by
  obtain ⟨τ, ρ, G, ab, ok⟩ := bindEE (k := fun τ d => match d with | .bl true => mb τ | .bl false => M.ret (.bl false) | _ => M.stop) h
  refine ⟨τ, ρ, G, ab, ?_⟩
  cases e : ma τ G with
  | stuck => rw [e] at ok; exact ok
  | exn c G' => rw [e] at ok; exact ok
  | ok k G' =>
    rw [e] at ok
    intro v H' ρ' f' ab' r'
    obtain ⟨τ2, ρ2, G2, d2, ab2, r2, ok2⟩ := ok v H' ρ' f' ab' r'
    cases d2 <;> try exact ok2.elim
    rename_i k
    unfold Rep at r2
    refine ⟨k, r2, ?_⟩
    cases k with
    | true => exact ⟨τ2, ρ2, G2, ab2, ok2⟩
    | false => exact ok2 _ H' ρ2 .refl ab2 (by unfold Rep; rfl)
noncomputable def eNeg (ma : DS → M D) : DS → M D := fun τ => (ma τ).bind fun d => match d with
  | .int i => M.ret (.int (-i))
  | _ => M.stop
theorem qe_neg (ha : QE X EE a ma) : QE X EE (.UnaryOp .USub a pos) (eNeg ma) := PE.mono (pe_un un_neg ha) fun σ H Q h => by
  obtain ⟨τ, ρ, G, ab, ok⟩ := bindEE (k := fun τ d => match d with | .int i => M.ret (.int (-i)) | _ => M.stop) h
  refine ⟨τ, ρ, G, ab, ?_⟩
  cases e : ma τ G with
  | stuck => rw [e] at ok; exact ok
  | exn c G' => rw [e] at ok; exact ok
  | ok k G' =>
    rw [e] at ok
    intro v H' ρ' f' ab' r'
    obtain ⟨τ2, ρ2, G2, d2, ab2, r2, ok2⟩ := ok v H' ρ' f' ab' r'
    cases d2 <;> try exact ok2.elim
    rename_i k
    unfold Rep at r2
    exact ⟨k, r2, ok2 _ H' ρ2 .refl ab2 (by unfold Rep; rfl)⟩
end
end L3
end
section
set_option Elab.async false
set_option linter.all false
set_option maxRecDepth 100000
namespace L3
open PySem PySem.Spec L2
section
variable {X : Cx} {EE : EXK} {a b c : Expr} {ma mb mc : DS → M D} {pos : Pos} {ta tb tc : DS → M Bool} {ms mt : MS}
noncomputable def sSkip : MS := fun τ G => .nx τ G
noncomputable def sSeq (m k : MS) : MS := fun τ G => match m τ G with
  | .nx τ' G' => k τ' G'
  | r => r
theorem qss_nil : QSs X EE [] sSkip := PSs.mono pss_nil fun D σ H ⟨τ, ρ, G, ab, ok⟩ => ok σ H ρ .refl ab
theorem seq_lift {Dd : Ends} {σ : L2.St} {H : Hp} (h : liftS X.K X.mg EE (sSeq ms mt) Dd σ H) : tSeq (liftS X.K X.mg EE ms) (liftS X.K X.mg EE mt) Dd σ H := by
  obtain ⟨τ, ρ, G, ab, ok⟩ := h
  refine ⟨τ, ρ, G, ab, ?_⟩
  dsimp only [sSeq] at ok
  cases e : ms τ G with
  | nx τ' G' => rw [e] at ok; exact fun σ' H' ρ' f ab' => ⟨τ', ρ', G', ab', ok.fut f⟩
  | stuck => rw [e] at ok; exact ok
  | rt d G => rw [e] at ok; exact ok
  | bk τ G => rw [e] at ok; exact ok
  | ct τ G => rw [e] at ok; exact ok
  | xn c τ G => rw [e] at ok; exact ok
theorem qss_cons {st : Stmt} {rest : List Stmt} (h1 : QS X EE st ms) (h2 : QSs X EE rest mt) : QSs X EE (st :: rest) (sSeq ms mt) := PSs.mono (pss_cons h1 h2) fun _ _ _ h => seq_lift h
theorem qss_one {st : Stmt} (h1 : QS X EE st ms) : QSs X EE [st] ms := pss_one h1
noncomputable def sExpr (m : DS → M D) : MS := fun τ => sBind (m τ) (fun _ G => .nx τ G) fun c G => .xn c τ G
noncomputable def sRet (m : DS → M D) : MS := fun τ => sBind (m τ) (fun d G => .rt d G) fun c G => .xn c τ G
noncomputable def sRetN : MS := fun _ G => .rt .non G
noncomputable def sSet (i : Nat) (m : DS → M D) : MS := fun τ => sBind (m τ) (fun d G => .nx (τ.set i (some d)) G) fun c G => .xn c τ G
noncomputable def sIf (t : DS → M Bool) (ma mb : MS) : MS := fun τ => sBind (t τ) (fun c G => if c then ma τ G else mb τ G) fun c G => .xn c τ G
theorem qs_expr (he : QE X EE a ma) (hs : swapsWith a none pos.line X.env = pure false := by rfl) : QS X EE (.Expr a pos) (sExpr ma) := PS.mono (ps_expr he hs) fun D σ H h => by
  obtain ⟨τ, ρ, G, ab, ok⟩ := bindES (k := fun τ d G => .nx τ G) h
  refine ⟨τ, ρ, G, ab, ?_⟩
  cases e : ma τ G with
  | stuck => rw [e] at ok; exact ok
  | exn c G' => rw [e] at ok; exact ok
  | ok d G' =>
    rw [e] at ok
    intro v H' ρ' f' ab' r'
    obtain ⟨τ2, ρ2, G2, d2, ab2, r2, ok2⟩ := ok v H' ρ' f' ab' r'
    exact ok2 σ H' ρ2 .refl ab2
theorem qs_ret (he : QE X EE a ma) : QS X EE (.Return (some a) pos) (sRet ma) := PS.mono (ps_ret he) fun D σ H h => by
  obtain ⟨τ, ρ, G, ab, ok⟩ := bindES (k := fun τ d G => .rt d G) h
  refine ⟨τ, ρ, G, ab, ?_⟩
  cases e : ma τ G with
  | stuck => rw [e] at ok; exact ok
  | exn c G' => rw [e] at ok; exact ok
  | ok d G' =>
    rw [e] at ok
    intro v H' ρ' f' ab' r'
    obtain ⟨τ2, ρ2, G2, d2, ab2, r2, ok2⟩ := ok v H' ρ' f' ab' r'
    exact ok2 v H' ρ2 .refl ab2.hp r2
theorem Ab.set {K : PySem.W.Frag} {mg : Str → Option Value} {σ : L2.St} {H : Hp} {τ : DS} {ρ : List Addr} {G : DH} {i : Nat} {d : D} {v : V} (ab : Ab K mg σ H τ ρ G) (r : Rep K mg ρ H d v) : Ab K mg (σ.set i (some v)) H (τ.set i (some d)) ρ G := ⟨ab.st.set r, ab.hp⟩
theorem qs_set {i : Nat} {x : Str} {pos' : Pos} (hN : X.N.Nodup) (he : QE X EE a ma) (hi : X.N[i]? = some x := by rfl) (hx : Loc X.env.scope x := by first | exact Or.inl rfl | exact Or.inr rfl)
    (hs : swapsWith a (some (.Name x pos')) pos.line X.env = pure false := by rfl) (hf : X.fn x = true ∨ X.env.scope.names.lookup x = some .local := by first | exact .inl rfl | exact .inr rfl | assumption) :
    QS X EE (.Assign [.Name x pos'] a pos) (sSet i ma) := PS.mono (ps_set hN hi hx he hs hf) fun D σ H h => by
  obtain ⟨τ, ρ, G, ab, ok⟩ := bindES (k := fun τ d G => .nx (τ.set i (some d)) G) h
  refine ⟨τ, ρ, G, ab, ?_⟩
  cases e : ma τ G with
  | stuck => rw [e] at ok; exact ok
  | exn c G' => rw [e] at ok; exact ok
  | ok d G' =>
    rw [e] at ok
    intro v H' ρ' f' ab' r'
    obtain ⟨τ2, ρ2, G2, d2, ab2, r2, ok2⟩ := ok v H' ρ' f' ab' r'
    exact ok2 _ H' ρ2 .refl (ab2.set r2)
theorem qs_if {body els : List Stmt} (hc : QT X EE c tc) (ha : QSs X EE body ms) (hb : QSs X EE els mt) : QS X EE (.If c body els pos) (sIf tc ms mt) := PS.mono (ps_if hc ha hb) fun D σ H h => by
  obtain ⟨τ, ρ, G, ab, ok⟩ := bindTS (k := fun τ c G => if c then ms τ G else mt τ G) h
  refine ⟨τ, ρ, G, ab, ?_⟩
  cases e : tc τ G with
  | stuck => rw [e] at ok; exact ok
  | exn c G' => rw [e] at ok; exact ok
  | ok k G' =>
    rw [e] at ok
    intro H' ρ' f' ab'
    obtain ⟨τ2, ρ2, G2, ab2, ok2⟩ := ok H' ρ' f' ab'
    cases k with
    | true => exact ⟨τ2, ρ2, G2, ab2, ok2⟩
    | false => exact ⟨τ2, ρ2, G2, ab2, ok2⟩
noncomputable abbrev TgD := D → DS → Option DS
noncomputable def liftG (K : PySem.W.Frag) (mg : Str → Option Value) (g : TgD) : TG := fun v σ H Q => ∃ τ ρ G d τ', Ab K mg σ H τ ρ G ∧ Rep K mg ρ H d v ∧ g d τ = some τ' ∧ ∀ σ', Ab K mg σ' H τ' ρ G → Q σ' H
noncomputable def QG (X : Cx) (e : Expr) (g : TgD) : Prop := PG X e (liftG X.K X.mg g)
noncomputable def gN (i : Nat) : TgD := fun d τ => some (τ.set i (some d))
theorem qg_name {i : Nat} {x : Str} (hN : X.N.Nodup) (hi : X.N[i]? = some x := by rfl) (hx : Loc X.env.scope x := by first | exact Or.inl rfl | exact Or.inr rfl) (hf : X.fn x = true ∨ X.env.scope.names.lookup x = some .local := by first | exact .inl rfl | exact .inr rfl | assumption) :
    QG X (.Name x pos) (gN i) := fun pins s σ H v u Q I r ⟨τ, ρ, G, d, τ', ab, rd, e, q⟩ => pg_name hN hi hx hf pins s σ H v u Q I r (by
  cases e
  exact q _ (ab.set rd))
noncomputable def forP (g : TgD) (body : MS) : List D → MS
  | [], τ, G => .nx τ G
  | d :: r, τ, G => match g d τ with
    | none => .stuck
    | some τ1 => match body τ1 G with
      | .nx τ' G' => forP g body r τ' G'
      | .ct τ' G' => forP g body r τ' G'
      | .bk τ' G' => .nx τ' G'
      | x => x
noncomputable def forO (g : TgD) (body : MS) (n : Nat) : Nat → Nat → MS
  | 0, _, _, _ => .stuck
  | f + 1, k, τ, G => match G[n]? with
    | some (.lst xs) => match xs[k]? with
      | none => .nx τ G
      | some d => match g d τ with
        | none => .stuck
        | some τ1 => match body τ1 G with
          | .nx τ' G' => forO g body n f (k + 1) τ' G'
          | .ct τ' G' => forO g body n f (k + 1) τ' G'
          | .bk τ' G' => .nx τ' G'
          | x => x
    | _ => .stuck
end
end L3
end
section
set_option Elab.async false
set_option linter.all false
set_option maxRecDepth 100000
namespace L3
open PySem PySem.Spec L2
noncomputable def Its (z : Str) : It := ⟨fun i _ => i < z.cps.size, fun i H x H' => H' = H ∧ ∃ c, z.cps[i]? = some c ∧ x = .str ⟨#[c]⟩, fun i _ => z.cps.size ≤ i⟩
theorem turn_str {P : Program} {w : World} {K : PySem.W.Frag} {tg : Expr} (z : Str) (t : Tok) (it : Addr) : Turn P w K tg (Its z) [it] it (fun i h => h.IsStrIter it (strIterType z) z t i) where
  mem := by simp
  obj := fun i h st b hb => by
    have e : b = it := by simpa using hb
    subst e
    obtain ⟨o, e, c, d⟩ := st
    exact ⟨o, e, fun v z => by rw [d] at z; cases z⟩
  keep := fun i h h' st k => by
    obtain ⟨o, e, r⟩ := st
    exact ⟨o, k it (by simp) o e, r⟩
  item := by
    intro X hP hw hK hc i pins s σ H E I hf st hg
    subst hP hw hK
    obtain ⟨f0, f1, f2, f3, f4, f5⟩ := hf it (by simp)
    have hx : z.cps[i]? = some z.cps[i] := Array.getElem?_eq_getElem hg
    have fin : ∀ h', h'.IsStrIter it (strIterType z) z t (i + 1) → Heap.SameBut it s.heap h' → ∃ u, some (Value.str ⟨#[z.cps[i]]⟩ s.toks) = some u ∧
      wpAny (model X.prog X.w) X.A (letOwnedTupleGo tg (.ref it) u) (fun _ s2 => ∃ x H', Inv X pins σ H' s2 ∧ RelV x u ∧ (Its z).yld i H x H' ∧ s2.heap.IsStrIter it (strIterType z) z t (i + 1) ∧ ∀ b ∈ [it], H' b = none) E { s with heap := h', toks := s.toks + 1 } := fun h' st' sb => by
      have I1 : Inv X pins σ H { s with heap := h', toks := s.toks + 1 } := I.turned (t' := s.toks + 1) (fun b o hb e => (sb.2 b hb).trans e) f0 f1 f3 f4 f5
      obtain ⟨o, e, c, d⟩ := id st'
      refine ⟨_, rfl, go_of (s := { s with heap := h', toks := s.toks + 1 }) e c d ?_ ⟨.str ⟨#[z.cps[i]]⟩, H, I1, ⟨_, rfl⟩, ⟨rfl, _, hx, rfl⟩, st', fun b hb => (hf b hb).1⟩⟩
      unfold strIterType
      split <;> decide
    cases ha : z.cps.all (· < 128) with
    | true =>
      have e : strIterType z = "str_ascii_iterator" := by unfold strIterType; rw [ha]; rfl
      rw [e] at st fin
      exact wpAny_pyNext_ascii_item st hx fun h' st' sb => by rw [e]; exact fin h' st' sb
    | false =>
      have e : strIterType z = "str_iterator" := by unfold strIterType; rw [ha]; rfl
      rw [e] at st fin
      exact wpAny_pyNext_wide_item st hx fun h' st' sb => by rw [e]; exact fin h' st' sb
  done := by
    intro X hP hw hK hc i pins s σ H E I hf st hg
    subst hP hw hK
    obtain ⟨f0, f1, f2, f3, f4, f5⟩ := hf it (by simp)
    have hx : z.cps[i]? = none := Array.getElem?_eq_none hg
    have fin : ∀ h', Heap.ExtBut it s.heap h' → (none : Option Value) = none ∧ Inv X pins σ H { s with heap := h' } := fun h' eb => ⟨rfl, I.turned (t' := s.toks) (fun b o hb e => eb b o hb e) f0 f1 f3 f4 f5⟩
    cases ha : z.cps.all (· < 128) with
    | true =>
      have e : strIterType z = "str_ascii_iterator" := by unfold strIterType; rw [ha]; rfl
      rw [e] at st
      exact wpAny_pyNext_ascii_end (I.ok.hd hc) st hx fin
    | false =>
      have e : strIterType z = "str_iterator" := by unfold strIterType; rw [ha]; rfl
      rw [e] at st
      exact wpAny_pyNext_wide_end (I.ok.hd hc) st hx fin
  self := fun A i s Q E st h => by
    cases ha : z.cps.all (· < 128) with
    | true =>
      have e : strIterType z = "str_ascii_iterator" := by unfold strIterType; rw [ha]; rfl
      rw [e] at st
      exact wpAny_pyIter_striter_ascii st h
    | false =>
      have e : strIterType z = "str_iterator" := by unfold strIterType; rw [ha]; rfl
      rw [e] at st
      exact wpAny_pyIter_striter_wide st h
section
variable {X : Cx} {EE : EXK} {a b c tg : Expr} {ma mb mc : DS → M D} {pos : Pos} {ms mt : MS}
noncomputable def sForIn (g : TgD) (m : DS → M D) (body : MS) : MS := fun τ => sBind (m τ) (fun d G => match d with
  | .obj n => match G[n]? with
    | some (.lst xs) => forO g body n (xs.length + 1) 0 τ G
    | _ => .stuck
  | .tup xs => forP g body xs τ G
  | .con xs => forP g body xs τ G
  | .str z => forP g body (z.cps.toList.map fun c => .str ⟨#[c]⟩) τ G
  | _ => .stuck) fun c G => .xn c τ G
theorem for_items {g : TgD} {body : MS} {Dd : Ends} {J : It} {H0 : Hp} {σ0 : L2.St} {ρ0 : List Addr} {G0 : DH} {τ0 : DS} (ds : List D)
    (go : ∀ i H ρ, i < ds.length → Fut X.K H0 H ρ0 ρ → J.go i H) (stop : ∀ i H ρ, ds.length ≤ i → Fut X.K H0 H ρ0 ρ → J.stop i H)
    (yld : ∀ i d H ρ x H', ds[i]? = some d → Fut X.K H0 H ρ0 ρ → J.yld i H x H' → H' = H ∧ Rep X.K X.mg ρ H d x)
    (ab : Ab X.K X.mg σ0 H0 τ0 ρ0 G0) (ok : OkS X.K X.mg EE H0 ρ0 Dd (forP g body ds τ0 G0)) :
    ∃ W : Nat → Nat → L2.St → Hp → Prop, (∃ m, W 0 m σ0 H0) ∧ ∀ i m σ H, W i m σ H →
      (J.stop i H ∧ Dd.nx σ H) ∨ (J.go i H ∧ ∃ N : L2.St → Hp → Prop, (∀ σ' H', N σ' H' → ∃ m', m' < m ∧ W (i + 1) m' σ' H') ∧ ∀ x H', J.yld i H x H' → liftG X.K X.mg g x σ H' fun σ2 H2 => liftS X.K X.mg EE body { Dd with nx := N, ct := N, bk := Dd.nx } σ2 H2) := by
  refine ⟨fun i m σ H => i ≤ ds.length ∧ m = ds.length - i ∧ ∃ τ ρ G, Ab X.K X.mg σ H τ ρ G ∧ Fut X.K H0 H ρ0 ρ ∧ OkS X.K X.mg EE H ρ Dd (forP g body (ds.drop i) τ G), ⟨ds.length, Nat.zero_le _, rfl, τ0, ρ0, G0, ab, .refl, by simpa using ok⟩, ?_⟩
  rintro i m σ H ⟨hi, rfl, τ, ρ, G, ab, f, ok⟩
  by_cases hlt : i < ds.length
  · refine .inr ⟨go i H ρ hlt f, fun σ' H' => ∃ τ' ρ' G', Ab X.K X.mg σ' H' τ' ρ' G' ∧ Fut X.K H0 H' ρ0 ρ' ∧ OkS X.K X.mg EE H' ρ' Dd (forP g body (ds.drop (i + 1)) τ' G'), fun σ' H' n => ⟨ds.length - (i + 1), by omega, hlt, rfl, n⟩, fun x H' y => ?_⟩
    obtain ⟨rfl, rx⟩ := yld i ds[i] H ρ x H' (List.getElem?_eq_getElem hlt) f y
    rw [List.drop_eq_getElem_cons hlt] at ok
    unfold forP at ok
    cases e : g ds[i] τ with
    | none => rw [e] at ok; exact ok.elim
    | some τ1 =>
      rw [e] at ok
      dsimp only at ok
      refine ⟨τ, ρ, G, ds[i], τ1, ab, rx, e, fun σ' ab' => ⟨τ1, ρ, G, ab', ?_⟩⟩
      cases eb : body τ1 G with
      | stuck => rw [eb] at ok; exact ok
      | nx τ2 G2 => rw [eb] at ok; exact fun σ2 H2 ρ2 f2 ab2 => ⟨τ2, ρ2, G2, ab2, f.trans f2, ok.fut f2⟩
      | ct τ2 G2 => rw [eb] at ok; exact fun σ2 H2 ρ2 f2 ab2 => ⟨τ2, ρ2, G2, ab2, f.trans f2, ok.fut f2⟩
      | bk τ2 G2 => rw [eb] at ok; exact ok
      | rt d G2 => rw [eb] at ok; exact ok
      | xn c τ2 G2 => rw [eb] at ok; exact ok
  · have e : i = ds.length := by omega
    subst e
    refine .inl ⟨stop _ H ρ (Nat.le_refl _) f, ?_⟩
    rw [List.drop_eq_nil_of_le (Nat.le_refl _)] at ok
    exact ok σ H ρ .refl ab
theorem for_obj {g : TgD} {body : MS} {Dd : Ends} {H0 : Hp} {σ0 : L2.St} {ρ0 : List Addr} {G0 : DH} {τ0 : DS} {n : Nat} {p : Addr} {fuel : Nat} (hn : ρ0[n]? = some p)
    (ab : Ab X.K X.mg σ0 H0 τ0 ρ0 G0) (ok : OkS X.K X.mg EE H0 ρ0 Dd (forO g body n fuel 0 τ0 G0)) :
    ∃ W : Nat → Nat → L2.St → Hp → Prop, (∃ m, W 0 m σ0 H0) ∧ ∀ i m σ H, W i m σ H →
      ((Itl X.K p).stop i H ∧ Dd.nx σ H) ∨ ((Itl X.K p).go i H ∧ ∃ N : L2.St → Hp → Prop, (∀ σ' H', N σ' H' → ∃ m', m' < m ∧ W (i + 1) m' σ' H') ∧ ∀ x H', (Itl X.K p).yld i H x H' → liftG X.K X.mg g x σ H' fun σ2 H2 => liftS X.K X.mg EE body { Dd with nx := N, ct := N, bk := Dd.nx } σ2 H2) := by
  refine ⟨fun i m σ H => ∃ τ ρ G, Ab X.K X.mg σ H τ ρ G ∧ Fut X.K H0 H ρ0 ρ ∧ OkS X.K X.mg EE H ρ Dd (forO g body n m i τ G), ⟨fuel, τ0, ρ0, G0, ab, .refl, ok⟩, ?_⟩
  rintro i m σ H ⟨τ, ρ, G, ab, f, ok⟩
  cases m with
  | zero => exact ok.elim
  | succ m =>
    unfold forO at ok
    cases q : G[n]? with
    | none => rw [q] at ok; exact ok.elim
    | some o =>
      cases o with
      | dead => first | (rw [q] at ok; exact ok.elim) | (rw [q] at ok2; exact ok2.elim) | (rw [q] at e; cases e; done) | (rw [g] at ok; exact ok.elim) | (rw [g] at q; cases q; done) | (rw [g] at h; cases h; done) | (rw [g2] at ok; exact ok.elim) | (rw [g1, g2] at ok; exact ok.elim) | (rw [q1] at ok; exact ok.elim) | exact ok.elim
      | dct kv => first | (rw [q] at ok; exact ok.elim) | (rw [q] at ok2; exact ok2.elim) | (rw [q] at e; cases e; done) | (rw [g] at ok; exact ok.elim) | (rw [g] at q; cases q; done) | (rw [g] at h; cases h; done) | (rw [g2] at ok; exact ok.elim) | (rw [g1, g2] at ok; exact ok.elim) | (rw [q1] at ok; exact ok.elim) | exact ok.elim
      | lst ds =>
        rw [q] at ok
        dsimp only at ok
        obtain ⟨p', xs, e1, e2, rs⟩ := ab.hp.lst q
        rw [f.get hn] at e1; cases e1
        cases qd : ds[i]? with
        | none =>
          rw [qd] at ok
          have hl : xs.length ≤ i := by rw [← rs.length]; exact List.getElem?_eq_none_iff.mp qd
          exact .inl ⟨⟨xs, .of e2, hl⟩, ok σ H ρ .refl ab⟩
        | some d =>
          rw [qd] at ok
          dsimp only at ok
          obtain ⟨x0, ex, rx⟩ := rs.get qd
          refine .inr ⟨⟨xs, x0, .of e2, ex⟩, fun σ' H' => ∃ τ' ρ' G', Ab X.K X.mg σ' H' τ' ρ' G' ∧ Fut X.K H0 H' ρ0 ρ' ∧ OkS X.K X.mg EE H' ρ' Dd (forO g body n m (i + 1) τ' G'), fun σ' H' z => ⟨m, Nat.lt_succ_self _, z⟩, fun x H' y => ?_⟩
          obtain ⟨rfl, y⟩ := y
          have e3 := y xs (.of e2)
          rw [ex] at e3; cases e3
          cases e : g d τ with
          | none => rw [e] at ok; exact ok.elim
          | some τ1 =>
            rw [e] at ok
            dsimp only at ok
            refine ⟨τ, ρ, G, d, τ1, ab, rx, e, fun σ' ab' => ⟨τ1, ρ, G, ab', ?_⟩⟩
            cases eb : body τ1 G with
            | stuck => rw [eb] at ok; exact ok
            | nx τ2 G2 => rw [eb] at ok; exact fun σ2 H2 ρ2 f2 ab2 => ⟨τ2, ρ2, G2, ab2, f.trans f2, ok.fut f2⟩
            | ct τ2 G2 => rw [eb] at ok; exact fun σ2 H2 ρ2 f2 ab2 => ⟨τ2, ρ2, G2, ab2, f.trans f2, ok.fut f2⟩
            | bk τ2 G2 => rw [eb] at ok; exact ok
            | rt d G2 => rw [eb] at ok; exact ok
            | xn c τ2 G2 => rw [eb] at ok; exact ok
theorem PI.any {l : Expr} {tl : TE} (hl : PE X l tl) : PI X tg l (fun σ H R => tl σ H fun x H1 => (∃ p, x = .ref p ∧ (∃ xs, SqL X.K H1 p xs) ∧ R (Itl X.K p) H1) ∨ (∃ p, x = .ref p ∧ (∃ xs, SqT X.K H1 p xs) ∧ R (Itt X.K p) H1) ∨ ∃ z, x = .str z ∧ R (Its z) H1) := by
  intro pins s σ H R I h
  refine thn (hl pins s σ H _ I h) fun u s1 ⟨x, H1, I1, r1, q⟩ => ?_
  rcases q with ⟨p, rfl, ⟨xs, sq⟩, q⟩ | ⟨p, rfl, ⟨xs, sq⟩, q⟩ | ⟨z, rfl, q⟩
  · cases r1
    obtain ⟨its, rv, pl, hz⟩ := I1.list sq
    refine wpAny_pyIter_list pl.isList ?_
    have I2 : Inv X pins σ H1 { s1 with heap := s1.heap.push { cls := .type "list_iterator", data := .fields #[.ref p, .int 0 0] } } := I1.kept (t' := s1.toks) fun b o e => Heap.get?_push_of_some _ e
    refine ⟨s1.heap.objs.size, [s1.heap.objs.size], _, Itl X.K p, H1, rfl, I2, turn_list p _, ⟨_, Heap.get?_push_size _ rfl, rfl, rfl⟩, fun b hb => ?_, q⟩
    have e : b = s1.heap.objs.size := by simpa using hb
    subst e
    exact I1.fpOk (Nat.le_refl _) (I1.hok.fresh (Nat.le_refl _))
  · cases r1
    obtain ⟨its, rv, pl, hz⟩ := I1.tuple sq
    refine wpAny_pyIter_tuple pl ?_
    have I2 : Inv X pins σ H1 { s1 with heap := s1.heap.push { cls := .type "tuple_iterator", data := .fields #[.ref p, .int 0 0] } } := I1.kept (t' := s1.toks) fun b o e => Heap.get?_push_of_some _ e
    refine ⟨s1.heap.objs.size, [s1.heap.objs.size], _, Itt X.K p, H1, rfl, I2, turn_tuple p _, ⟨_, Heap.get?_push_size _ rfl, rfl, rfl⟩, fun b hb => ?_, q⟩
    have e : b = s1.heap.objs.size := by simpa using hb
    subst e
    exact I1.fpOk (Nat.le_refl _) (I1.hok.fresh (Nat.le_refl _))
  · obtain ⟨t, rfl⟩ := r1
    refine wpAny_pyIter_strU ?_
    have I2 : Inv X pins σ H1 { s1 with heap := s1.heap.push { cls := .type (strIterType z), data := .fields #[.str z t, .int 0 0] } } := I1.kept (t' := s1.toks) fun b o e => Heap.get?_push_of_some _ e
    refine ⟨s1.heap.objs.size, [s1.heap.objs.size], _, Its z, H1, rfl, I2, turn_str z t _, ⟨_, Heap.get?_push_size _ rfl, rfl, rfl⟩, fun b hb => ?_, q⟩
    have e : b = s1.heap.objs.size := by simpa using hb
    subst e
    exact I1.fpOk (Nat.le_refl _) (I1.hok.fresh (Nat.le_refl _))
theorem qs_for {g : TgD} {body : List Stmt} (hp : PassesOwn (model X.prog X.w) X.A X.env X.xe) (hc : X.calm = true) (ha : QE X EE a ma) (hg : QG X tg g) (hb : QSs X EE body ms) (hs : ∀ x, foldedSetIterable a X.env x = pure x := by intro _; rfl) :
    QS X EE (.For tg a body [] pos) (sForIn g ma ms) := PS.mono (ps_for hp hc (PI.any ha) hg hb hs) fun Dd σ H h => by
  obtain ⟨τ, ρ, G, ab, ok⟩ := bindES (k := fun τ d G => match d with
    | .obj n => match G[n]? with
      | some (.lst xs) => forO g ms n (xs.length + 1) 0 τ G
      | _ => .stuck
    | .tup xs => forP g ms xs τ G
    | .con xs => forP g ms xs τ G
    | .str z => forP g ms (z.cps.toList.map fun c => .str ⟨#[c]⟩) τ G
    | _ => .stuck) h
  refine ⟨τ, ρ, G, ab, ?_⟩
  cases e : ma τ G with
  | stuck => rw [e] at ok; exact ok
  | exn c G' => rw [e] at ok; exact ok
  | ok d G' =>
    rw [e] at ok
    intro v H1 ρ1 f1 ab1 r1
    obtain ⟨τ2, ρ2, G2, d2, ab2, r2, ok2⟩ := ok v H1 ρ1 f1 ab1 r1
    cases d2 <;> try exact ok2.elim
    case obj n =>
      dsimp only at ok2
      unfold Rep at r2
      obtain ⟨p, rfl, e1⟩ := r2
      cases q : G2[n]? with
      | none => rw [q] at ok2; exact ok2.elim
      | some o =>
        cases o with
        | dead => first | (rw [q] at ok; exact ok.elim) | (rw [q] at ok2; exact ok2.elim) | (rw [q] at e; cases e; done) | (rw [g] at ok; exact ok.elim) | (rw [g] at q; cases q; done) | (rw [g] at h; cases h; done) | (rw [g2] at ok; exact ok.elim) | (rw [g1, g2] at ok; exact ok.elim) | (rw [q1] at ok; exact ok.elim) | exact ok.elim
        | dct kv => first | (rw [q] at ok; exact ok.elim) | (rw [q] at ok2; exact ok2.elim) | (rw [q] at e; cases e; done) | (rw [g] at ok; exact ok.elim) | (rw [g] at q; cases q; done) | (rw [g] at h; cases h; done) | (rw [g2] at ok; exact ok.elim) | (rw [g1, g2] at ok; exact ok.elim) | (rw [q1] at ok; exact ok.elim) | exact ok.elim
        | lst xs =>
          rw [q] at ok2
          obtain ⟨p', vs, e2, h2, rs⟩ := ab2.hp.lst q
          rw [e1] at e2; cases e2
          exact .inl ⟨p, rfl, ⟨vs, .of h2⟩, for_obj e1 ab2 ok2⟩
    case tup xs =>
      unfold Rep at r2
      obtain ⟨p, vs, rfl, sq, rs⟩ := r2
      refine .inr (.inl ⟨p, rfl, ⟨vs, sq⟩, for_items xs (fun i H' ρ' hi f => ?_) (fun i H' ρ' hi f => ?_) (fun i d' H' ρ' x H'' hd f y => ?_) ab2 ok2⟩)
      · rw [rs.length] at hi
        exact ⟨vs, vs[i], f.tup _ _ sq, List.getElem?_eq_getElem hi⟩
      · exact ⟨vs, f.tup _ _ sq, by rw [← rs.length]; exact hi⟩
      · obtain ⟨rfl, y⟩ := y
        obtain ⟨w', ew, rw'⟩ := rs.get hd
        have := y vs (f.tup _ _ sq)
        rw [ew] at this; cases this
        exact ⟨rfl, rw'.mono f⟩
    case con xs =>
      unfold Rep at r2
      obtain ⟨p, vs, rfl, sq, rs⟩ := r2
      refine .inl ⟨p, rfl, ⟨vs, sq.seq⟩, for_items xs (fun i H' ρ' hi f => ?_) (fun i H' ρ' hi f => ?_) (fun i d' H' ρ' x H'' hd f y => ?_) ab2 ok2⟩
      · rw [rs.length] at hi
        exact ⟨vs, vs[i], (f.con _ _ sq).seq, List.getElem?_eq_getElem hi⟩
      · exact ⟨vs, (f.con _ _ sq).seq, by rw [← rs.length]; exact hi⟩
      · obtain ⟨rfl, y⟩ := y
        obtain ⟨w', ew, rw'⟩ := rs.get hd
        have := y vs (f.con _ _ sq).seq
        rw [ew] at this; cases this
        exact ⟨rfl, rw'.mono f⟩
    case str z =>
      unfold Rep at r2; subst r2
      refine .inr (.inr ⟨z, rfl, for_items (z.cps.toList.map fun c => .str ⟨#[c]⟩) (fun i H' ρ' hi f => ?_) (fun i H' ρ' hi f => ?_) (fun i d' H' ρ' x H'' hd f y => ?_) ab2 ok2⟩)
      · simpa [Its] using hi
      · simpa [Its] using hi
      · obtain ⟨rfl, c, hc, rfl⟩ := y
        rw [List.getElem?_map] at hd
        have : z.cps.toList[i]? = some c := by simpa using hc
        rw [this] at hd
        cases hd
        exact ⟨rfl, by unfold Rep; rfl⟩
noncomputable def rng1 : List D → Option (List D)
  | [.int j] => if -(2 ^ 62) ≤ j ∧ j < 2 ^ 62 then some ((List.range j.toNat).map fun (k : Nat) => .int (0 + (k : Int))) else none
  | _ => none
noncomputable def sForRng (rng : List D → Option (List D)) (g : TgD) (m : DS → M (List D)) (body : MS) : MS := fun τ => sBind (m τ) (fun ds G => match rng ds with
  | some xs => forP g body xs τ G
  | none => .stuck) fun c G => .xn c τ G
theorem bindAS {K : PySem.W.Frag} {mg : Str → Option Value} {σ : L2.St} {H : Hp} {m : DS → M (List D)} {k : DS → List D → DH → Res} {Dd : Ends} (h : liftS K mg EE (fun τ => sBind (m τ) (k τ) fun c G => .xn c τ G) Dd σ H) :
    liftA K mg EE m σ H fun x H1 => ∃ τ ρ G d, Ab K mg σ H1 τ ρ G ∧ Reps K mg ρ H1 d x ∧ OkS K mg EE H1 ρ Dd (k τ d G) := by
  obtain ⟨τ, ρ, G, ab, ok⟩ := h
  refine ⟨τ, ρ, G, ab, ?_⟩
  dsimp only [sBind] at ok
  cases e : m τ G with
  | stuck => rw [e] at ok; exact ok
  | exn c G' => rw [e] at ok; exact fun H' ρ' f ab' => ok σ H' ρ' f ab'
  | ok d G' => rw [e] at ok; exact fun v H' ρ' f ab' r => ⟨τ, ρ', G', d, ab', r, ok.fut f⟩
theorem rng_items {g : TgD} {body : MS} {Dd : Ends} {H0 : Hp} {σ0 : L2.St} {ρ0 : List Addr} {G0 : DH} {τ0 : DS} (lo : Int) (n : Nat) (ab : Ab X.K X.mg σ0 H0 τ0 ρ0 G0) (ok : OkS X.K X.mg EE H0 ρ0 Dd (forP g body ((List.range n).map fun (k : Nat) => .int (lo + (k : Int))) τ0 G0)) :
    ∃ W : Nat → Nat → L2.St → Hp → Prop, (∃ m, W 0 m σ0 H0) ∧ ∀ i m σ H, W i m σ H →
      ((Itr lo n).stop i H ∧ Dd.nx σ H) ∨ ((Itr lo n).go i H ∧ ∃ N : L2.St → Hp → Prop, (∀ σ' H', N σ' H' → ∃ m', m' < m ∧ W (i + 1) m' σ' H') ∧ ∀ x H', (Itr lo n).yld i H x H' → liftG X.K X.mg g x σ H' fun σ2 H2 => liftS X.K X.mg EE body { Dd with nx := N, ct := N, bk := Dd.nx } σ2 H2) :=
  for_items (J := Itr lo n) _ (fun i H ρ hi f => by simpa [Itr] using hi) (fun i H ρ hi f => by simpa [Itr] using hi) (fun i d H ρ x H' hd f y => by
    obtain ⟨rfl, rfl⟩ := y
    rw [List.getElem?_map] at hd
    cases q : (List.range n)[i]? with
    | none => rw [q] at hd; cases hd
    | some k =>
      rw [q] at hd
      obtain ⟨hk, e⟩ := List.getElem?_eq_some_iff.mp q
      rw [List.getElem_range] at e
      subst e
      cases hd
      exact ⟨rfl, by unfold Rep; rfl⟩) ab ok
theorem qs_forR1 {g : TgD} {m : DS → M (List D)} {body : List Stmt} {p pc : Pos} (hp : PassesOwn (model X.prog X.w) X.A X.env X.xe) (hc : X.calm = true) (hm : X.mg "range" = none) (ha : QA X EE [a] m) (hg : QG X tg g) (hb : QSs X EE body ms)
    (hgl : Gl X "range" := by rfl) (hst : starEach [a] X.env = [(false, eval a X.env)] := by rfl) (hs : ∀ x, foldedSetIterable (.Call (.Name "range" p) [a] [] pc) X.env x = pure x := by intro _; rfl) :
    QS X EE (.For tg (.Call (.Name "range" p) [a] [] pc) body [] pos) (sForRng rng1 g m ms) := PS.mono (ps_for hp hc (pi_range1 hgl hm ha hst) hg hb hs) fun Dd σ H h => by
  obtain ⟨τ, ρ, G, ab, ok⟩ := bindAS (k := fun τ ds G => match rng1 ds with | some xs => forP g ms xs τ G | none => .stuck) h
  refine ⟨τ, ρ, G, ab, ?_⟩
  cases e : m τ G with
  | stuck => rw [e] at ok; exact ok
  | exn c G' => rw [e] at ok; exact ok
  | ok ds G' =>
    rw [e] at ok
    intro vs H1 ρ1 f1 ab1 r1
    obtain ⟨τ2, ρ2, G2, d2, ab2, r2, ok2⟩ := ok vs H1 ρ1 f1 ab1 r1
    cases q : rng1 d2 with
    | none => rw [q] at ok2; exact ok2.elim
    | some xs =>
      rw [q] at ok2
      unfold rng1 at q
      split at q
      · rename_i j
        split at q
        · rename_i hj
          cases q
          unfold Reps at r2
          obtain ⟨v, r, rfl, h1, h2⟩ := r2
          unfold Reps at h2; subst h2
          unfold Rep at h1; subst h1
          exact ⟨j, rfl, hj.1, hj.2, rng_items 0 j.toNat ab2 ok2⟩
        · cases q
      · cases q
end
end L3
end
section
set_option Elab.async false
set_option linter.all false
set_option maxRecDepth 100000
namespace L3
open PySem PySem.Spec L2
noncomputable def OkC (K : PySem.W.Frag) (mg : Str → Option Value) (H : Hp) (ρ : List Addr) : Out D → VK → XK → Prop
  | .stuck, _, _ => False
  | .ok d G', Q, _ => ∀ v H' ρ', Fut K H H' ρ ρ' → HAb K mg H' ρ' G' → Rep K mg ρ' H' d v → Q v H'
  | .exn c G', _, E => ∀ cls H' ρ', (match c with | .mk n _ => mg n = some cls) → Fut K H H' ρ ρ' → HAb K mg H' ρ' G' → E cls none H'
noncomputable def spOf (K : PySem.W.Frag) (mg : Str → Option Value) (n : Nat) (m : List D → M D) : Sp := fun vs H Q E => ∃ ds ρ G, ds.length = n ∧ HAb K mg H ρ G ∧ Reps K mg ρ H ds vs ∧ OkC K mg H ρ (m ds G) Q E
theorem spOf.len {K : PySem.W.Frag} {mg : Str → Option Value} {n : Nat} {m : List D → M D} {vs : List V} {H : Hp} {Q : VK} {E : XK} (h : spOf K mg n m vs H Q E) : vs.length = n := by
  obtain ⟨ds, ρ, G, e, _, r, _⟩ := h
  rw [← r.length, e]
noncomputable def EEs (mg : Str → Option Value) (EE : EXK) (σ : L2.St) : XK := fun cls _ H' => ∃ c, (match c with | .mk n _ => mg n = some cls) ∧ EE c σ H'
noncomputable def Lnk (CX : CXT) (X : Cx) (EE : EXK) : Prop := ∀ (pins : List (Addr × Obj)) (σ : L2.St) (H : Hp) (s : Shared) (e : Value) (s' : Shared), Inv X pins σ H s → CX X.stack H s (EEs X.mg EE σ) e s' → X.xe e s'
section
variable {X : Cx} {CX : CXT} {EE : EXK} {k n : Nat} {f : Addr} {fd : FuncData} {ps : List Str} {mf : List D → M D} {x : Str} {p pos : Pos} {e : Expr} {es : List Expr} {m : DS → M (List D)}
theorem HAb.ab {K : PySem.W.Frag} {mg : Str → Option Value} {σ : L2.St} {H H' : Hp} {τ : DS} {ρ ρ' : List Addr} {G G' : DH} (ab : Ab K mg σ H τ ρ G) (f : Fut K H H' ρ ρ') (h : HAb K mg H' ρ' G') : Ab K mg σ H' τ ρ' G' := ⟨ab.st.mono f, h⟩
theorem run_fnD {pins : List (Addr × Obj)} {σ : L2.St} {H : Hp} {s : Shared} {Q : VK} {us : List Value} {vs : List V} {τ : DS} {ρ : List Addr} {G : DH} {ds : List D} (F : FnOk X.prog X.w X.K X.mg X.base CX k f fd ps (spOf X.K X.mg n mf)) (hr : Room k X.A) (hb : Binds X.K fd ps [])
    (hx : Lnk CX X EE) (I : Inv X pins σ H s) (r : Vals vs us) (ab : Ab X.K X.mg σ H τ ρ G) (rs : Reps X.K X.mg ρ H ds vs) (hn : ds.length = n) (ok : OkE X.K X.mg EE H σ τ ρ (mf ds G) Q) : wpAny (model X.prog X.w) X.A (call (.ref f) us) (EP X pins σ Q) X.xe s := by
  have h : spOf X.K X.mg n mf vs H Q (EEs X.mg EE σ) := by
    refine ⟨ds, ρ, G, hn, ab.hp, rs, ?_⟩
    cases q : mf ds G with
    | stuck => rw [q] at ok; exact ok
    | ok d G' => rw [q] at ok; exact fun v H' ρ' f hp r => ok v H' ρ' f (HAb.ab ab f hp) r
    | exn c G' => rw [q] at ok; exact fun cls H' ρ' hc f hp => ⟨c, hc, ok H' ρ' f (HAb.ab ab f hp)⟩
  have hl : (us ++ []).length = ps.length := by rw [List.append_nil, ← r.length]; exact F.len _ _ _ _ h
  have hbb := hb s us I.kIn hl
  rw [List.append_nil] at hbb
  refine wpAny_call (codeAny_mono (F.run X.A X.stack s H ⟨us, []⟩ us vs Q (EEs X.mg EE σ) hr I.env0 hbb r h) fun r s' hq => ?_)
  cases r with
  | error e => exact hx pins σ H s e s' I hq
  | ok fl =>
    cases fl with
    | ret u => exact I.after hq
    | next => exact False.elim hq
    | brk => exact False.elim hq
    | cont => exact False.elim hq
noncomputable def eCall (n : Nat) (mf : List D → M D) (m : DS → M (List D)) : DS → M D := eArgs (fun ds => if ds.length = n then mf ds else M.stop) m
theorem qe_call (F : FnOk X.prog X.w X.K X.mg X.base CX k f fd ps (spOf X.K X.mg n mf)) (hr : Room k X.A) (hm : X.mg x = some (.ref f)) (hk : PySem.W.keepIn X.K (.ref f) = true) (hb : Binds X.K fd ps []) (hx : Lnk CX X EE)
    (ha : QA X EE (e :: es) m) (hg : Gl X x := by rfl) (hdb : (x == ("__debug__" : Str)) = false := by decide) (he : starEach (e :: es) X.env = (false, eval e X.env) :: starEach es X.env := by rfl) (hpl : (backTo pos (starEach es X.env)).any (·.1) = false := by rfl) :
    QE X EE (.Call (.Name x p) (e :: es) [] pos) (eCall n mf m) := by
  intro pins s σ H Q I h
  obtain ⟨τ, ρ, G, ab, ok⟩ := bindAE (k := fun _ ds => if ds.length = n then mf ds else M.stop) h
  refine wpAny_Call_Name_kw (ld_glob I hg hm ?_ hdb)
  refine PySem.W.callWith_K (h₀ := X.base) I.ok.mod.kin hk (thn (ha pos pins s σ H _ I ⟨τ, ρ, G, ab, ok⟩) fun us s1 ⟨vs, H1, I1, r, q⟩ => ⟨I1.kIn, ?_⟩) he hpl
  obtain ⟨τ1, ρ1, G1, ds, ab1, rs, ok1⟩ := q
  by_cases hn : ds.length = n
  · rw [if_pos hn] at ok1
    exact run_fnD F hr hb hx I1 r ab1 rs hn ok1
  · rw [if_neg hn] at ok1
    exact ok1.elim
end
noncomputable def runB (N : Nat) (ms : MS) (ds : List D) : M D := fun G => match ms (ds.map some ++ List.replicate (N - ds.length) none) G with
  | .stuck => .stuck
  | .nx _ G' => .ok .non G'
  | .rt d G' => .ok d G'
  | .bk _ _ => .stuck
  | .ct _ _ => .stuck
  | .xn c _ G' => .exn c G'
theorem srep_start {K : PySem.W.Frag} {mg : Str → Option Value} {H : Hp} {ρ : List Addr} {ds : List D} {vs : List V} {N : List Str} (r : Reps K mg ρ H ds vs) : SRep K mg H ρ (L2.start N vs) (ds.map some ++ List.replicate (N.length - ds.length) none) := by
  have hl := r.length
  refine ⟨by unfold L2.start; simp [hl], fun i d e => ?_⟩
  have hi : i < ds.length := by
    by_cases hi : i < ds.length
    · exact hi
    · rw [List.getElem?_append_right (by simpa using hi), List.getElem?_replicate] at e
      split at e <;> cases e
  rw [List.getElem?_append_left (by simpa using hi), List.getElem?_map] at e
  cases q : ds[i]? with
  | none => rw [q] at e; cases e
  | some d' =>
    rw [q] at e; cases e
    obtain ⟨v, e1, r1⟩ := r.get q
    refine ⟨v, ?_, r1⟩
    unfold L2.start
    rw [List.getElem?_append_left (by simp; omega), List.getElem?_map, e1]
    rfl
section
variable {P : Program} {w : World} {K : PySem.W.Frag} {mg : Str → Option Value} {base : Heap} {f : Addr} {fd : FuncData}
end
end L3
end
section
set_option Elab.async false
set_option linter.all false
set_option maxRecDepth 100000
namespace L3
open PySem PySem.Spec L2
section
variable {X : Cx} {EE : EXK} {a b c : Expr} {ma mb mc : DS → M D} {pos : Pos}
noncomputable def rCD (X : Cx) (EE : EXK) (f : List D → M D) : List V → Hp → VK → Prop := fun xs H Q => ∃ σ τ ρ G ds, Ab X.K X.mg σ H τ ρ G ∧ Reps X.K X.mg ρ H ds xs ∧ OkE X.K X.mg EE H σ τ ρ (f ds G) Q
theorem callD_self {f : List D → M D} : CallD X EE (rCD X EE f) f := fun σ H τ ρ G xs ds Q ab r ok => ⟨σ, τ, ρ, G, ds, ab, r, ok⟩
theorem reps1 {K : PySem.W.Frag} {mg : Str → Option Value} {ρ : List Addr} {H : Hp} {d : D} {xs : List V} (r : Reps K mg ρ H [d] xs) : ∃ x, xs = [x] ∧ Rep K mg ρ H d x := by
  unfold Reps at r
  obtain ⟨v, r', rfl, h1, h2⟩ := r
  unfold Reps at h2; subst h2
  exact ⟨v, rfl, h1⟩
theorem reps2 {K : PySem.W.Frag} {mg : Str → Option Value} {ρ : List Addr} {H : Hp} {d e : D} {xs : List V} (r : Reps K mg ρ H [d, e] xs) : ∃ x y, xs = [x, y] ∧ Rep K mg ρ H d x ∧ Rep K mg ρ H e y := by
  unfold Reps at r
  obtain ⟨v, r', rfl, h1, h2⟩ := r
  obtain ⟨y, rfl, h3⟩ := reps1 h2
  exact ⟨v, y, rfl, h1, h3⟩
noncomputable def dLen : List D → M D
  | [d] => fun G => match seqOf G d with
    | some (.lst xs) => .ok (.int xs.length) G
    | some (.tup xs) => .ok (.int xs.length) G
    | some (.str z) => if z.length ≤ sizeLine then .ok (.int z.length) G else .stuck
    | none => .stuck
  | _ => M.stop
theorem call_lenD : CallR X (.builtin "len") (rCD X EE dLen) := by
  intro pins s σ0 H xs us Q I r ⟨σ, τ, ρ, G, ds, ab, rs, ok⟩
  match ds, ok with
  | [], ok => exact ok.elim
  | _ :: _ :: _, ok => exact ok.elim
  | [d], ok =>
    obtain ⟨x, rfl, rx⟩ := reps1 rs
    dsimp only [dLen] at ok
    cases q : seqOf G d with
    | none => rw [q] at ok; exact ok.elim
    | some sk =>
      rw [q] at ok
      cases sk with
      | lst zs =>
        obtain ⟨p, vs, rfl, sq, rv⟩ := seqOf_lst (pins := pins) (σ0 := σ0) (s := s) ab.hp rx q
        exact call_len_seq pins s σ0 H _ us Q I r ⟨p, vs, rfl, .inl sq, ok _ H ρ .refl ab (by unfold Rep; rw [rv.length])⟩
      | tup zs =>
        obtain ⟨p, vs, rfl, sq, rv⟩ := seqOf_tup rx q
        exact call_len_seq pins s σ0 H _ us Q I r ⟨p, vs, rfl, .inr sq, ok _ H ρ .refl ab (by unfold Rep; rw [rv.length])⟩
      | str z =>
        obtain ⟨rfl, rfl⟩ := seqOf_str rx q
        dsimp only at ok
        by_cases hz : z.length ≤ sizeLine
        · rw [if_pos hz] at ok
          exact call_len_str pins s σ0 H _ us Q I r ⟨z, rfl, hz, ok _ H ρ .refl ab (by unfold Rep; rfl)⟩
        · rw [if_neg hz] at ok; exact ok.elim
inductive Ty where
  | non | bl | int | str | tup | lst | dct
  deriving DecidableEq
noncomputable def Ty.nm : Ty → String
  | .non => "NoneType" | .bl => "bool" | .int => "int" | .str => "str" | .tup => "tuple" | .lst => "list" | .dct => "dict"
noncomputable def tyD (G : DH) : D → Option Ty
  | .non => some .non
  | .bl _ => some .bl
  | .int _ => some .int
  | .str _ => some .str
  | .tup _ => some .tup
  | .con _ => some .lst
  | .obj n => match G[n]? with
    | some (.lst _) => some .lst
    | _ => none
  | .fn _ => none
  | .exo _ _ => none
noncomputable def Ty.is (t c : Ty) : Bool := decide (t = c) || (decide (t = .bl) && decide (c = .int))
theorem kit_ty (K : PySem.W.Frag) : ∀ (t c : Ty), c ≠ .non → PySem.W.kitOne K (.type t.nm) (.type c.nm) = some (t.is c) := by
  intro t c h
  cases t <;> cases c <;> first | exact absurd rfl h | rfl | (with_unfolding_all rfl) | decide +kernel
noncomputable def dIsi (c : Ty) (d : D) : M D := fun G => match tyD G d with
  | some t => .ok (.bl (t.is c)) G
  | none => .stuck
noncomputable def eIsi (c : Ty) (m : DS → M D) : DS → M D := fun τ => (m τ).bind (dIsi c)
theorem isi_run {c : Ty} (hc : c ≠ .non) {pins : List (Addr × Obj)} {s : Shared} {σ0 σ : L2.St} {H : Hp} {τ : DS} {ρ : List Addr} {G : DH} {d : D} {x : V} {u : Value} {Q : VK} (I : Inv X pins σ0 H s) (ab : Ab X.K X.mg σ H τ ρ G) (rx : Rep X.K X.mg ρ H d x) (ru : RelV x u)
    (ok : OkE X.K X.mg EE H σ τ ρ (dIsi c d G) Q) : wpAny (model X.prog X.w) X.A (call (.builtin "isinstance") [u, .type c.nm]) (EP X pins σ0 Q) X.xe s := by
  dsimp only [dIsi] at ok
  have fin : ∀ {b : Bool}, Q (.bl b) H → ∀ tk, EP X pins σ0 Q (.bool b) { s with toks := tk } := fun q tk => ⟨.bl _, H, I.tok tk, rfl, q⟩
  cases d with
  | non =>
    have q := ok (.bl _) H ρ .refl ab (by unfold Rep; rfl)
    unfold Rep at rx; subst rx; cases ru
    exact PySem.W.kia_one PySem.W.kitx_none I.kIn True.intro (kit_ty X.K .non c hc) (fun z => nomatch z) (fin q)
  | bl y =>
    have q := ok (.bl _) H ρ .refl ab (by unfold Rep; rfl)
    unfold Rep at rx; subst rx; cases ru
    exact PySem.W.kia_one PySem.W.kitx_bool I.kIn True.intro (kit_ty X.K .bl c hc) (fun z => nomatch z) (fin q)
  | int y =>
    have q := ok (.bl _) H ρ .refl ab (by unfold Rep; rfl)
    unfold Rep at rx; subst rx; obtain ⟨t, rfl⟩ := ru
    exact PySem.W.kia_one PySem.W.kitx_int I.kIn True.intro (kit_ty X.K .int c hc) (fun z => nomatch z) (fin q)
  | str y =>
    have q := ok (.bl _) H ρ .refl ab (by unfold Rep; rfl)
    unfold Rep at rx; subst rx; obtain ⟨t, rfl⟩ := ru
    exact PySem.W.kia_one PySem.W.kitx_str I.kIn True.intro (kit_ty X.K .str c hc) (fun z => nomatch z) (fin q)
  | tup ys =>
    have q := ok (.bl _) H ρ .refl ab (by unfold Rep; rfl)
    unfold Rep at rx
    obtain ⟨p, vs, rfl, sq, _⟩ := rx
    cases ru
    obtain ⟨its, _, ⟨o, h1, h2, _⟩, _⟩ := I.tuple sq
    exact PySem.W.kia_one PySem.W.kitx_tuple I.kIn ⟨o, h1, h2⟩ (kit_ty X.K .tup c hc) (fun z => nomatch z) (fin q)
  | con ys =>
    have q := ok (.bl _) H ρ .refl ab (by unfold Rep; rfl)
    unfold Rep at rx
    obtain ⟨p, vs, rfl, sq, _⟩ := rx
    cases ru
    obtain ⟨its, _, ⟨o, k, h1, h2, _⟩, _⟩ := I.list sq.seq
    exact PySem.W.kia_one PySem.W.kitx_list I.kIn ⟨o, h1, h2⟩ (kit_ty X.K .lst c hc) (fun z => nomatch z) (fin q)
  | obj n =>
    unfold Rep at rx
    obtain ⟨p, rfl, e1⟩ := rx
    cases ru
    dsimp only [tyD] at ok
    cases g : G[n]? with
    | none => rw [g] at ok; exact ok.elim
    | some o =>
      cases o with
      | dead => first | (rw [q] at ok; exact ok.elim) | (rw [q] at ok2; exact ok2.elim) | (rw [q] at e; cases e; done) | (rw [g] at ok; exact ok.elim) | (rw [g] at q; cases q; done) | (rw [g] at h; cases h; done) | (rw [g2] at ok; exact ok.elim) | (rw [g1, g2] at ok; exact ok.elim) | (rw [q1] at ok; exact ok.elim) | exact ok.elim
      | dct kv => first | (rw [q] at ok; exact ok.elim) | (rw [q] at ok2; exact ok2.elim) | (rw [q] at e; cases e; done) | (rw [g] at ok; exact ok.elim) | (rw [g] at q; cases q; done) | (rw [g] at h; cases h; done) | (rw [g2] at ok; exact ok.elim) | (rw [g1, g2] at ok; exact ok.elim) | (rw [q1] at ok; exact ok.elim) | exact ok.elim
      | lst ys =>
        rw [g] at ok
        have q := ok (.bl _) H ρ .refl ab (by unfold Rep; rfl)
        obtain ⟨p', vs, e2, hp, _⟩ := ab.hp.lst g
        rw [e1] at e2; cases e2
        obtain ⟨its, _, ⟨o, k, h1, h2, _⟩, _⟩ := I.list (.of hp)
        exact PySem.W.kia_one PySem.W.kitx_list I.kIn ⟨o, h1, h2⟩ (kit_ty X.K .lst c hc) (fun z => nomatch z) (fin q)
  | exo _ _ => exact ok.elim
  | fn x => exact ok.elim
theorem qe_isi (c : Ty) {p pt : Pos} {x : Str} (hc : c ≠ .non) (hm : X.mg "isinstance" = none) (hmt : X.mg x = none) (ha : QE X EE a ma) (hb : bootBuiltins x = some (.type c.nm))
    (hg : Gl X "isinstance" := by rfl) (hgt : Gl X x := by rfl) (hnt : x ≠ "__name__" := by decide) (hdt : (x == ("__debug__" : Str)) = false := by decide)
    (he : starEach [a, .Name x pt] X.env = (false, eval a X.env) :: starEach [.Name x pt] X.env := by rfl) (he2 : starEach [.Name x pt] X.env = (false, eval (.Name x pt) X.env) :: starEach [] X.env := by rfl) (hpl : (backTo pos (starEach [.Name x pt] X.env)).any (·.1) = false := by rfl)
    (hbi : bootBuiltins "isinstance" = some (.builtin "isinstance") := by first | exact PyProof.Rows.boot_isinstance | decide +kernel) :
    QE X EE (.Call (.Name "isinstance" p) [a, .Name x pt] [] pos) (eIsi c ma) := by
  have hT : PE X (.Name x pt) (tC (.ty c.nm)) := pe_bltn hgt hmt hb rfl hnt hdt
  have hA : PA X [a, .Name x pt] (tCons (liftE X.K X.mg EE ma) (tCons (tC (.ty c.nm)) tNil)) := pa_cons ha (pa_cons hT pa_nil he2) he
  intro pins s σ H Q I h
  obtain ⟨τ, ρ, G, ab, ok⟩ := bindEE (k := fun _ d => dIsi c d) h
  refine wpAny_Call_Name_kw (ld_blt I hg hm hbi ?_ (by decide) (by decide))
  refine PyProof.Rows.callWith_builtin1 (thn (hA pos pins s σ H (fun vs H1 => ∃ x, vs = [x, .ty c.nm] ∧ ∃ τ ρ G d, Ab X.K X.mg σ H1 τ ρ G ∧ Rep X.K X.mg ρ H1 d x ∧ OkE X.K X.mg EE H1 σ τ ρ (dIsi c d G) Q) I ⟨τ, ρ, G, ab, ?_⟩) fun us s1 ⟨vs, H1, I1, r1, q1⟩ => ?_) he hpl
  · cases e : ma τ G with
    | stuck => rw [e] at ok; exact ok
    | exn c G' => rw [e] at ok; exact ok
    | ok d G' => rw [e] at ok; exact fun v H' ρ' f' ab' r' => ⟨v, rfl, ok v H' ρ' f' ab' r'⟩
  · obtain ⟨y, rfl, τ2, ρ2, G2, d, ab2, rd, ok2⟩ := q1
    cases r1 with
    | cons ry rr =>
      cases rr with
      | cons rt rr =>
        cases rr
        cases rt
        exact isi_run hc I1 ab2 rd ry ok2
end
end L3
end
section
set_option Elab.async false
set_option linter.all false
set_option maxRecDepth 100000
namespace L3
open PySem PySem.Spec L2
section
variable {X : Cx} {EE : EXK} {a b c : Expr} {ma mb mc : DS → M D} {pos : Pos}
noncomputable def blsOf : List D → Option (List Bool)
  | [] => some []
  | .bl b :: r => (blsOf r).map (b :: ·)
  | _ :: _ => none
noncomputable def dAll (any : Bool) : List D → M D
  | [d] => fun G => match seqOf G d with
    | some (.lst xs) => match blsOf xs with
      | some bs => .ok (.bl (if any then bs.any id else bs.all id)) G
      | none => .stuck
    | _ => .stuck
  | _ => M.stop
theorem blsOf_are {K : PySem.W.Frag} {mg : Str → Option Value} {ρ : List Addr} {H : Hp} : ∀ {ds : List D} {vs : List V} {us : List Value} {bs : List Bool}, Reps K mg ρ H ds vs → Vals vs us → blsOf ds = some bs → us = bs.map Value.bool
  | [], vs, us, bs, r, v, e => by unfold Reps at r; subst r; cases v; cases e; rfl
  | d :: ds, vs, us, bs, r, v, e => by
    unfold Reps at r
    obtain ⟨x, r', rfl, h1, h2⟩ := r
    cases v with
    | cons v1 v2 =>
      cases d <;> try (cases e; done)
      rename_i b
      dsimp only [blsOf] at e
      cases q : blsOf ds with
      | none => rw [q] at e; cases e
      | some bs' =>
        rw [q] at e; cases e
        unfold Rep at h1; subst h1; cases v1
        rw [blsOf_are h2 v2 q]; rfl
theorem kept_iterD {s : Shared} {h' : Heap} {o : Obj} (hk : ∀ b x, b ∉ [s.heap.objs.size] → (s.heap.push o).get? b = some x → h'.get? b = some x) : ∀ b x, s.heap.get? b = some x → h'.get? b = some x :=
  fun b x e => hk b x (fun hm => by rw [List.mem_singleton.mp hm] at e; exact Nat.lt_irrefl _ (Heap.lt_size e)) (Heap.get?_push_of_some _ e)
theorem range_anyD (bs : List Bool) : ((List.range bs.length).any fun i => (bs[i]?).getD false) = bs.any id := by
  rw [Bool.eq_iff_iff, List.any_eq_true, List.any_eq_true]
  constructor
  · rintro ⟨i, hi, e⟩
    have hi' := List.mem_range.mp hi
    simp only [List.getElem?_eq_getElem hi', Option.getD_some] at e
    exact ⟨_, List.getElem_mem hi', e⟩
  · rintro ⟨b, hb, e⟩
    obtain ⟨i, hi, rfl⟩ := List.getElem_of_mem hb
    exact ⟨i, List.mem_range.mpr hi, by simp only [List.getElem?_eq_getElem hi, Option.getD_some]; exact e⟩
theorem call_anyD (hc : X.calm = true) : CallR X (.builtin "any") (rCD X EE (dAll true)) := by
  intro pins s σ0 H xs us Q I r ⟨σ, τ, ρ, G, ds, ab, rs, ok⟩
  match ds, ok with
  | [], ok => exact ok.elim
  | _ :: _ :: _, ok => exact ok.elim
  | [d], ok =>
    obtain ⟨x, rfl, rx⟩ := reps1 rs
    obtain ⟨u, rfl, ru⟩ := vals1 r
    dsimp only [dAll] at ok
    cases q : seqOf G d with
    | none => rw [q] at ok; exact ok.elim
    | some sk =>
      rw [q] at ok
      cases sk with
      | tup zs => exact ok.elim
      | str z => exact ok.elim
      | lst zs =>
        dsimp only at ok
        cases qb : blsOf zs with
        | none => rw [qb] at ok; exact ok.elim
        | some bs =>
          rw [qb] at ok
          obtain ⟨p, vs, rfl, sq, rv⟩ := seqOf_lst (pins := pins) (σ0 := σ0) (s := s) ab.hp rx q
          cases ru
          obtain ⟨its, vv, pl, hz⟩ := I.list sq
          have e := blsOf_are rv vv qb
          subst e
          have hl := pl.isList
          have hlt : p < s.heap.objs.size := by obtain ⟨_, e, _⟩ := hl; exact Heap.lt_size e
          refine call_any_walk (wpAny_pyIter_list hl ?_)
          refine ⟨s.heap.objs.size, [s.heap.objs.size, p], [s.heap.objs.size], (bs.map Value.bool).toArray.size, _, _, fun i => (bs[i]?).getD false, rfl, Walks.list (A := X.A.in1) (I.ok.hd hc) _ p (Nat.ne_of_lt hlt) _,
            ⟨⟨_, Heap.get?_push_size _ rfl, rfl, rfl⟩, hl.push _⟩, fun i v s' Q' E' hP hQ => ?_, fun h' tk hk => ?_⟩
          · have hP' : (bs.map Value.bool)[i]? = some v := by simpa using hP
            rw [List.getElem?_map] at hP'
            cases qi : bs[i]? with
            | none => rw [qi] at hP'; cases hP'
            | some k =>
              rw [qi] at hP'; cases hP'
              simp only [qi, Option.getD_some] at hQ
              exact wpAny_truthy_bool hQ
          · rw [show (bs.map Value.bool).toArray.size = bs.length by simp, range_anyD]
            exact ⟨.bl _, H, I.kept (t' := tk) (kept_iterD hk), rfl, ok _ H ρ .refl ab (by unfold Rep; rfl)⟩
noncomputable def dInt2L (g : Int → Int → Int) : List D → M D
  | [.int i, .int j] => M.ret (.int (g i j))
  | _ => M.stop
theorem int2L_of {g : Int → Int → Int} {ds : List D} {G : DH} {σ : L2.St} {H : Hp} {τ : DS} {ρ : List Addr} {Q : VK} (ok : OkE X.K X.mg EE H σ τ ρ (dInt2L g ds G) Q) : ∃ i j, ds = [.int i, .int j] ∧ OkE X.K X.mg EE H σ τ ρ (.ok (.int (g i j)) G) Q := by
  unfold dInt2L at ok
  split at ok
  · exact ⟨_, _, rfl, ok⟩
  · exact ok.elim
theorem call_minD (hc : X.calm = true) : CallR X (.builtin "min") (rCD X EE (dInt2L fun i j => if j < i then j else i)) := by
  intro pins s σ0 H xs us Q I r ⟨σ, τ, ρ, G, ds, ab, rs, ok⟩
  obtain ⟨i, j, rfl, ok⟩ := int2L_of ok
  obtain ⟨x, y, rfl, r1, r2⟩ := reps2 rs
  unfold Rep at r1 r2; subst r1 r2
  exact call_min2 hc pins s σ0 H _ us Q I r ⟨i, j, rfl, ok _ H ρ .refl ab (by unfold Rep; rfl)⟩
noncomputable def rMD (X : Cx) (EE : EXK) (f : D → List D → M D) : V → List V → Hp → VK → Prop := fun x xs H Q => ∃ σ τ ρ G d ds, Ab X.K X.mg σ H τ ρ G ∧ Rep X.K X.mg ρ H d x ∧ Reps X.K X.mg ρ H ds xs ∧ OkE X.K X.mg EE H σ τ ρ (f d ds G) Q
noncomputable def kindOk (T : String) (G : DH) : D → Bool
  | .str _ => T == "str"
  | .int _ => T == "int"
  | .con _ => T == "list"
  | .obj n => match G[n]? with
    | some (.lst _) => T == "list"
    | _ => false
  | _ => false
theorem kindOk_is {T : String} {σ : L2.St} {H : Hp} {τ : DS} {ρ : List Addr} {G : DH} {d : D} {x : V} (ab : Ab X.K X.mg σ H τ ρ G) (r : Rep X.K X.mg ρ H d x) (h : kindOk T G d = true) : tyV X.K T x H := by
  cases d with
  | str z => unfold Rep at r; subst r; exact eq_of_beq h
  | int z => unfold Rep at r; subst r; exact eq_of_beq h
  | con zs =>
    unfold Rep at r
    obtain ⟨p, vs, rfl, sq, _⟩ := r
    exact .inl ⟨eq_of_beq h, vs, sq.seq⟩
  | obj n =>
    unfold Rep at r
    obtain ⟨p, rfl, e1⟩ := r
    dsimp only [kindOk] at h
    cases g : G[n]? with
    | none => rw [g] at h; cases h
    | some o =>
      cases o with
      | dead => first | (rw [q] at ok; exact ok.elim) | (rw [q] at ok2; exact ok2.elim) | (rw [q] at e; cases e; done) | (rw [g] at ok; exact ok.elim) | (rw [g] at q; cases q; done) | (rw [g] at h; cases h; done) | (rw [g2] at ok; exact ok.elim) | (rw [g1, g2] at ok; exact ok.elim) | (rw [q1] at ok; exact ok.elim) | exact ok.elim
      | dct kv => first | (rw [q] at ok; exact ok.elim) | (rw [q] at ok2; exact ok2.elim) | (rw [q] at e; cases e; done) | (rw [g] at ok; exact ok.elim) | (rw [g] at q; cases q; done) | (rw [g] at h; cases h; done) | (rw [g2] at ok; exact ok.elim) | (rw [g1, g2] at ok; exact ok.elim) | (rw [q1] at ok; exact ok.elim) | exact ok.elim
      | lst ys =>
        rw [g] at h
        obtain ⟨p', vs, e2, hp, _⟩ := ab.hp.lst g
        rw [e1] at e2; cases e2
        exact .inl ⟨eq_of_beq h, vs, .of hp⟩
  | _ => cases h
noncomputable def eMethT (T : String) (f : D → List D → M D) (mo : DS → M D) (m : DS → M (List D)) : DS → M D := fun τ => (mo τ).bind fun d G => if kindOk T G d then (m τ).bind (fun ds => f d ds) G else .stuck
theorem qe_bm {o e : Expr} {es : List Expr} {name : Str} {apos cpos : Pos} {T id : String} {f : D → List D → M D} {mo : DS → M D} {m : DS → M (List D)} (pa : PlainAttrs T) (slot : Slot T name id) (hty : typeOf (.builtin id) = pure (.type "method_descriptor")) (hm : MtR X id (rMD X EE f)) (ho : QE X EE o mo) (ha : QA X EE (e :: es) m)
    (hbase : attributeBase o name X.env (eval o X.env) = eval o X.env := by rfl)
    (hfew : ((backTo cpos (starEach (e :: es) X.env)).all (fun x => !x.1) && (backToKw cpos (keywordEach [] X.env)).all (fun x => x.1.isSome)
      && decide ((e :: es).length + ([] : List Keyword).length + (if ([] : List Keyword).isEmpty then 0 else 1) < 30)) = true := by rfl)
    (hline : (apos.endLine == cpos.line) = true := by rfl) (hs : starEach (e :: es) X.env = (false, eval e X.env) :: starEach es X.env := by rfl) (hplain : (backTo cpos (starEach es X.env)).any (·.1) = false := by rfl) :
    QE X EE (.Call (.Attribute o name apos) (e :: es) [] cpos) (eMethT T f mo m) := PE.mono (pe_bm pa slot hty hm ho ha hbase hfew hline hs hplain) fun σ H Q h => by
  obtain ⟨τ, ρ, G, ab, ok⟩ := bindEE (k := fun τ d G => if kindOk T G d then (m τ).bind (fun ds => f d ds) G else .stuck) h
  refine ⟨τ, ρ, G, ab, ?_⟩
  cases e : mo τ G with
  | stuck => rw [e] at ok; exact ok
  | exn c G' => rw [e] at ok; exact ok
  | ok d G' =>
    rw [e] at ok
    intro v H' ρ' f' ab' r'
    obtain ⟨τ2, ρ2, G2, d2, ab2, r2, ok2⟩ := ok v H' ρ' f' ab' r'
    by_cases hk : kindOk T G2 d2 = true
    · rw [if_pos hk] at ok2
      refine ⟨kindOk_is ab2 r2 hk, τ2, ρ2, G2, ab2, ?_⟩
      dsimp only [M.bind] at ok2
      cases e2 : m τ2 G2 with
      | stuck => rw [e2] at ok2; exact ok2
      | exn c G' => rw [e2] at ok2; exact ok2
      | ok ds G3 =>
        rw [e2] at ok2
        exact fun vs H3 ρ3 f3 ab3 r3 => ⟨σ, τ2, ρ3, G3, d2, ds, ab3, r2.mono f3, r3, ok2.fut f3⟩
    · rw [if_neg hk] at ok2; exact ok2.elim
theorem qe_bm0 {o : Expr} {name : Str} {apos cpos : Pos} {T id : String} {f : D → List D → M D} {mo : DS → M D} (pa : PlainAttrs T) (slot : Slot T name id) (hty : typeOf (.builtin id) = pure (.type "method_descriptor")) (hm : MtR X id (rMD X EE f)) (ho : QE X EE o mo)
    (hbase : attributeBase o name X.env (eval o X.env) = eval o X.env := by rfl) (hline : (apos.endLine == cpos.line) = true := by rfl) :
    QE X EE (.Call (.Attribute o name apos) [] [] cpos) (eMethT T f mo aNil) := PE.mono (pe_bm0 pa slot hty hm ho hbase hline) fun σ H Q h => by
  obtain ⟨τ, ρ, G, ab, ok⟩ := bindEE (k := fun τ d G => if kindOk T G d then (aNil τ).bind (fun ds => f d ds) G else .stuck) h
  refine ⟨τ, ρ, G, ab, ?_⟩
  cases e : mo τ G with
  | stuck => rw [e] at ok; exact ok
  | exn c G' => rw [e] at ok; exact ok
  | ok d G' =>
    rw [e] at ok
    intro v H' ρ' f' ab' r'
    obtain ⟨τ2, ρ2, G2, d2, ab2, r2, ok2⟩ := ok v H' ρ' f' ab' r'
    by_cases hk : kindOk T G2 d2 = true
    · rw [if_pos hk] at ok2
      exact ⟨kindOk_is ab2 r2 hk, σ, τ2, ρ2, G2, d2, [], ab2, r2, .nil, ok2⟩
    · rw [if_neg hk] at ok2; exact ok2.elim
noncomputable def dAppend : D → List D → M D
  | .obj n, [v] => fun G => match G[n]? with
    | some (.lst xs) => if xs.length < sizeLine then .ok .non (G.set n (.lst (xs ++ [v]))) else .stuck
    | _ => .stuck
  | _, _ => M.stop
theorem put_ok {σ : L2.St} {H : Hp} {τ : DS} {ρ : List Addr} {G : DH} {n : Nat} {xs ys : List D} {d : D} {w : V} {p : Addr} {vs ws : List V} {Q : VK} (ab : Ab X.K X.mg σ H τ ρ G) (hn : ρ[n]? = some p) (hp : H p = some (.lst vs)) (r : Reps X.K X.mg ρ H ys ws)
    (rd : ∀ H', Fut X.K H H' ρ ρ → Rep X.K X.mg ρ H' d w) (ok : OkE X.K X.mg EE H σ τ ρ (.ok d (G.set n (.lst ys))) Q) : Q w (upd H p (.lst ws)) := by
  have f : Fut X.K H (upd H p (.lst ws)) ρ ρ := fut_set hp ρ
  exact ok w _ ρ f (ab.fut f (ab.hp.put (ds := ys) hn hp r)) (rd _ f)
theorem mt_appendD : MtR X "list.append" (rMD X EE dAppend) := by
  intro pins s σ0 H x xs v us Q I rx rxs ⟨σ, τ, ρ, G, d, ds, ab, rd, rds, ok⟩
  cases d <;> try exact ok.elim
  rename_i n
  match ds, ok with
  | [], ok => exact ok.elim
  | _ :: _ :: _, ok => exact ok.elim
  | [y], ok =>
    obtain ⟨yv, rfl, ry⟩ := reps1 rds
    unfold Rep at rd
    obtain ⟨p, rfl, e1⟩ := rd
    dsimp only [dAppend] at ok
    cases g : G[n]? with
    | none => rw [g] at ok; exact ok.elim
    | some o =>
      cases o with
      | dead => first | (rw [q] at ok; exact ok.elim) | (rw [q] at ok2; exact ok2.elim) | (rw [q] at e; cases e; done) | (rw [g] at ok; exact ok.elim) | (rw [g] at q; cases q; done) | (rw [g] at h; cases h; done) | (rw [g2] at ok; exact ok.elim) | (rw [g1, g2] at ok; exact ok.elim) | (rw [q1] at ok; exact ok.elim) | exact ok.elim
      | dct kv => first | (rw [q] at ok; exact ok.elim) | (rw [q] at ok2; exact ok2.elim) | (rw [q] at e; cases e; done) | (rw [g] at ok; exact ok.elim) | (rw [g] at q; cases q; done) | (rw [g] at h; cases h; done) | (rw [g2] at ok; exact ok.elim) | (rw [g1, g2] at ok; exact ok.elim) | (rw [q1] at ok; exact ok.elim) | exact ok.elim
      | lst zs =>
        rw [g] at ok
        dsimp only at ok
        obtain ⟨p', vs, e2, hp, rs⟩ := ab.hp.lst g
        rw [e1] at e2; cases e2
        by_cases hz : zs.length < sizeLine
        · rw [if_pos hz] at ok
          exact mt_append pins s σ0 H _ _ v us Q I rx rxs ⟨p, vs, yv, rfl, rfl, hp, by rw [← rs.length]; exact hz, put_ok (xs := zs) ab e1 hp (rs.append (.cons ry .nil)) (fun _ _ => by unfold Rep; rfl) ok⟩
        · rw [if_neg hz] at ok; exact ok.elim
theorem qe_append {o e : Expr} {apos cpos : Pos} {mo : DS → M D} {m : DS → M (List D)} (ho : QE X EE o mo) (ha : QA X EE [e] m)
    (hbase : attributeBase o "append" X.env (eval o X.env) = eval o X.env := by rfl)
    (hfew : ((backTo cpos (starEach [e] X.env)).all (fun x => !x.1) && (backToKw cpos (keywordEach [] X.env)).all (fun x => x.1.isSome)
      && decide ([e].length + ([] : List Keyword).length + (if ([] : List Keyword).isEmpty then 0 else 1) < 30)) = true := by rfl)
    (hline : (apos.endLine == cpos.line) = true := by rfl) (hs : starEach [e] X.env = (false, eval e X.env) :: starEach [] X.env := by rfl) (hplain : (backTo cpos (starEach [] X.env)).any (·.1) = false := by rfl) :
    QE X EE (.Call (.Attribute o "append" apos) [e] [] cpos) (eMethT "list" dAppend mo m) := qe_bm PySem.F.plainAttrs_list PySem.F.slot_list_append PySem.F.type_list_append mt_appendD ho ha hbase hfew hline hs hplain
noncomputable def dPop : D → List D → M D
  | .obj n, [] => fun G => match G[n]? with
    | some (.lst xs) => match xs[xs.length - 1]? with
      | some y => .ok y (G.set n (.lst xs.dropLast))
      | none => .stuck
    | _ => .stuck
  | _, _ => M.stop
theorem Reps.dropLast {K : PySem.W.Frag} {mg : Str → Option Value} {ρ : List Addr} {H : Hp} {ds : List D} {vs : List V} (r : Reps K mg ρ H ds vs) : Reps K mg ρ H ds.dropLast vs.dropLast := by
  rw [List.dropLast_eq_take, List.dropLast_eq_take, ← r.length]
  exact r.take _
theorem mt_popD : MtR X "list.pop" (rMD X EE dPop) := by
  intro pins s σ0 H x xs v us Q I rx rxs ⟨σ, τ, ρ, G, d, ds, ab, rd, rds, ok⟩
  cases d <;> try exact ok.elim
  rename_i n
  match ds, ok with
  | _ :: _, ok => exact ok.elim
  | [], ok =>
    unfold Reps at rds; subst rds
    unfold Rep at rd
    obtain ⟨p, rfl, e1⟩ := rd
    dsimp only [dPop] at ok
    cases g : G[n]? with
    | none => rw [g] at ok; exact ok.elim
    | some o =>
      cases o with
      | dead => first | (rw [q] at ok; exact ok.elim) | (rw [q] at ok2; exact ok2.elim) | (rw [q] at e; cases e; done) | (rw [g] at ok; exact ok.elim) | (rw [g] at q; cases q; done) | (rw [g] at h; cases h; done) | (rw [g2] at ok; exact ok.elim) | (rw [g1, g2] at ok; exact ok.elim) | (rw [q1] at ok; exact ok.elim) | exact ok.elim
      | dct kv => first | (rw [q] at ok; exact ok.elim) | (rw [q] at ok2; exact ok2.elim) | (rw [q] at e; cases e; done) | (rw [g] at ok; exact ok.elim) | (rw [g] at q; cases q; done) | (rw [g] at h; cases h; done) | (rw [g2] at ok; exact ok.elim) | (rw [g1, g2] at ok; exact ok.elim) | (rw [q1] at ok; exact ok.elim) | exact ok.elim
      | lst zs =>
        rw [g] at ok
        dsimp only at ok
        obtain ⟨p', vs, e2, hp, rs⟩ := ab.hp.lst g
        rw [e1] at e2; cases e2
        cases qz : zs[zs.length - 1]? with
        | none => rw [qz] at ok; exact ok.elim
        | some y =>
          rw [qz] at ok
          obtain ⟨yv, ey, ry⟩ := rs.get qz
          exact mt_pop pins s σ0 H _ _ v us Q I rx rxs ⟨p, vs, yv, rfl, rfl, hp, by rw [← rs.length]; exact ey, put_ok (xs := zs) ab e1 hp rs.dropLast (fun _ f => ry.mono f) ok⟩
theorem qe_pop {o : Expr} {apos cpos : Pos} {mo : DS → M D} (ho : QE X EE o mo) (hbase : attributeBase o "pop" X.env (eval o X.env) = eval o X.env := by rfl) (hline : (apos.endLine == cpos.line) = true := by rfl) :
    QE X EE (.Call (.Attribute o "pop" apos) [] [] cpos) (eMethT "list" dPop mo aNil) := qe_bm0 PySem.F.plainAttrs_list PySem.F.slot_list_pop PySem.F.type_list_pop mt_popD ho hbase hline
end
end L3
end
section
set_option Elab.async false
set_option linter.all false
set_option maxRecDepth 100000
namespace L3
open PySem PySem.Spec L2
structure FlyB (B : Heap) (l : List Env) (e : Addr) (cls : Value) (h : Heap) : Prop where
  stay : B.StaysIn h
  new : B.get? e = none
  frm : h.FunFrames B l
  tr : (∃ oe vs a0, h.get? e = some oe ∧ oe.cls = cls ∧ oe.data = .fields vs ∧ vs[0]? = some a0 ∧ vs[1]? = some .none) ∨ ∃ a0 fl, h.TracedAtW B e cls a0 fl
section
variable {M : Model} {A : Around} {E : Value → Shared → Prop} {s : Shared} {B : Heap} {env : Env} {outer l : List Env} {L e : Addr} {cls : Value} {Q : Unit → Shared → Prop}
theorem note_frame {env' : Env} (h : env'.frame = env.frame) (v : Value) : noteFrame v env' = noteFrame v env := by
  unfold noteFrame frameOf
  rw [h]
theorem note_ok (hfr : A.frames = some (env :: outer)) (hf : env.frame = some L) (f : FlyB B (env :: outer) e cls s.heap)
    (hQ : ∀ h' a0, Heap.HeldW B (env :: outer) e cls a0 L h' → s.heap.UpToSlots h' → Q () { s with heap := h' }) : wpAny M A (noteFrame (.ref e) env) Q E s := by
  obtain ⟨st, nw, fr, tr⟩ := f
  rcases tr with ⟨oe, vs, a0, he, hc, hd, h0, h1⟩ | ⟨a0, fl, oe, vs, T, oT, ts, he, hcls, hd, h1, hnT, hTe, hT, hdT, h3⟩
  · subst hc
    unfold noteFrame
    simp only [hf]
    refine wpAny_bind (wpAny_field he hd h1 ?_)
    rw [if_neg (by decide)]
    refine wpAny_entryW hfr fr hf he st nw hd (Array.getElem?_eq_some_iff.mp h1).1 h0 fun h' hN => ?_
    exact hQ h' a0 ⟨hN.1, nw, hN.2.1, hN.2.2.1⟩ hN.2.2.2
  · by_cases hq : (fl == rawInt L) = true
    · unfold noteFrame
      simp only [hf]
      refine wpAny_bind (wpAny_field he hd h1 ?_)
      rw [if_pos (show (Value.ref T != Value.none) = true by simp)]
      refine wpAny_bind (wpAny_field hT hdT h3 ?_)
      rw [if_pos hq]
      refine wpAny_pure ?_
      have := hQ s.heap a0 ⟨st, nw, fr, oe, vs, T, oT, ts, he, hcls, hd, h1, hnT, hTe, hT, hdT, by rw [h3, beq_iff_eq.mp hq]⟩ (.refl _)
      exact this
    · obtain ⟨rfl, h0⟩ := hcls
      unfold noteFrame
      simp only [hf]
      refine wpAny_bind (wpAny_field he hd h1 ?_)
      rw [if_pos (show (Value.ref T != Value.none) = true by simp)]
      refine wpAny_bind (wpAny_field hT hdT h3 ?_)
      rw [if_neg hq]
      refine wpAny_bind (wpAny_setField hT hdT (Array.getElem?_eq_some_iff.mp h3).1 ?_)
      have oth : ∀ b, b ≠ T → (s.heap.update T (Obj.mapFields (·.setIfInBounds 3 Value.none))).get? b = s.heap.get? b := fun b hb => Heap.get?_update_other _ _ (Ne.symm hb)
      have nrec : ∀ b o, s.heap.get? b = some o → (∀ vs, o.data ≠ .fields vs) → b ≠ T := fun b o hb hnf z => by
        rw [z, hT] at hb; cases hb; exact hnf ts hdT
      refine wpAny_entryW hfr (fr.of_keeps fun b o hb hnf => ⟨o, (oth b (nrec b o hb hnf)).trans hb, rfl⟩) hf ((oth e (Ne.symm hTe)).trans he)
        (fun b o hbo => (oth b fun z => by rw [z, hnT] at hbo; cases hbo).trans (st b o hbo)) nw hd (Array.getElem?_eq_some_iff.mp h1).1 h0 fun h' hN => ?_
      exact hQ h' a0 ⟨hN.1, nw, hN.2.1, hN.2.2.1⟩ fun b o hb hnf => hN.2.2.2 b o ((oth b (nrec b o hb hnf)).trans hb) hnf
theorem leave_ok (hfr : A.frames = some (env :: outer)) (hf : env.frame = some L) (f : FlyB B (env :: outer) e cls s.heap)
    (hQ : ∀ h' a0, Heap.FlyingW B outer e cls a0 h' → s.heap.UpToSlots h' → Q () { s with heap := h' }) : wpAny M A (leaving env (.ref e)) Q E s := by
  unfold leaving
  refine wpAny_bind (note_ok hfr hf f fun h1 a0 hH u1 => ?_)
  refine wpAny_landsW hH fun h2 hF u2 => ?_
  obtain ⟨k1, k2, ⟨_, _, k3⟩, k4⟩ := hF
  exact hQ h2 a0 ⟨k1, k2, k3, k4⟩ (u1.trans u2)
theorem FlyB.of_flying {a0 : Value} {h : Heap} (f : Heap.FlyingW B l e cls a0 h) : FlyB B l e cls h := ⟨f.1, f.2.1, f.2.2.1, .inr ⟨a0, .none, f.2.2.2⟩⟩
end
structure Cov (X : Cx) (B : Heap) : Prop where
  keep : ∀ b o, X.s₀.heap.get? b = some o → X.H₀ b = none → b ∉ frs X.stack → b ∉ X.ex → B.get? b = some o
  there : ∀ b o, X.s₀.heap.get? b = some o → b ∉ frs X.stack → b ∉ X.ex → ∃ o', B.get? b = some o'
  pins : ∀ p ∈ X.pn, B.get? p.1 = some p.2
noncomputable def FlyX (X : Cx) (H : Hp) (e : Addr) (cls : Value) (s : Shared) : Prop := ∃ B, FlyB B X.stack e cls s.heap ∧ HOk X.prog X.w H B ∧ Cov X B
noncomputable def ClsIs (mg : Str → Option Value) (c : XD) (cls : Value) : Prop := match c with | .mk n _ => mg n = some cls
noncomputable def XLnk (X : Cx) (EE : EXK) : Prop := ∀ (pins : List (Addr × Obj)) (σ : L2.St) (H : Hp) (s : Shared) (e : Addr) (cls : Value) (c : XD), Inv X pins σ H s → FlyX X H e cls s → ClsIs X.mg c cls → EE c σ H → X.xe (.ref e) s
section
variable {X : Cx} {pins : List (Addr × Obj)} {σ : L2.St} {H : Hp} {s : Shared} {h' : Heap}
theorem IsCell.slots {h h' : Heap} {c : Addr} {v : Option Value} (u : h.UpToSlots h') (hc : h.IsCell c v) : h'.IsCell c v := by
  obtain ⟨o, e, d⟩ := hc
  obtain ⟨sl, e'⟩ := u c o e fun vs q => by rw [d] at q; cases q
  exact ⟨_, e', d⟩
theorem Inv.flown {B : Heap} {t : Nat} (I : Inv X pins σ H s) (C : Cov X B) (hok : HOk X.prog X.w H B) (st : B.StaysIn h') (u : s.heap.UpToSlots h') : Inv X [] σ H { s with heap := h', toks := t } := by
  have neL : ∀ b o, X.s₀.heap.get? b = some o → b ≠ X.env.locals := fun b o e => Nat.ne_of_lt (Nat.lt_of_lt_of_le (Heap.lt_size e) I.ok.above)
  have nstk : ∀ b o, X.s₀.heap.get? b = some o → b ∉ X.fs → b ∉ frs X.stack := fun b o e hb z => by
    rcases List.mem_cons.mp (I.stkSub b z) with z | z
    · exact neL b o e z
    · exact hb z
  have slots : ∀ b o, X.s₀.heap.get? b = some o → X.H₀ b = none → b ∈ X.fs → b ∉ X.ex → ∃ sl, h'.get? b = some { o with slots := sl } := fun b o e n hb hx => by
    obtain ⟨sl, e1⟩ := I.base.slot b o e n hb hx
    obtain ⟨_, o', eo, hd⟩ := I.ok.funs.mem hb
    rw [e] at eo; cases eo
    obtain ⟨sl', e2⟩ := u b _ e1 hd
    exact ⟨sl', e2⟩
  refine ⟨I.ok, I.os, I.bare, ⟨fun b o e n hb hx => st _ _ (C.keep b o e n (nstk b o e hb) hx), slots, I.base.free, fun b o e hx => ?_, I.base.tups, I.base.frzs, I.base.tbls⟩, ?_, fun x c e => ?_, I.free, I.freeC, fun p hp => ?_, hok.kept st, I.len⟩
  · by_cases hb : b ∈ X.fs
    · obtain ⟨sl, e1⟩ := slots b o e (I.ok.frf b hb) hb hx
      exact ⟨_, e1⟩
    · obtain ⟨o', e1⟩ := C.there b o e (nstk b o e hb) hx
      exact ⟨o', st _ _ e1⟩
  · obtain ⟨m, hn, hl⟩ := I.loc
    refine ⟨m, u.ns hn, fun i x v e1 e2 e3 => ?_⟩
    obtain ⟨w, r, l⟩ := hl i x v e1 e2 e3
    refine ⟨w, r, ?_⟩
    rcases l with l | ⟨k, c, e, z⟩
    · exact .inl l
    · exact .inr ⟨k, c, e, IsCell.slots u z⟩
  · obtain ⟨v, z⟩ := I.cell x c e
    exact ⟨v, IsCell.slots u z⟩
  · have hp' : p ∈ X.pn := by simpa using hp
    obtain ⟨e, n, ne, nf, d⟩ := I.pin p (List.mem_append_left _ hp')
    exact ⟨st _ _ (C.pins p hp'), n, ne, nf, d⟩
end
structure Flown (P : Program) (w : World) (outer : List Env) (H : Hp) (s : Shared) (H' : Hp) (B : Heap) (s' : Shared) : Prop where
  os : s'.os = s.os
  bare : PyProof.Rows.AllBare s'.gens
  keep : ∀ b o, s.heap.get? b = some o → H b = none → b ∉ frs outer → B.get? b = some o
  there : ∀ b o, s.heap.get? b = some o → b ∉ frs outer → ∃ o', B.get? b = some o'
  slot : ∀ b o, s.heap.get? b = some o → H b = none → b ∈ frs outer → ∃ sl, s'.heap.get? b = some { o with slots := sl }
  free : ∀ b o, s.heap.get? b = some o → H b = none → H' b = none
  tups : ∀ b xs, H b = some (.tup xs) → H' b = some (.tup xs)
  frzs : ∀ b o u, H b = some (.frz o u) → H' b = some (.frz o u)
  tbls : ∀ b ps, H b = some (.tbl ps) → ∃ more, H' b = some (.tbl (ps ++ more))
  hok : HOk P w H' B
noncomputable def CX1 (P : Program) (w : World) : CXT := fun outer H s E ev s' => ∃ e cls a0 B H', ev = .ref e ∧ Heap.FlyingW B outer e cls a0 s'.heap ∧ Flown P w outer H s H' B s' ∧ E cls none H'
theorem lnk1 {X : Cx} {EE : EXK} (h : XLnk X EE) : Lnk (CX1 X.prog X.w) X EE := by
  intro pins σ H s ev s' I hq
  obtain ⟨e, cls, a0, B, H', rfl, fl, F, c, hc, ee⟩ := hq
  have un : Un (frs X.stack) [] H H' s.heap s'.heap := ⟨fun b o e n hb _ => fl.1 _ _ (F.keep b o e n hb), fun b o e n hb _ => F.slot b o e n hb, fun b o e n _ => F.free b o e n, fun b o e _ => by
    by_cases hb : b ∈ frs X.stack
    · obtain ⟨sl, q⟩ := F.slot b o e (I.stkFree b hb) hb
      exact ⟨_, q⟩
    · obtain ⟨o', q⟩ := F.there b o e hb
      exact ⟨o', fl.1 _ _ q⟩, F.tups, F.frzs, F.tbls⟩
  have I' : Inv X pins σ H' s' := I.call' F.os un (F.hok.kept fl.1) F.bare fun b z => absurd z (by simp)
  refine h pins σ H' s' e cls c I' ⟨B, .of_flying fl, F.hok, fun b o eb n hb hx => ?_, fun b o eb hb hx => ?_, fun p hp => ?_⟩ hc ee
  · have nfs : b ∉ X.fs := fun z => hb (by
      rcases I.ok.stk with q | ⟨q, _⟩
      · rw [q]; exact z
      · rw [q]; unfold frs; rw [List.filterMap_cons]; split
        · exact z
        · exact List.mem_cons_of_mem _ z)
    exact F.keep b o (I.base.keep b o eb n nfs hx) (I.base.free b o eb n hx) hb
  · obtain ⟨o', q⟩ := I.base.there b o eb hx
    exact F.there b o' q hb
  · obtain ⟨q, n, ne, nf, d⟩ := I.pin p (List.mem_append_left _ hp)
    exact F.keep p.1 p.2 q n fun z => by
      rcases List.mem_cons.mp (I.stkSub _ z) with z | z
      · exact ne z
      · exact nf z
end L3
end
section
set_option Elab.async false
set_option linter.all false
set_option maxRecDepth 100000
namespace L3
open PySem PySem.Spec L2
section
variable {P : Program} {w : World} {K : PySem.W.Frag} {mg : Str → Option Value} {base : Heap} {f : Addr} {fd : FuncData}
theorem fnx {x qual : Str} {st : Stmt} {N ps : List Str} {k n nn : Nat} {ms : MS} {m : List D → M D} (F : Fun K x qual st f fd) (S : FnScope N ps (defScope st)) (hps : ps.length = n) (hN : N.length = nn) (hm : ∀ ds, m ds = runB nn ms ds)
    (hbody : ∀ (X : Cx) (EE : EXK) (cdv : Value) (A : Around) (outer : List Env) (s : Shared) (H : Hp) (E : XK), X = cxOf (CX1 P w) P w K mg base N qual (defScope st) f cdv A outer s H E → Room k (A.deeper (PyProof.Rows.envOfC qual (defScope st) s.heap.objs.size f cdv)) →
      XLnk X EE → PassesOwn (model P w) X.A X.env X.xe → QSs X EE (defBody st) ms) :
    FnOk P w K mg base (CX1 P w) (k + 1) f fd ps (spOf K mg n m) := by
  subst hps hN
  have e : m = fun ds => runB N.length ms ds := funext hm
  subst e
  obtain ⟨oc, od, kV, doc, pm, an, cdv, ct, osl, rfl, lk, hcd⟩ := F.ex
  refine fn_of lk hcd S (fun vs H Q E h => h.len) fun A outer s H vs Q E hr h => ?_
  obtain ⟨ds, ρ, G, hn, hp, rs, ok⟩ := h
  refine ⟨_, hbody _ (fun c σ H' => ∀ cls, ClsIs mg c cls → E cls none H') cdv A outer s H E rfl hr ?_ PassesOwn.leaving, ds.map some ++ List.replicate (N.length - ds.length) none, ρ, G, ⟨srep_start rs, hp⟩, ?_⟩
  · intro pins σ H' s' e cls c I fx hc ee
    obtain ⟨B, fb, hok, cov⟩ := fx
    refine leave_ok (L := s.heap.objs.size) I.ok.frames rfl fb fun h' a0 fl u => ?_
    have I' : Inv _ [] σ H' { s' with heap := h' } := Inv.flown (t := s'.toks) I cov hok fl.1 u
    have neL : ∀ b o, s.heap.get? b = some o → b ∉ frs outer → b ∉ frs (PyProof.Rows.envOfC qual (defScope st) s.heap.objs.size f cdv :: outer) := fun b o e hb z => by
      rcases List.mem_cons.mp (I.stkSub b z) with z | z
      · exact absurd (Heap.lt_size e) (by rw [show b = s.heap.objs.size from z]; exact Nat.lt_irrefl _)
      · exact hb z
    refine ⟨e, cls, a0, B, H', rfl, fl, ⟨I'.os, I'.bare, fun b o eb nb hb => cov.keep b o eb nb (neL b o eb hb) (by intro z; exact absurd (show b ∈ ([] : List Addr) from z) (by simp)), fun b o eb hb => cov.there b o eb (neL b o eb hb) (by intro z; exact absurd (show b ∈ ([] : List Addr) from z) (by simp)),
      fun b o eb nb hb => I'.base.slot b o eb nb hb (by intro z; exact absurd (show b ∈ ([] : List Addr) from z) (by simp)), fun b o eb nb => I'.base.free b o eb nb (by intro z; exact absurd (show b ∈ ([] : List Addr) from z) (by simp)), I'.base.tups, I'.base.frzs, I'.base.tbls, hok⟩, ee cls hc⟩
  · dsimp only [runB] at ok
    cases q : ms (ds.map some ++ List.replicate (N.length - ds.length) none) G with
    | stuck => rw [q] at ok; exact ok
    | nx τ G' => rw [q] at ok; exact fun σ' H' ρ' f ab => ok .non H' ρ' f ab.hp (by unfold Rep; rfl)
    | rt d G' => rw [q] at ok; exact fun v H' ρ' f hp r => ok v H' ρ' f hp r
    | bk τ G' => rw [q] at ok; exact ok.elim
    | ct τ G' => rw [q] at ok; exact ok.elim
    | xn c τ G' => rw [q] at ok; exact fun σ' H' ρ' f ab cls hc => ok cls H' ρ' hc f ab.hp
end
theorem hok_hide {P : Program} {w : World} {H : Hp} {h B : Heap} (x : HOk P w H h) (k : ∀ b o, H b ≠ none → h.get? b = some o → B.get? b = some o) : HOk P w H B := fun a o e =>
  (x a o e).stay (fun b u hb q => k b u (by
    rcases hb with z | z
    · rw [z, e]; simp
    · rw [z]; simp) q) (fun _ q => q) fun _ _ q => q
section
variable {X : Cx} {EE : EXK} {pins : List (Addr × Obj)} {σ : L2.St} {H : Hp} {s : Shared}
noncomputable def sRaise (x : Str) (m : DS → M (List D)) : MS := fun τ => sBind (m τ) (fun ds G => if ds.length ≤ sizeLine then .xn (.mk x ds) τ G else .stuck) fun c G => .xn c τ G
end
end L3
end
section
set_option Elab.async false
set_option linter.all false
set_option maxRecDepth 100000
namespace L3
open PySem PySem.Spec L2
noncomputable abbrev Cx.to (X : Cx) (E : Value → Shared → Prop) (pn : List (Addr × Obj)) : Cx := { X with xe := E, pn := pn }
section
variable {X : Cx} {EE : EXK} {pins : List (Addr × Obj)} {σ : L2.St} {H : Hp} {s : Shared} {E : Value → Shared → Prop}
end
end L3
end
section
set_option Elab.async false
set_option linter.all false
set_option maxRecDepth 100000
namespace L3
open PySem PySem.Spec L2
noncomputable def closOf (env : Env) : List (Str × NameKind) → List (Str × Addr) → List (Str × Addr)
  | [], acc => acc
  | (n, k) :: r, acc => closOf env r (if k == .free then (match env.cells.lookup n with | some c => (n, c) :: acc | none => acc) else acc)
theorem closureFor_eq {scope : Scope} {env : Env} (h : ∀ x ∈ scope.names, x.2 = .free → ∃ c, env.cells.lookup x.1 = some c) : closureFor scope env = pure (closOf env scope.names []) := by
  unfold closureFor
  have key : ∀ (names : List (Str × NameKind)) (acc : List (Str × Addr)), (∀ x ∈ names, x.2 = .free → ∃ c, env.cells.lookup x.1 = some c) →
      (forIn names acc fun x r => match x with | (name, kind) => if (kind == NameKind.free) = true then do let y ← cellOf env name; pure (ForInStep.yield ((name, y) :: r)) else pure (ForInStep.yield r)) = (pure (closOf env names acc) : Sem (List (Str × Addr))) := by
    intro names
    induction names with
    | nil => intro acc _; rfl
    | cons x r ih =>
      intro acc hx
      obtain ⟨n, k⟩ := x
      rw [List.forIn_cons]
      by_cases hk : (k == NameKind.free) = true
      · obtain ⟨c, hc⟩ := hx (n, k) List.mem_cons_self (eq_of_beq hk)
        have e : cellOf env n = pure c := by unfold cellOf; rw [hc]
        simp only [if_pos hk, e, pure_bind]
        rw [ih _ fun y hy => hx y (List.mem_cons_of_mem _ hy)]
        show _ = pure (closOf env r (if (k == NameKind.free) = true then (match env.cells.lookup n with | some c => (n, c) :: acc | none => acc) else acc))
        rw [if_pos hk, hc]
      · simp only [if_neg hk, pure_bind]
        rw [ih _ fun y hy => hx y (List.mem_cons_of_mem _ hy)]
        show _ = pure (closOf env r (if (k == NameKind.free) = true then (match env.cells.lookup n with | some c => (n, c) :: acc | none => acc) else acc))
        rw [if_neg hk]
  have k2 := key scope.names [] h
  first
    | (rw [k2]; rfl)
    | (simp only [k2, pure_bind])
    | exact k2
theorem clos_sub {env : Env} : ∀ (names : List (Str × NameKind)) (acc : List (Str × Addr)), (∀ y c, acc.lookup y = some c → env.cells.lookup y = some c) → ∀ y c, (closOf env names acc).lookup y = some c → env.cells.lookup y = some c
  | [], acc, h, y, c, e => h y c e
  | (n, k) :: r, acc, h, y, c, e => by
    refine clos_sub r _ (fun z d ez => ?_) y c e
    by_cases hk : (k == NameKind.free) = true
    · rw [if_pos hk] at ez
      cases q : env.cells.lookup n with
      | none => rw [q] at ez; exact h z d ez
      | some c' =>
        rw [q] at ez
        dsimp only at ez
        rw [List.lookup_cons] at ez
        cases hz : z == n with
        | true => rw [hz] at ez; cases ez; rw [eq_of_beq hz]; exact q
        | false => rw [hz] at ez; exact h z d ez
    · rw [if_neg hk] at ez
      exact h z d ez
theorem clos_has {env : Env} : ∀ (names : List (Str × NameKind)) (acc : List (Str × Addr)) (y : Str), ((∃ c, acc.lookup y = some c) ∨ ((y, NameKind.free) ∈ names ∧ ∃ c, env.cells.lookup y = some c)) → ∃ c, (closOf env names acc).lookup y = some c
  | [], acc, y, h => by
    rcases h with h | ⟨h, _⟩
    · exact h
    · cases h
  | (n, k) :: r, acc, y, h => by
    refine clos_has r _ y ?_
    rcases h with ⟨c, h⟩ | ⟨h, c, hc⟩
    · left
      by_cases hk : (k == NameKind.free) = true
      · rw [if_pos hk]
        cases q : env.cells.lookup n with
        | none => exact ⟨c, h⟩
        | some c' =>
          dsimp only
          rw [List.lookup_cons]
          cases hz : y == n with
          | true => exact ⟨c', rfl⟩
          | false => exact ⟨c, h⟩
      · rw [if_neg hk]; exact ⟨c, h⟩
    · rcases List.mem_cons.mp h with e | h
      · cases e
        left
        rw [if_pos (by rfl), hc]
        dsimp only
        exact ⟨c, by rw [List.lookup_cons, beq_self_eq_true]⟩
      · exact .inr ⟨h, c, hc⟩
end L3
end
section
set_option Elab.async false
set_option linter.all false
set_option maxRecDepth 100000
namespace L3
open PySem PySem.Spec L2 PyProof.Rows
noncomputable def mask {α : Type} : List Bool → List (Option α) → List (Option α)
  | _, [] => []
  | [], _ :: r => none :: mask [] r
  | k :: ks, o :: r => (if k then o else none) :: mask ks r
theorem mask_length {α : Type} : ∀ (ks : List Bool) (l : List (Option α)), (mask ks l).length = l.length
  | _, [] => by unfold mask; rfl
  | [], _ :: r => by unfold mask; simp [mask_length [] r]
  | k :: ks, o :: r => by unfold mask; simp [mask_length ks r]
theorem mask_get {α : Type} {v : α} : ∀ {ks : List Bool} {l : List (Option α)} {i : Nat}, (mask ks l)[i]? = some (some v) → ks[i]? = some true ∧ l[i]? = some (some v)
  | ks, [], i, h => by unfold mask at h; simp at h
  | [], o :: r, 0, h => by unfold mask at h; simp at h
  | [], o :: r, i + 1, h => by
    unfold mask at h
    have := (mask_get (ks := []) (l := r) (i := i) (by simpa using h)).1
    simp at this
  | k :: ks, o :: r, 0, h => by
    unfold mask at h
    cases k with
    | true => simpa using h
    | false => simp at h
  | k :: ks, o :: r, i + 1, h => by
    unfold mask at h
    have := mask_get (ks := ks) (l := r) (i := i) (by simpa using h)
    simpa using this
theorem mask_of {α : Type} {v : α} : ∀ {ks : List Bool} {l : List (Option α)} {i : Nat}, ks[i]? = some true → l[i]? = some (some v) → (mask ks l)[i]? = some (some v)
  | ks, [], i, _, h => by simp at h
  | [], o :: r, i, h, _ => by simp at h
  | k :: ks, o :: r, 0, h, e => by unfold mask; simp at h e; simp [h, e]
  | k :: ks, o :: r, i + 1, h, e => by
    unfold mask
    have := mask_of (ks := ks) (l := r) (i := i) (by simpa using h) (by simpa using e)
    simpa using this
noncomputable def relK (env : Env) (n : Str) (k : NameKind) : NameKind := if (k == .free && env.scope.kind == .function && env.kindOf n == some .cell) then .cell else k
theorem lookup_relabel {env : Env} {y : Str} : ∀ (names : List (Str × NameKind)), (names.map fun (n, k) => if (k == NameKind.free && env.scope.kind == .function && env.kindOf n == some .cell) then (n, NameKind.cell) else (n, k)).lookup y = (names.lookup y).map (relK env y)
  | [] => rfl
  | (n, k) :: r => by
    have ih := lookup_relabel (env := env) (y := y) r
    rw [List.map_cons, List.lookup_cons]
    by_cases hc : (k == NameKind.free && env.scope.kind == .function && env.kindOf n == some .cell) = true
    · rw [if_pos hc, List.lookup_cons]
      cases hy : y == n with
      | true =>
        have e : y = n := eq_of_beq hy
        subst e
        simp [relK, hc]
      | false => exact ih
    · rw [if_neg hc, List.lookup_cons]
      cases hy : y == n with
      | true =>
        have e : y = n := eq_of_beq hy
        subst e
        simp [relK, hc]
      | false => exact ih
structure CompSc (osc : Scope) (N : List Str) (scope : Scope) (xs : List Str) (ks : List Bool) : Prop where
  nd : xs.Nodup
  kind : scope.kind = .function
  nocell : ∀ y ∈ scope.names, y.2 ≠ .cell
  names : ∀ y ∈ scope.names, y.2 = .local → scope.names.lookup y.1 = some .local
  loc : ∀ x ∈ xs, scope.names.lookup x = some .local
  free : ∀ y ∈ scope.names, y.2 = .free → osc.names.lookup y.1 = some .cell ∨ osc.names.lookup y.1 = some .free
  capB : ((ks.zip N).all fun p => !p.1 || decide (scope.names.lookup p.2 = some .free)) = true
theorem CompSc.cap {osc : Scope} {N : List Str} {scope : Scope} {xs : List Str} {ks : List Bool} (S : CompSc osc N scope xs ks) : ∀ i < ks.length, ks[i]? = some true → ∀ y ∈ N[i]?, scope.names.lookup y = some .free := fun i _ hk y hy => by
  have h := List.all_eq_true.mp S.capB (true, y) (List.mem_of_getElem? (i := i) (by rw [List.getElem?_zip_eq_some]; exact ⟨hk, hy⟩))
  simpa using h
noncomputable def cxC (X : Cx) (scope : Scope) (cl : List (Str × Addr)) (xs : List Str) (C : Addr) (pins : List (Addr × Obj)) (s : Shared) (H : Hp) (fp : List Addr) (E : Value → Shared → Prop) : Cx where
  prog := X.prog
  w := X.w
  K := X.K
  mg := X.mg
  base := X.base
  A := X.A
  N := xs ++ X.N
  s₀ := s
  H₀ := H
  env := compEnvC scope cl C X.env
  outer := X.stack
  stack := X.stack
  ex := fp
  fn := fun _ => false
  calm := X.calm
  pn := X.pn ++ pins
  xe := E
section
variable {X : Cx} {scope : Scope} {xs : List Str} {x : Str} {ks : List Bool} {pins : List (Addr × Obj)} {σ : L2.St} {H : Hp} {s s4 : Shared} {fp : List Addr} {E : Value → Shared → Prop} {h1 : Heap}
theorem mem_lookup {α β : Type} [BEq α] [LawfulBEq α] : ∀ {l : List (α × β)} {a : α} {b : β}, l.lookup a = some b → (a, b) ∈ l
  | [], _, _, h => by simp at h
  | (a', b') :: r, a, b, h => by
    rw [List.lookup_cons] at h
    cases hz : a == a' with
    | true => rw [hz] at h; cases h; rw [eq_of_beq hz]; exact List.mem_cons_self
    | false => rw [hz] at h; exact List.mem_cons_of_mem _ (mem_lookup h)
theorem comp_vis (S : CompSc X.env.scope X.N scope xs ks) {cl : List (Str × Addr)} {C : Addr} {y : Str} (h : (compEnvC scope cl C X.env).kindOf y = some .cell ∨ (compEnvC scope cl C X.env).kindOf y = some .free) : scope.names.lookup y = some .free := by
  have h' : (scope.names.lookup y).map (relK X.env y) = some .cell ∨ (scope.names.lookup y).map (relK X.env y) = some .free := by
    rw [← lookup_relabel]; exact h
  cases q : scope.names.lookup y with
  | none => rw [q] at h'; rcases h' with h' | h' <;> cases h'
  | some k =>
    rw [q] at h'
    cases k with
    | free => rfl
    | cell => exact absurd rfl (S.nocell _ (mem_lookup q))
    | _ => rcases h' with h' | h' <;> simp [relK] at h'
theorem comp_seen (S : CompSc X.env.scope X.N scope xs ks) {cl : List (Str × Addr)} {C : Addr} {y : Str} (h : scope.names.lookup y = some .free) : (compEnvC scope cl C X.env).kindOf y = some .cell ∨ (compEnvC scope cl C X.env).kindOf y = some .free := by
  have e : (compEnvC scope cl C X.env).kindOf y = (scope.names.lookup y).map (relK X.env y) := lookup_relabel scope.names
  rw [e, h]
  unfold relK
  dsimp only [Option.map]
  split
  · exact .inl rfl
  · exact .inr rfl
theorem comp_local (S : CompSc X.env.scope X.N scope xs ks) (hx : x ∈ xs) {cl : List (Str × Addr)} {C : Addr} : (compEnvC scope cl C X.env).kindOf x = some .local := by
  have e : (compEnvC scope cl C X.env).kindOf x = (scope.names.lookup x).map (relK X.env x) := lookup_relabel scope.names
  rw [e, S.loc x hx]
  rfl
theorem comp_start (S : CompSc X.env.scope X.N scope xs ks) (I : Inv X pins σ H s) (hf : ∀ b ∈ fp, FpOk X pins H b ∧ b < s.heap.objs.size) (hn : h1.Ns s.heap.objs.size fun _ => none) (hk : ∀ b o, s.heap.get? b = some o → h1.get? b = some o) (t : Nat) :
    Inv (cxC X scope (closOf X.env scope.names []) xs s.heap.objs.size pins s H fp E) [] (List.replicate xs.length none ++ mask ks σ) H { s with heap := h1, toks := t } := by
  have cs : ∀ y c, (closOf X.env scope.names []).lookup y = some c → X.env.cells.lookup y = some c := clos_sub scope.names [] fun y c e => by simp at e
  have lt : ∀ b o, s.heap.get? b = some o → b ≠ s.heap.objs.size := fun b o e => Nat.ne_of_lt (Heap.lt_size e)
  have celllt : ∀ y c, X.env.cells.lookup y = some c → ∃ v, s.heap.IsCell c v := fun y c e => I.cell y c e
  have fsSub : ∀ b, b ≠ X.env.locals → b ∉ X.fs → b ∉ frs X.stack := fun b h1 h2 h3 => (List.mem_cons.mp (I.stkSub b h3)).elim h1 h2
  refine ⟨⟨I.ok.mod, ?_, I.ok.glob, I.ok.blt, Nat.le_refl _, fun y z c e1 e2 => I.ok.inj y z c (cs y c e1) (cs z c e2), fun y hy => ?_, fun y c h _ => absurd (show false = true from h) Bool.false_ne_true, I.ok.hd, I.ok.frames, .inl rfl, fun b hb => ⟨Nat.ne_of_lt (hf b hb).2, fun y c e => (hf b hb).1.2.2.2.2.1 y c (cs y c e)⟩, I.bs,
      Nat.le_trans I.ok.bsz I.sz, fun b o e hb => ?_, fun b hb => fsSub b (hf b hb).1.2.1 (hf b hb).1.2.2.1, I.stack, I.stkFree⟩, rfl, I.bare, Un.kept hk, ⟨_, hn, fun i y v e1 e2 e3 => ?_⟩, fun y c e => ?_, I.hok.fresh (Nat.le_refl _), fun y c e => I.freeC y c (cs y c e), fun p hp => ?_, I.hok.kept hk, ?_⟩
  · show (relabel scope X.env).kind = .function
    exact S.kind
  · have hfree := comp_vis S hy
    have hm := mem_lookup hfree
    refine clos_has scope.names [] y (.inr ⟨hm, ?_⟩)
    exact I.ok.has y (S.free _ hm rfl)
  · rcases (hf b hb).1.2.2.2.1 with z | z
    · exact I.ok.noex b o e z
    · exact absurd (Nat.lt_of_lt_of_le (Heap.lt_size (I.ok.bs b o e).1) z) (Nat.lt_irrefl _)
  · by_cases hlt : i < xs.length
    · rw [List.getElem?_append_left (by simpa using hlt), List.getElem?_replicate] at e2
      rw [if_pos hlt] at e2; cases e2
    · obtain ⟨j, rfl⟩ : ∃ j, i = xs.length + j := ⟨i - xs.length, by omega⟩
      have e2' : (mask ks σ)[j]? = some (some v) := by
        rw [List.getElem?_append_right (by simp)] at e2
        simpa using e2
      obtain ⟨hks, eσ⟩ := mask_get e2'
      have e1' : X.N[j]? = some y := by
        have : (xs ++ X.N)[xs.length + j]? = some y := e1
        rw [List.getElem?_append_right (by omega)] at this
        simpa using this
      have hfree : scope.names.lookup y = some .free := S.cap j (List.getElem?_eq_some_iff.mp hks).1 hks y (by rw [e1']; rfl)
      obtain ⟨m, hm, hl⟩ := I.loc
      have hkind := S.free _ (mem_lookup hfree) rfl
      obtain ⟨u, r, l⟩ := hl j y v e1' eσ (hkind.elim (fun z => .inr (.inl z)) fun z => .inr (.inr z))
      refine ⟨u, r, .inr ⟨comp_seen S hfree, ?_⟩⟩
      rcases l with ⟨k, _⟩ | ⟨k, c, ec, hc⟩
      · have k' : X.env.scope.names.lookup y = some .local := k
        rcases hkind with z | z <;> (rw [k'] at z; cases z)
      · obtain ⟨c', ec'⟩ := clos_has (env := X.env) scope.names [] y (.inr ⟨mem_lookup hfree, c, ec⟩)
        have := cs y c' ec'
        rw [ec] at this; cases this
        exact ⟨c, ec', hc.keeps hk⟩
  · obtain ⟨v, hc⟩ := celllt y c (cs y c e)
    exact ⟨v, hc.keeps hk⟩
  · have hp' : p ∈ X.pn ++ pins := by
      have : p ∈ (X.pn ++ pins) ++ [] := hp
      simpa using this
    obtain ⟨e, n, ne, nf, d⟩ := I.pin p hp'
    exact ⟨hk _ _ e, n, lt _ _ e, fsSub _ ne nf, d⟩
  · show (List.replicate xs.length none ++ mask ks σ).length = (xs ++ X.N).length
    simp [mask_length, I.len]
theorem comp_store {Xc : Cx} {cl : List (Str × Addr)} {C : Addr} {σ0 : L2.St} {own : List (Option V)} {n : Nat} {v : V} {u : Value} {A' : Around} {Q : Unit → Shared → Prop} {E' : Value → Shared → Prop} {M' : Model} {px : Pos} {s0 : Shared} {H0 H1 : Hp} {s1 : Shared} {pins' : List (Addr × Obj)}
    (S : CompSc X.env.scope X.N scope xs ks) (e : Xc = cxC X scope cl xs C pins s0 H0 fp E) (hol : own.length = xs.length) (hx : xs[n]? = some x) (I : Inv Xc pins' (own ++ mask ks σ0) H1 s1) (r : RelV v u) (h : ∀ s', Inv Xc pins' (own.set n (some v) ++ mask ks σ0) H1 s' → Q () s') :
    wpAny M' A' (assign (.Name x px) Xc.env u) Q E' s1 := by
  subst e
  obtain ⟨m, hn, hl⟩ := id I.loc
  have hkl := comp_local (cl := cl) (C := C) S (List.mem_of_getElem? hx)
  refine wpAny_assign_Name (wpAny_storeName_local hkl hn (fun h' hn' hs => ?_) (by rw [show (cxC X scope cl xs C pins s0 H0 fp E).env.scope.kind = .function from S.kind]; rfl))
  refine h _ ?_
  have neL : ∀ b o, s0.heap.get? b = some o → b ≠ C := fun b o e => Nat.ne_of_lt (Nat.lt_of_lt_of_le (Heap.lt_size e) I.ok.above)
  obtain ⟨oL, _, _, hoL, _⟩ := id hn
  have hfree : H1 C = none := I.free
  refine ⟨I.ok, I.os, I.bare, ⟨fun b o e n hb hx => ?_, fun b o e n hb hx => ?_, I.base.free, fun b o e hx => ?_, I.base.tups, I.base.frzs, I.base.tbls⟩, ⟨_, hn', fun j y v' e1 e2 e3 => ?_⟩, fun y c e => ?_, I.free, I.freeC, fun p hp => ?_, fun b ob e => ?_, by simpa using I.len⟩
  · exact (hs.2 b (neL b o e)).trans (I.base.keep b o e n hb hx)
  · obtain ⟨sl, e1⟩ := I.base.slot b o e n hb hx
    exact ⟨sl, (hs.2 b (neL b o e)).trans e1⟩
  · obtain ⟨o', e1⟩ := I.base.there b o e hx
    exact ⟨o', (hs.2 b (neL b o e)).trans e1⟩
  · have hnl : n < xs.length := (List.getElem?_eq_some_iff.mp hx).1
    by_cases hlt : j < xs.length
    · have ey : xs[j]? = some y := by
        have : (xs ++ X.N)[j]? = some y := e1
        rwa [List.getElem?_append_left hlt] at this
      rw [List.getElem?_append_left (by simp; omega)] at e2
      by_cases hj : n = j
      · subst hj
        rw [hx] at ey; cases ey
        rw [List.getElem?_set, if_pos rfl, if_pos (by omega)] at e2
        cases e2
        exact ⟨u, r, .inl ⟨hkl, by simp⟩⟩
      · rw [List.getElem?_set_ne hj] at e2
        have hne : y ≠ x := by
          rintro rfl
          obtain ⟨h1, e1'⟩ := List.getElem?_eq_some_iff.mp hx
          obtain ⟨h2, e2'⟩ := List.getElem?_eq_some_iff.mp ey
          exact hj ((List.getElem_inj S.nd).mp (e1'.trans e2'.symm))
        obtain ⟨u', r', q⟩ := hl j y v' e1 (by rw [List.getElem?_append_left (by omega)]; exact e2) e3
        refine ⟨u', r', ?_⟩
        rcases q with ⟨k, e⟩ | ⟨k, c, e, z⟩
        · exact .inl ⟨k, by simpa [hne] using e⟩
        · exact .inr ⟨k, c, e, z.sameBut hs (I.cne y c e)⟩
    · obtain ⟨j, rfl⟩ : ∃ k, j = xs.length + k := ⟨j - xs.length, by omega⟩
      have e2' : (mask ks σ0)[j]? = some (some v') := by
        rw [List.getElem?_append_right (by simp; omega)] at e2
        simpa [hol] using e2
      obtain ⟨u', r', q⟩ := hl (xs.length + j) y v' e1 (by rw [List.getElem?_append_right (by omega)]; simpa [hol] using e2') e3
      refine ⟨u', r', ?_⟩
      rcases q with ⟨k, e⟩ | ⟨k, c, e, z⟩
      · obtain ⟨hks, _⟩ := mask_get e2'
        have e1' : X.N[j]? = some y := by
          have : (xs ++ X.N)[xs.length + j]? = some y := e1
          rw [List.getElem?_append_right (by omega)] at this
          simpa using this
        have hfr : scope.names.lookup y = some .free := S.cap j (List.getElem?_eq_some_iff.mp hks).1 hks y (by rw [e1']; rfl)
        rcases comp_seen (cl := cl) (C := C) S hfr with z | z
        · have k' : (compEnvC scope cl C X.env).kindOf y = some .local := k
          rw [k'] at z; cases z
        · have k' : (compEnvC scope cl C X.env).kindOf y = some .local := k
          rw [k'] at z; cases z
      · exact .inr ⟨k, c, e, z.sameBut hs (I.cne y c e)⟩
  · obtain ⟨w', z⟩ := I.cell y c e
    exact ⟨w', z.sameBut hs (I.cne y c e)⟩
  · obtain ⟨e, n, ne, nf, d⟩ := I.pin p hp
    exact ⟨(hs.2 p.1 ne).trans e, n, ne, nf, d⟩
  · refine (I.hok b ob e).stay (fun c w' hc q => (hs.2 c ?_).trans q) (fun _ q => q) fun _ _ q => q
    intro ec
    rcases hc with hc | hc
    · have : H1 C = some ob := by rw [← (show c = C from ec), hc]; exact e
      rw [hfree] at this; cases this
    · have : H1 C = some (.own b) := by rw [← (show c = C from ec)]; exact hc
      rw [hfree] at this; cases this
noncomputable def ownN : V → Hp → List V → Prop := fun x _ vs => vs = [x]
noncomputable def ownT (K : PySem.W.Frag) (n : Nat) : V → Hp → List V → Prop := fun x H vs => ∃ a, x = .ref a ∧ SqT K H a vs ∧ vs.length = n
noncomputable def Own (X : Cx) (scope : Scope) (xs : List Str) (ks : List Bool) (tg : Expr) (ow : V → Hp → List V → Prop) : Prop :=
  ∀ (cl : List (Str × Addr)) (C : Addr) (pins : List (Addr × Obj)) (s0 : Shared) (H0 : Hp) (fp : List Addr) (E : Value → Shared → Prop) (Xc : Cx) (σ0 : L2.St) (own : List (Option V)) (x : V) (vs : List V) (u : Value) (H1 : Hp) (s1 : Shared) (pins' : List (Addr × Obj)) (E' : Value → Shared → Prop) (Q : Unit → Shared → Prop),
    Xc = cxC X scope cl xs C pins s0 H0 fp E → own.length = xs.length → Inv Xc pins' (own ++ mask ks σ0) H1 s1 → RelV x u → ow x H1 vs →
    (vs.length = xs.length → ∀ s', Inv Xc pins' (vs.map some ++ mask ks σ0) H1 s' → Q () s') → wpAny (model X.prog X.w) X.A (assign tg Xc.env u) Q E' s1
theorem own_name {px : Pos} (S : CompSc X.env.scope X.N scope [x] ks) : Own X scope [x] ks (.Name x px) ownN := by
  intro cl C pins s0 H0 fp E Xc σ0 own v vs u H1 s1 pins' E' Q e ho I r hv h
  cases hv
  match own, ho with
  | [a], _ => exact comp_store (own := [a]) (n := 0) S e rfl rfl I r fun s' I' => h rfl s' I'
theorem own_pair {x y : Str} {px py pt : Pos} {k : Nat} (hc : X.calm = true) (S : CompSc X.env.scope X.N scope [x, y] ks) : Own X scope [x, y] ks (.Tuple [.Name x px, .Name y py] k pt) (ownT X.K 2) := by
  intro cl C pins s0 H0 fp E Xc σ0 own v vs u H1 s1 pins' E' Q e ho I r hv h
  obtain ⟨a, rfl, sq, hl⟩ := hv
  cases r
  match own, ho, vs, hl with
  | [a1, a2], _, [v1, v2], _ =>
    have sq' : SqT Xc.K H1 a [v1, v2] := by rw [e]; exact sq
    obtain ⟨its, rv, ht, hz⟩ := I.tuple sq'
    cases rv with
    | cons r1 rv =>
    cases rv with
    | cons r2 rv =>
    cases rv
    have hd : X.A.handled = none := by
      have := I.ok.hd (by rw [e]; exact hc)
      rw [e] at this; exact this
    refine assign_Tuple_tuple hd ht rfl rfl fun h' hx => ?_
    have I1 : Inv Xc pins' ([a1, a2] ++ mask ks σ0) H1 { s1 with heap := h' } := I.kept (t' := s1.toks) fun b o e => hx b o (Nat.ne_of_lt (Heap.lt_size e)) e
    refine assignInOrder_cons (comp_store (own := [a1, a2]) (n := 0) S e rfl rfl I1 r1 fun s2 I2 => ?_)
    refine assignInOrder_cons (comp_store (own := [some v1, a2]) (n := 1) S e rfl rfl I2 r2 fun s3 I3 => ?_)
    exact assignInOrder_nil (h rfl _ I3)
end
end L3
end
section
set_option Elab.async false
set_option linter.all false
set_option maxRecDepth 100000
namespace L3
open PySem PySem.Spec L2
theorem compLoop_gen {prog : Program} {w : World} {A : Around} {R : Result → Shared → Prop} {s : Shared} {elt target iter : Expr} {ifs : List Expr} {scope : Scope} {pos : Pos} {it acc : Value} {env : Env} (I : Nat → Shared → Prop)
    (turn : ∀ (n : Nat) (s : Shared), I n s → wpAny (model prog w) A (pyNext it) (fun r s₁ => match r with
      | none => R (.ok .next) s₁
      | some v => wpAny (model prog w) A (letOwnedTupleGo target it v) (fun _ s₁' => wpAny (model prog w) A (assign target env v) (fun _ s₂ => wpAny (model prog w) A (forIn ifs true fun c r => if r = true then do let ok ← isTrue c env (eval c env); pure (ForInStep.yield ok) else pure (ForInStep.yield r)) (fun ok s₃ => if ok = true then wpAny (model prog w) A (eval elt env) (fun x s₄ => wpAny (model prog w) A (call (.builtin "list.append") [acc, x]) (fun _ s₅ => ∃ m, m < n ∧ I m s₅) (notedBy (model prog w) A env fun e s' => R (.error e) s') s₄) (notedBy (model prog w) A env fun e s' => R (.error e) s') s₃ else ∃ m, m < n ∧ I m s₃) (notedBy (model prog w) A env fun e s' => R (.error e) s') s₂) (notedBy (model prog w) A env fun e s' => R (.error e) s') s₁') (notedBy (model prog w) A env fun e s' => R (.error e) s') s₁) (notedBy (model prog w) A env fun e s' => R (.error e) s') s) (n : Nat) (h : I n s) :
    codeAny (model prog w) A (.compLoop (.ListComp elt [⟨target, iter, ifs, 0⟩] scope pos) 0 it acc env) R s := by
  refine codeAny_loop rfl I (fun n s hI => ?_) n h
  refine wpAny_noted ?_
  rw [compTurn_list]
  refine wpAny_bind (wpAny_standAt (wpAny_bind (wpAny_mono (turn n s hI) (fun r s₁ h₁ => ?_) fun _ _ z => z)))
  cases r with
  | none => exact wpAny_pure h₁
  | some v =>
    refine wpAny_bind (wpAny_mono h₁ (fun _ s₂ h₂ => wpAny_bind (wpAny_mono h₂ (fun _ s₃ h₃ => wpAny_bind (wpAny_mono h₃ (fun ok s₄ h₄ => ?_) fun _ _ z => z)) fun _ _ z => z)) fun _ _ z => z)
    cases ok with
    | false => exact wpAny_pure ⟨rfl, h₄⟩
    | true => exact wpAny_bind (wpAny_bind (wpAny_mono h₄ (fun x s₅ h₅ => wpAny_bind (wpAny_mono h₅ (fun _ s₆ h₆ => wpAny_pure (wpAny_pure ⟨rfl, h₆⟩)) fun _ _ z => z)) fun _ _ z => z))
noncomputable def CT (X : Cx) (ifs : List Expr) (tt : TT) : Prop := ∀ (pins : List (Addr × Obj)) (s : Shared) (σ : L2.St) (H : Hp) (Q : Bool → Hp → Prop), Inv X pins σ H s → tt σ H Q →
  wpAny (model X.prog X.w) X.A (forIn ifs true fun c r => if r = true then do let ok ← isTrue c X.env (eval c X.env); pure (ForInStep.yield ok) else pure (ForInStep.yield r)) (TP X pins σ Q) X.xe s
theorem ct_nil {X : Cx} : CT X [] (fun _ H Q => Q true H) := fun _ _ _ H _ I h => wpAny_tests_nil ⟨H, I, h⟩
noncomputable def tComp (wi : TI) (ks : List Bool) (ow : V → Hp → List V → Prop) (tt : TT) (te : TE) : TE := fun σ H Q => wi σ H fun J H1 => ∀ D, H1 D = none → ∃ W : Nat → Nat → Hp → Prop, (∃ m, W 0 m (upd H1 D (.lst []))) ∧ ∀ i m H, W i m H →
   (J.stop i H ∧ Q (.ref D) H) ∨ (J.go i H ∧ ∀ x H', J.yld i H x H' → ∃ vs, ow x H' vs ∧ tt (vs.map some ++ mask ks σ) H' fun b H2 => if b = true then te (vs.map some ++ mask ks σ) H2 fun v H3 => ∃ ys, H3 D = some (.lst ys) ∧ ys.length < sizeLine ∧ ∃ m', m' < m ∧ W (i + 1) m' (upd H3 D (.lst (ys ++ [v]))) else ∃ m', m' < m ∧ W (i + 1) m' H2)
section
variable {X : Cx} {scope : Scope} {xs : List Str} {tg : Expr} {ow : V → Hp → List V → Prop} {ks : List Bool} {pins : List (Addr × Obj)} {σ : L2.St} {H : Hp} {s s4 : Shared} {fp : List Addr} {E : Value → Shared → Prop} {h1 : Heap} {elt iter : Expr} {ifs : List Expr} {px pos : Pos} {tt : TT} {te : TE} {wi : TI}
theorem frames_move {h h' B B' : Heap} : ∀ {l : List Env}, h.FunFrames B l → (∀ b ∈ frs l, ∀ o, h.get? b = some o → (∀ vs, o.data ≠ .fields vs) → ∃ o', h'.get? b = some o' ∧ o'.data = o.data) → (∀ b ∈ frs l, B'.get? b = none) → h'.FunFrames B' l
  | [], _, _, _ => trivial
  | env :: r, ⟨hk, ⟨L, o, hf, _, ho, hd⟩, hr⟩, hm, hB => by
    have sub : ∀ b, b = L ∨ b ∈ frs r → b ∈ frs (env :: r) := fun b hb => by
      unfold frs; rw [List.filterMap_cons, hf]
      rcases hb with z | z
      · rw [z]; exact List.mem_cons_self
      · exact List.mem_cons_of_mem _ z
    obtain ⟨o', e1, e2⟩ := hm L (sub L (.inl rfl)) o ho hd
    exact ⟨hk, ⟨L, o', hf, hB L (sub L (.inl rfl)), e1, by rw [e2]; exact hd⟩, frames_move hr (fun b hb => hm b (sub b (.inr hb))) fun b hb => hB b (sub b (.inr hb))⟩
theorem comp_raise {EE : EXK} {D C e : Addr} {cls : Value} {c : XD} {pins' : List (Addr × Obj)} {σ' : L2.St} {H' HD : Hp} {s3 s' : Shared} {cl : List (Str × Addr)} {RE : Value → Shared → Prop} (hXL : XLnk X EE) (hst : ∃ env0 outer0 L, X.stack = env0 :: outer0 ∧ X.env.frame = env0.frame ∧ env0.frame = some L)
    (I3 : Inv X pins σ HD s3) (hC : C = s3.heap.objs.size) (f3 : ∀ b ∈ fp, FpOk X pins HD b ∧ b < s3.heap.objs.size)
    (hRE : ∀ s'' : Shared, (∃ m, s''.heap.Ns C m ∧ ∀ h', Heap.SameBut C s''.heap h' → ∀ cenv : Env, cenv.locals = C → wpAny (model X.prog X.w) X.A (passOn "comprehension.variables-let-go" (.ref e) cenv : Sem Value) (fun _ _ => False) X.xe { s'' with heap := h' }) → RE (.ref e) s'')
    (I' : Inv (cxC X scope cl xs C pins s3 HD fp E) pins' σ' H' s') (fx : FlyX (cxC X scope cl xs C pins s3 HD fp E) H' e cls s') (hc : ClsIs X.mg c cls) (ee : EE c σ H') :
    notedBy (model X.prog X.w) X.A (compEnvC scope cl C X.env) RE (.ref e) s' := by
  obtain ⟨B, fb, hok, cov⟩ := fx
  obtain ⟨env0, outer0, L, h1, h2, h3⟩ := hst
  show wpAny _ X.A (noteFrame (.ref e) (compEnvC scope cl C X.env)) _ _ s'
  rw [note_frame (show (compEnvC scope cl C X.env).frame = env0.frame from h2)]
  have hfr : X.A.frames = some (env0 :: outer0) := by rw [← h1]; exact I3.ok.frames
  have fb' : FlyB B (env0 :: outer0) e cls s'.heap := by rw [← h1]; exact fb
  refine note_ok hfr h3 fb' fun h5 a0 hH u5 => ?_
  obtain ⟨k1, k2, k3, oe, vs, T, oT, ts, he, hcls, hd, hv1, hnT, hTe, hT, hdT, ht3⟩ := hH
  have k3' : h5.FunFrames B X.stack := by rw [h1]; exact k3
  obtain ⟨m, hm, _⟩ := id I'.loc
  have hm5 : h5.Ns C m := u5.ns hm
  refine hRE _ ⟨m, hm5, fun h6 sb cenv _ => ?_⟩
  obtain ⟨oC, esC, epC, hoC, hdC, _⟩ := id hm5
  have neC : ∀ {b : Addr} {o : Obj} {ws : Array Value}, h5.get? b = some o → o.data = .fields ws → b ≠ C := fun {b o ws} q d z => by
    rw [z, hoC] at q; cases q; rw [hdC] at d; cases d
  have he6 := (sb.2 e (neC he hd)).trans he
  have hT6 := (sb.2 T (neC hT hdT)).trans hT
  have sz3 : 3 < ts.size := (Array.getElem?_eq_some_iff.mp ht3).1
  unfold passOn setFlight
  refine wpAny_bind (wpAny_field he6 hd hv1 ?_)
  rw [if_neg (show ¬ ((Value.ref T == Value.none) = true) by simp)]
  have fin : X.xe (.ref e) { s' with heap := h6.update T (Obj.mapFields (·.setIfInBounds 3 (cenv.frame.elim .none fun f => rawInt f))) } := by
    have othT : ∀ b, b ≠ T → (h6.update T (Obj.mapFields (·.setIfInBounds 3 (cenv.frame.elim .none fun f => rawInt f)))).get? b = h6.get? b := fun b hb => Heap.get?_update_other _ _ (Ne.symm hb)
    have oth : ∀ b, b ≠ T → b ≠ C → (h6.update T (Obj.mapFields (·.setIfInBounds 3 (cenv.frame.elim .none fun f => rawInt f)))).get? b = h5.get? b := fun b hb hb2 => (othT b hb).trans (sb.2 b hb2)
    generalize hh7 : h6.update T (Obj.mapFields (·.setIfInBounds 3 (cenv.frame.elim .none fun f => rawInt f))) = h7 at othT oth
    have hT7 : h7.get? T = some (Obj.mapFields (·.setIfInBounds 3 (cenv.frame.elim .none fun f => rawInt f)) oT) := by rw [← hh7]; exact Heap.get?_update_self _ hT6 (Obj.isFreed_of_fields (Obj.data_mapFields hdT _))
    have BnT : ∀ b o, B.get? b = some o → b ≠ T := fun b o q z => by rw [z, hnT] at q; cases q
    have stB : ∀ b o, (B.hide C).get? b = some o → h7.get? b = some o := fun b o q => by
      have q' := Heap.of_hide q
      have nC : b ≠ C := fun z => by rw [z, Heap.hide_self] at q; cases q
      rw [oth b (BnT b o q') nC]
      exact k1 b o q'
    have hide : ∀ b o, b ≠ C → B.get? b = some o → (B.hide C).get? b = some o := fun b o z q => (Heap.hide_ne B z).trans q
    have lt3 : ∀ b o, s3.heap.get? b = some o → b ≠ C := fun b o q => by rw [hC]; exact Nat.ne_of_lt (Heap.lt_size q)
    have hokB : HOk X.prog X.w H' (B.hide C) := hok_hide hok fun b o n q => hide b o (fun z => n (by rw [z]; exact I'.free)) q
    have nfs : ∀ b, b ∉ frs X.stack → b ∉ X.fs := fun b hb z => hb (by
      rcases I3.ok.stk with q | ⟨q, _⟩
      · rw [q]; exact z
      · rw [q]; unfold frs; rw [List.filterMap_cons]; split
        · exact z
        · exact List.mem_cons_of_mem _ z)
    have slot : ∀ b o, s3.heap.get? b = some o → b ∈ frs X.stack → ∃ sl, h7.get? b = some { o with slots := sl } := fun b o q hb => by
      obtain ⟨_, o', q', hnf⟩ := I3.stack.mem hb
      rw [q] at q'; cases q'
      obtain ⟨sl, e1⟩ := I'.base.slot b o q (I3.stkFree b hb) hb fun z => (I'.ok.exfs b z) hb
      obtain ⟨sl', e2⟩ := u5 b _ e1 hnf
      refine ⟨sl', ?_⟩
      rw [oth b (fun z => by rw [z, hT] at e2; cases e2; exact hnf _ hdT) (lt3 b o q)]
      exact e2
    have un : Un (frs X.stack) fp HD H' s3.heap h7 := ⟨fun b o q n hb hx => stB b o (hide b o (lt3 b o q) (cov.keep b o q n hb hx)), fun b o q n hb hx => slot b o q hb, fun b o q n hx => I'.base.free b o q n hx, fun b o q hx => by
      by_cases hb : b ∈ frs X.stack
      · obtain ⟨sl, z⟩ := slot b o q hb
        exact ⟨_, z⟩
      · obtain ⟨o', z⟩ := cov.there b o q hb hx
        exact ⟨o', stB b o' (hide b o' (lt3 b o q) z)⟩, I'.base.tups, I'.base.frzs, I'.base.tbls⟩
    have I7 : Inv X pins σ H' { s' with heap := h7 } := I3.call' (ch := fp) I'.os un (hokB.kept stB) I'.bare fun b hb => by
      obtain ⟨g0, g1, g2, g3, g4, g5⟩ := (f3 b hb).1
      exact ⟨g3, g1, g4, g5⟩
    have nfp : ∀ b o, X.s₀.heap.get? b = some o → b ∉ X.ex → b ∉ fp := fun b o q hx hb => by
      obtain ⟨g0, g1, g2, g3, g4, g5⟩ := (f3 b hb).1
      rcases g3 with z | z
      · exact hx z
      · exact absurd (Nat.lt_of_lt_of_le (Heap.lt_size q) z) (Nat.lt_irrefl _)
    refine hXL pins σ H' _ e cls c I7 ⟨B.hide C, ⟨stB, ?_, ?_, .inr ⟨a0, _, oe, vs, T, _, _, ?_, hcls, hd, hv1, ?_, hTe, hT7, Obj.data_mapFields hdT _, by simp [sz3]; rfl⟩⟩, hokB, ⟨fun b o q n hb hx => ?_, fun b o q hb hx => ?_, fun p hp => ?_⟩⟩ hc ee
    · cases q : (B.hide C).get? e with
      | none => rfl
      | some o => have := Heap.of_hide q; rw [k2] at this; cases this
    · refine frames_move k3' (fun b hb o q hnf => ?_) fun b hb => ?_
      · refine ⟨o, ?_, rfl⟩
        show h7.get? b = some o
        rw [oth b (fun z => by rw [z, hT] at q; cases q; exact hnf _ hdT) ?_]
        · exact q
        · obtain ⟨_, o', q', _⟩ := I3.stack.mem hb
          exact lt3 b o' q'
      · cases q : (B.hide C).get? b with
        | none => rfl
        | some o => have := Heap.of_hide q; rw [(k3'.mem hb).1] at this; cases this
    · exact (oth e (Ne.symm hTe) (neC he hd)).trans he
    · cases q : (B.hide C).get? T with
      | none => rfl
      | some o => have := Heap.of_hide q; rw [hnT] at this; cases this
    · have q3 := I3.base.keep b o q n (nfs b hb) hx
      exact hide b o (lt3 b o q3) (cov.keep b o q3 (I3.base.free b o q n hx) hb (nfp b o q hx))
    · obtain ⟨o', q3⟩ := I3.base.there b o q hx
      obtain ⟨o'', z⟩ := cov.there b o' q3 hb (nfp b o q hx)
      exact ⟨o'', hide b o'' (lt3 b o' q3) z⟩
    · exact hide _ _ (lt3 _ _ (I3.pin p (List.mem_append_left _ hp)).1) (cov.pins p (List.mem_append_left _ hp))
  first
    | (refine wpAny_bind (wpAny_pure ?_); refine wpAny_bind (wpAny_bind (wpAny_field he6 hd hv1 ?_)))
    | refine wpAny_bind (wpAny_bind (wpAny_field he6 hd hv1 ?_))
  rw [if_pos (show (Value.ref T != Value.none) = true by simp)]
  exact wpAny_setField hT6 hdT sz3 (wpAny_throw fin)
theorem comp_block {Q : VK} {J : It} {it : Addr} {tn : Nat → Heap → Prop} {RR : Value → Addr → Result → Shared → Prop} {EE : EXK} (hXL : XLnk X EE) (hst : ∃ env0 outer0 L, X.stack = env0 :: outer0 ∧ X.env.frame = env0.frame ∧ env0.frame = some L) (S : CompSc X.env.scope X.N scope xs ks) (how : Own X scope xs ks tg ow) (hc : X.calm = true) (I : Inv X pins σ H s)
    (T : Turn X.prog X.w X.K tg J fp it tn) (st : tn 0 s.heap) (hf : ∀ b ∈ fp, FpOk X pins H b)
    (hb : ∀ (cl : List (Str × Addr)) (C : Addr) (pins : List (Addr × Obj)) (s0 : Shared) (H0 : Hp) (fp : List Addr) (E : Value → Shared → Prop), XLnk (cxC X scope cl xs C pins s0 H0 fp E) (fun c _ H' => EE c σ H') → CT (cxC X scope cl xs C pins s0 H0 fp E) ifs tt ∧ PE (cxC X scope cl xs C pins s0 H0 fp E) elt te)
    (hw : ∀ D, H D = none → ∃ W : Nat → Nat → Hp → Prop, (∃ m, W 0 m (upd H D (.lst []))) ∧ ∀ i m H, W i m H →
      (J.stop i H ∧ Q (.ref D) H) ∨ (J.go i H ∧ ∀ x H', J.yld i H x H' → ∃ vs, ow x H' vs ∧ tt (vs.map some ++ mask ks σ) H' fun b H2 => if b = true then te (vs.map some ++ mask ks σ) H2 fun v H3 => ∃ ys, H3 D = some (.lst ys) ∧ ys.length < sizeLine ∧ ∃ m', m' < m ∧ W (i + 1) m' (upd H3 D (.lst (ys ++ [v]))) else ∃ m', m' < m ∧ W (i + 1) m' H2))
    (hRR : ∀ (D C : Addr) (s' : Shared) (H' : Hp) (m : Str → Option Value), Inv X pins σ H' s' → s'.heap.Ns C m → H' C = none → C ≠ X.env.locals → X.s₀.heap.objs.size ≤ C → (∀ x c, X.env.cells.lookup x = some c → c ≠ C) → (∀ p ∈ X.pn ++ pins, p.1 ≠ C) → Q (.ref D) H' → RR (.ref D) C (.ok .next) s')
    (hRE : ∀ (acc : Value) (C e : Addr) (s'' : Shared), (∃ m, s''.heap.Ns C m ∧ ∀ h', Heap.SameBut C s''.heap h' → ∀ cenv : Env, cenv.locals = C → wpAny (model X.prog X.w) X.A (passOn "comprehension.variables-let-go" (.ref e) cenv : Sem Value) (fun _ _ => False) X.xe { s'' with heap := h' }) → RR acc C (.error (.ref e)) s'') :
    wpAny (model X.prog X.w) X.A (newList []) (fun acc s₃ => wpAny (model X.prog X.w) X.A (newFunctionEnv scope X.env.globals (closOf X.env scope.names []) [] X.env.qual none .none (some X.env)) (fun cenv s₄ =>
      codeAny (model X.prog X.w) X.A (.compStart (.ListComp elt [⟨tg, iter, ifs, 0⟩] scope pos) 0 (.ref it) acc { cenv with scope := relabel scope X.env }) (RR acc cenv.locals) s₄) E s₃) E s := by
  refine wpAny_newObj_type (wpAny_newFunctionEnv S.nocell (by intro y hy; simp at hy) (fun h₁ hns₁ hsb₁ => ?_) S.kind)
  have I3 : Inv X pins σ (upd H s.heap.objs.size (.lst [])) { s with heap := s.heap.push { cls := .type "list", dict := none, data := .seq ([] : List Value).toArray } } :=
    I.laid (t' := s.toks) (fun b o e => Heap.get?_push_of_some _ e) (Nat.le_refl _) ⟨Nat.zero_le _, [], 0, .nil, Heap.get?_push_size _ rfl⟩
  have hfree := I.hok.fresh (Nat.le_refl s.heap.objs.size)
  generalize hs3 : ({ s with heap := s.heap.push { cls := .type "list", dict := none, data := .seq ([] : List Value).toArray } } : Shared) = s3 at I3 hns₁ hsb₁ ⊢
  have hsz : s3.heap.objs.size = s.heap.objs.size + 1 := by rw [← hs3]; exact Heap.size_push ..
  have old3 : ∀ b o, s.heap.get? b = some o → s3.heap.get? b = some o := fun b o e => by rw [← hs3]; exact Heap.get?_push_of_some _ e
  have fplt : ∀ b ∈ fp, b < s.heap.objs.size := fun b hb' => by
    obtain ⟨o, e, _⟩ := T.obj 0 _ st b hb'
    exact Heap.lt_size e
  have f3 : ∀ b ∈ fp, FpOk X pins (upd H s.heap.objs.size (.lst [])) b ∧ b < s3.heap.objs.size := fun b hb' =>
    ⟨⟨by rw [upd_ne (Nat.ne_of_lt (fplt b hb'))]; exact (hf b hb').1, (hf b hb').2⟩, by rw [hsz]; exact Nat.lt_succ_of_lt (fplt b hb')⟩
  have keep1 : ∀ b o, s3.heap.get? b = some o → h₁.get? b = some o := fun b o e => hsb₁.extBut b o (Nat.ne_of_lt (Heap.lt_size e)) (Heap.get?_push_of_some _ e)
  obtain ⟨W, ⟨m0, w0⟩, turn⟩ := hw s.heap.objs.size hfree
  generalize hX : cxC X scope (closOf X.env scope.names []) xs s3.heap.objs.size pins s3 (upd H s.heap.objs.size (.lst [])) fp (notedBy (model X.prog X.w) X.A (compEnvC scope (closOf X.env scope.names []) s3.heap.objs.size X.env) fun e s' => RR (.ref s.heap.objs.size) s3.heap.objs.size (.error e) s') = Xc
  have I4 : Inv Xc [] (List.replicate xs.length none ++ mask ks σ) (upd H s.heap.objs.size (.lst [])) { s3 with heap := h₁, toks := s3.toks + ([] : List (Str × Value)).length } := by
    rw [← hX]
    exact comp_start S I3 f3 (by simpa using hns₁) keep1 _
  have hbe : CT Xc ifs tt ∧ PE Xc elt te := by
    rw [← hX]
    exact hb _ _ _ _ _ _ _ fun pins' σ' H' s' e cls c I' fx hc ee => comp_raise (RE := fun e s' => RR (.ref s.heap.objs.size) s3.heap.objs.size (.error e) s') (D := s.heap.objs.size) hXL hst I3 rfl f3 (fun s'' => hRE _ _ e s'') I' fx hc ee
  have eprog : Xc.prog = X.prog := by rw [← hX]; rfl
  have ew : Xc.w = X.w := by rw [← hX]; rfl
  have eK : Xc.K = X.K := by rw [← hX]; rfl
  have eA : Xc.A = X.A := by rw [← hX]; rfl
  have ecalm : Xc.calm = true := by rw [← hX]; exact hc
  have exe : Xc.xe = notedBy (model X.prog X.w) X.A Xc.env fun e s' => RR (.ref s.heap.objs.size) s3.heap.objs.size (.error e) s' := by rw [← hX]; rfl
  have eenv : Xc.env = compEnvC scope (closOf X.env scope.names []) s3.heap.objs.size X.env := by rw [← hX]; rfl
  have estk : Xc.stack = X.stack := by rw [← hX]; rfl
  have fok : ∀ {H' : Hp}, (∀ b ∈ fp, H' b = none) → ∀ b ∈ fp, FpOk Xc [] H' b := fun {H'} hn b hb' => by
    obtain ⟨g0, g1, g2, g3, g4, g5⟩ := (f3 b hb').1
    rw [← hX]
    refine ⟨hn b hb', Nat.ne_of_lt (f3 b hb').2, fun z => (List.mem_cons.mp (I3.stkSub b z)).elim g1 g2, .inl hb', fun y c e => g4 y c (clos_sub scope.names [] (fun y c e => by simp at e) y c e), fun p hp => g5 p ?_⟩
    have : p ∈ (X.pn ++ pins) ++ [] := hp
    simpa using this
  have fin : ∀ (s' : Shared) (H' : Hp) (a0 : List (Option V)), Inv Xc [] (a0 ++ mask ks σ) H' s' → Q (.ref s.heap.objs.size) H' → RR (.ref s.heap.objs.size) s3.heap.objs.size (.ok .next) s' := fun s' H' a0 I' q => by
    have hloc := I'.loc
    obtain ⟨m, hm, _⟩ := hloc
    have hC : H' s3.heap.objs.size = none := by have := I'.free; rw [eenv] at this; exact this
    have hU : Un (frs X.stack) fp (upd H s.heap.objs.size (.lst [])) H' s3.heap s'.heap := by
      have := I'.base
      rw [← hX] at this
      exact this
    have hos : s'.os = s3.os := by have := I'.os; rw [← hX] at this; exact this
    have hhok : HOk X.prog X.w H' s'.heap := by have := I'.hok; rw [← hX] at this; exact this
    have I5 : Inv X pins σ H' s' := I3.call' hos hU hhok I'.bare fun b hb' => by
      obtain ⟨g0, g1, g2, g3, g4, g5⟩ := (f3 b hb').1
      exact ⟨g3, g1, g4, g5⟩
    refine hRR _ _ s' H' m I5 (by rw [eenv] at hm; exact hm) hC (Nat.ne_of_gt I3.lt) (Nat.le_trans I3.sz (Nat.le_refl _)) (fun y c e z => ?_) (fun p hp z => ?_) q
    · obtain ⟨v, hv⟩ := I3.cell y c e
      exact absurd hv.lt (by rw [z]; exact Nat.lt_irrefl _)
    · exact absurd (Heap.lt_size (I3.pin p hp).1) (by rw [z]; exact Nat.lt_irrefl _)
  have loop : codeAny (model X.prog X.w) X.A (.compLoop (.ListComp elt [⟨tg, iter, ifs, 0⟩] scope pos) 0 (.ref it) (.ref s.heap.objs.size) Xc.env) (RR (.ref s.heap.objs.size) s3.heap.objs.size)
      { s3 with heap := h₁, toks := s3.toks + ([] : List (Str × Value)).length } := by
    refine compLoop_gen (fun n s' => ∃ i a0 H', a0.length = xs.length ∧ Inv Xc [] (a0 ++ mask ks σ) H' s' ∧ tn i s'.heap ∧ (∀ b ∈ fp, H' b = none) ∧ W i n H') ?_ m0 ⟨0, List.replicate xs.length none, _, by simp, I4, T.keep 0 _ _ st fun b hb' o e => keep1 b o (old3 b o e), fun b hb' => (f3 b hb').1.1, w0⟩
    rintro n s5 ⟨i, a0, H5, la0, I5, st5, fr5, w5⟩
    rcases turn i n H5 w5 with ⟨stop, q⟩ | ⟨go, step⟩
    · have hd := T.done Xc eprog ew eK ecalm i [] s5 _ H5 (fun _ _ => False) I5 (fok fr5) st5 stop
      rw [eA] at hd
      refine wpAny_mono hd (fun r s6 hr => ?_) (fun _ _ z => False.elim z)
      obtain ⟨rfl, I6⟩ := hr
      exact fin s6 H5 a0 I6 q
    · have hd := T.item Xc eprog ew eK ecalm i [] s5 _ H5 (fun _ _ => False) I5 (fok fr5) st5 go
      rw [eA] at hd
      refine wpAny_mono hd (fun r s6 hr => ?_) (fun _ _ z => False.elim z)
      obtain ⟨u, rfl, h6⟩ := hr
      refine wpAny_mono h6 (fun _ s7 hq => ?_) (fun _ _ z => False.elim z)
      obtain ⟨v, H7, I7, r7, y7, st7, fr7⟩ := hq
      obtain ⟨vs, hvs, step⟩ := step v H7 y7
      have I7' : Inv Xc (pinsAt fp s7.heap) (a0 ++ mask ks σ) H7 s7 := by
        have := Inv.pinned (pins := []) I7 (fok fr7) (T.obj _ _ st7)
        simpa using this
      have back : ∀ {σ' : L2.St} {H' : Hp} {s' : Shared}, Inv Xc (pinsAt fp s7.heap) σ' H' s' → Inv Xc [] σ' H' s' ∧ tn (i + 1) s'.heap ∧ ∀ b ∈ fp, H' b = none := fun {σ' H' s'} I' => by
        refine ⟨I'.pins_of fun p hp => absurd hp (by simp), T.keep _ _ _ st7 fun b hb' o e => (I'.pin (b, o) (List.mem_append_right _ (mem_pinsAt hb' e))).1, fun b hb' => ?_⟩
        obtain ⟨o, e, d⟩ := T.obj _ _ st7 b hb'
        exact (I'.pin (b, o) (List.mem_append_right _ (mem_pinsAt hb' e))).2.1
      refine how _ _ _ _ _ _ _ Xc σ a0 v vs u H7 s7 _ _ _ hX.symm la0 I7' r7 hvs fun hlv s8 I8' => ?_
      have ht := hbe.1 _ s8 _ H7 _ I8' step
      rw [eprog, ew, eA, exe] at ht
      refine wpAny_mono ht (fun okb s9 h9 => ?_) (fun _ _ z => z)
      obtain ⟨H9, I9, q9⟩ := h9
      cases okb with
      | false =>
        rw [if_neg Bool.false_ne_true] at q9 ⊢
        obtain ⟨m', hm', w'⟩ := q9
        obtain ⟨I9', st9, fr9⟩ := back I9
        exact ⟨m', hm', i + 1, vs.map some, H9, by simpa using hlv, I9', st9, fr9, w'⟩
      | true =>
        rw [if_pos rfl] at q9 ⊢
        have he := hbe.2 _ s9 _ H9 _ I9 q9
        rw [eprog, ew, eA, exe] at he
        refine wpAny_mono he (fun y s10 h10 => ?_) (fun _ _ z => z)
        obtain ⟨yv, H10, I10, r10, ys, hD, hlen, m', hm', w'⟩ := h10
        have ha := mt_append (X := Xc) _ s10 _ H10 (.ref s.heap.objs.size) [yv] (.ref s.heap.objs.size) [y] (fun _ H' => ∃ m', m' < n ∧ W (i + 1) m' H') I10 rfl (.cons r10 .nil) ⟨_, ys, yv, rfl, rfl, hD, hlen, m', hm', w'⟩
        rw [eprog, ew, eA, exe] at ha
        refine wpAny_mono ha (fun _ s11 h11 => ?_) (fun _ _ z => z)
        obtain ⟨_, H11, I11, _, m'', hm'', w''⟩ := h11
        obtain ⟨I11', st11, fr11⟩ := back I11
        exact ⟨m'', hm'', i + 1, vs.map some, H11, by simpa using hlv, I11', st11, fr11, w''⟩
  rw [eenv] at loop
  exact codeAny_compStart_list loop (T.self X.A 0 _ _ _ (T.keep 0 _ _ st fun b hb' o e => keep1 b o (old3 b o e)) loop)
theorem pe_comp {EE : EXK} {tt : L2.St → TT} {te : L2.St → TE} (hXL : XLnk X EE) (hst : ∃ env0 outer0 L, X.stack = env0 :: outer0 ∧ X.env.frame = env0.frame ∧ env0.frame = some L) (S : CompSc X.env.scope X.N scope xs ks) (how : Own X scope xs ks tg ow) (hc : X.calm = true) (hi : PI X tg iter wi)
    (hb : ∀ (σ : L2.St) (cl : List (Str × Addr)) (C : Addr) (pins : List (Addr × Obj)) (s0 : Shared) (H0 : Hp) (fp : List Addr) (E : Value → Shared → Prop), XLnk (cxC X scope cl xs C pins s0 H0 fp E) (fun c _ H' => EE c σ H') → CT (cxC X scope cl xs C pins s0 H0 fp E) ifs (tt σ) ∧ PE (cxC X scope cl xs C pins s0 H0 fp E) elt (te σ))
    (hs : ∀ x, foldedSetIterable iter X.env x = pure x := by intro _; rfl) : PE X (.ListComp elt [⟨tg, iter, ifs, 0⟩] scope pos) (fun σ => tComp wi ks ow (tt σ) (te σ) σ) := by
  intro pins s σ H Q I h
  rw [eval_ListComp]
  refine wpAny_comprehension_free (use := none) rfl hs (closureFor_eq fun y hy hfr => I.ok.has y.1 (S.free y hy hfr)) S.kind S.names (thn (hi pins s σ H _ I h) fun v s1 h1 => thn h1 fun itv s2 h2 => ?_)
  obtain ⟨it, fp, tn, J, H2, rfl, I2, T, st2, f2, q⟩ := h2
  refine comp_block (RR := fun acc C => compPost (model X.prog X.w) X.A X.xe none (EP X pins σ Q) acc C) hXL hst S how hc I2 T st2 f2 (hb σ) q ?_ (fun _ _ _ _ z => z)
  intro D C s' H' m I' hn hC h1 h2 h3 h4 q'
  refine ⟨m, hn, fun h' sb => ?_⟩
  exact ⟨.ref D, H', I'.turned (t' := s'.toks) (fun b o hb e => (sb.2 b hb).trans e) hC h1 (.inr h2) h3 h4, rfl, q'⟩
theorem ps_comp {EE : EXK} {tt : L2.St → TT} {te : L2.St → TE} (hXL : XLnk X EE) (hst : ∃ env0 outer0 L, X.stack = env0 :: outer0 ∧ X.env.frame = env0.frame ∧ env0.frame = some L) {y : Str} {i : Nat} {py spos : Pos} (S : CompSc X.env.scope X.N scope xs ks) (how : Own X scope xs ks tg ow) (hc : X.calm = true) (hN : X.N.Nodup) (hi : PI X tg iter wi) (hy : X.N[i]? = some y) (hl : X.env.scope.names.lookup y = some .local)
    (hsw : swapsWith (.ListComp elt [⟨tg, iter, ifs, 0⟩] scope pos) (some (.Name y py)) spos.line X.env = pure true)
    (hb : ∀ (σ : L2.St) (cl : List (Str × Addr)) (C : Addr) (pins : List (Addr × Obj)) (s0 : Shared) (H0 : Hp) (fp : List Addr) (E : Value → Shared → Prop), XLnk (cxC X scope cl xs C pins s0 H0 fp E) (fun c _ H' => EE c σ H') → CT (cxC X scope cl xs C pins s0 H0 fp E) ifs (tt σ) ∧ PE (cxC X scope cl xs C pins s0 H0 fp E) elt (te σ))
    (hs : ∀ x, foldedSetIterable iter X.env x = pure x := by intro _; rfl) : PS X (.Assign [.Name y py] (.ListComp elt [⟨tg, iter, ifs, 0⟩] scope pos) spos) (tAsg (fun σ => tComp wi ks ow (tt σ) (te σ) σ) (gName i)) := by
  intro pins s σ H Dd I h
  rw [exec_Assign_Name_used _ _ _ _ hsw]
  refine wpAny_bind (wpAny_standAt (wpAny_bind ?_))
  show wpAny _ X.A (do let _ ← comprehension (.ListComp elt [⟨tg, iter, ifs, 0⟩] scope pos) scope X.env _ (newList []) false (eval iter X.env) (some (assign (.Name y py) X.env))) _ _ s
  refine wpAny_bind (wpAny_mono (wpAny_comprehension_free (use := some (assign (.Name y py) X.env)) (Q := fun _ s' => SP X pins Dd .next s') rfl hs (closureFor_eq fun y hy hfr => I.ok.has y.1 (S.free y hy hfr)) S.kind S.names
    (thn (hi pins s σ H _ I h) fun v s1 h1 => thn h1 fun itv s2 h2 => ?_)) (fun _ s' hq => wpAny_pure (wpAny_pure hq)) fun _ _ e => e)
  obtain ⟨it, fp, tn, J, H2, rfl, I2, T, st2, f2, q⟩ := h2
  refine comp_block (Q := fun v H' => Dd.nx (σ.set i (some v)) H') (RR := fun acc C => compPost (model X.prog X.w) X.A X.xe (some (assign (.Name y py) X.env)) (fun _ s' => SP X pins Dd .next s') acc C) hXL hst S how hc I2 T st2 f2 (hb σ) q ?_ (fun _ _ _ _ z => z)
  intro D C s' H' m I' hn hC h1 h2 h3 h4 q'
  show wpAny _ X.A (assign (.Name y py) X.env (.ref D)) _ _ s'
  refine wpAny_assign_Name (store_ok2 I' hN hy (.inl hl) (v := .ref D) (u := .ref D) rfl (fun s'' I'' sb => ?_) (.inr hl))
  obtain ⟨a, sb, ha⟩ := sb
  have hne : C ≠ a := by
    rcases ha with e | e
    · rw [e]; exact h1
    · exact fun z => h3 y a e z.symm
  refine ⟨m, hn.sameBut sb hne, fun h'' sb' => ?_⟩
  exact ⟨_, H', I''.turned (t' := s''.toks) (fun b o hb e => (sb'.2 b hb).trans e) hC h1 (.inr h2) h3 h4, q'⟩
end
end L3
end
section
set_option Elab.async false
set_option linter.all false
set_option maxRecDepth 100000
namespace L3
open PySem PySem.Spec L2
noncomputable def oN : D → Option (List D) := fun d => some [d]
noncomputable def oT (n : Nat) : D → Option (List D)
  | .tup xs => if xs.length = n then some xs else none
  | _ => none
noncomputable def OwnD (K : PySem.W.Frag) (mg : Str → Option Value) (ow : V → Hp → List V → Prop) (gO : D → Option (List D)) : Prop :=
  ∀ (ρ : List Addr) (H : Hp) (d : D) (v : V) (os : List D), Rep K mg ρ H d v → gO d = some os → ∃ vs, ow v H vs ∧ Reps K mg ρ H os vs
theorem ownD_name {K : PySem.W.Frag} {mg : Str → Option Value} : OwnD K mg ownN oN := fun ρ H d v os r e => by
  cases e
  exact ⟨[v], rfl, .cons r .nil⟩
theorem ownD_tup {K : PySem.W.Frag} {mg : Str → Option Value} {n : Nat} : OwnD K mg (ownT K n) (oT n) := fun ρ H d v os r e => by
  cases d <;> try (cases e; done)
  rename_i xs
  dsimp only [oT] at e
  by_cases h : xs.length = n
  · rw [if_pos h] at e; cases e
    unfold Rep at r
    obtain ⟨a, vs, rfl, sq, rs⟩ := r
    exact ⟨vs, ⟨a, rfl, sq, by rw [← rs.length]; exact h⟩, rs⟩
  · rw [if_neg h] at e; cases e
noncomputable def FutN (K : PySem.W.Frag) (mg : Str → Option Value) (H H' : Hp) (ρ : List Addr) : Prop := Fut K H H' ρ ρ ∧ ∀ G, HAb K mg H ρ G → HAb K mg H' ρ G
theorem FutN.refl {K : PySem.W.Frag} {mg : Str → Option Value} {H : Hp} {ρ : List Addr} : FutN K mg H H ρ := ⟨.refl, fun _ h => h⟩
theorem FutN.new {K : PySem.W.Frag} {mg : Str → Option Value} {H : Hp} {ρ : List Addr} {p : Addr} {o : HO} (hp : H p = none) : FutN K mg H (upd H p o) ρ := ⟨fut_new hp ρ, fun _ h => h.new hp⟩
noncomputable def compOne (gO : D → Option (List D)) (ks : List Bool) (tt : DS → M Bool) (te : DS → M D) (n : Nat) (d : D) (τ : DS) (G : DH) : Out Unit := match gO d with
  | none => .stuck
  | some os => match tt (os.map some ++ mask ks τ) G with
  | .ok true G1 => match te (os.map some ++ mask ks τ) G1 with
    | .ok v G2 => match G2[n]? with
      | some (.lst ys) => if ys.length < sizeLine then .ok () (G2.set n (.lst (ys ++ [v]))) else .stuck
      | _ => .stuck
    | .exn c G2 => .exn c G2
    | .stuck => .stuck
  | .ok false G1 => .ok () G1
  | .exn c G1 => .exn c G1
  | .stuck => .stuck
noncomputable def compP (gO : D → Option (List D)) (ks : List Bool) (tt : DS → M Bool) (te : DS → M D) (n : Nat) : List D → DS → DH → Out D
  | [], _, G => .ok (.obj n) G
  | d :: r, τ, G => match compOne gO ks tt te n d τ G with
    | .ok _ G' => compP gO ks tt te n r τ G'
    | .exn c G' => .exn c G'
    | .stuck => .stuck
noncomputable def compO (gO : D → Option (List D)) (ks : List Bool) (tt : DS → M Bool) (te : DS → M D) (n src : Nat) : Nat → Nat → DS → DH → Out D
  | 0, _, _, _ => .stuck
  | f + 1, k, τ, G => match G[src]? with
    | some (.lst xs) => match xs[k]? with
      | none => .ok (.obj n) G
      | some d => match compOne gO ks tt te n d τ G with
        | .ok _ G' => compO gO ks tt te n src f (k + 1) τ G'
        | .exn c G' => .exn c G'
        | .stuck => .stuck
    | _ => .stuck
noncomputable def eComp (gO : D → Option (List D)) (ks : List Bool) (m : DS → M D) (tt : DS → M Bool) (te : DS → M D) : DS → M D := fun τ => (m τ).bind fun d G => match d with
  | .obj k => match G[k]? with
    | some (.lst xs) => compO gO ks tt te G.length k (xs.length + 1) 0 τ (G ++ [.lst []])
    | _ => .stuck
  | .tup xs => compP gO ks tt te G.length xs τ (G ++ [.lst []])
  | .con xs => compP gO ks tt te G.length xs τ (G ++ [.lst []])
  | .str z => compP gO ks tt te G.length (z.cps.toList.map fun c => .str ⟨#[c]⟩) τ (G ++ [.lst []])
  | _ => .stuck
noncomputable def eCompR (rng : List D → Option (List D)) (gO : D → Option (List D)) (ks : List Bool) (m : DS → M (List D)) (tt : DS → M Bool) (te : DS → M D) : DS → M D := fun τ => (m τ).bind fun ds G => match rng ds with
  | some xs => compP gO ks tt te G.length xs τ (G ++ [.lst []])
  | none => .stuck
section
variable {X : Cx} {EE : EXK} {gO : D → Option (List D)} {ow : V → Hp → List V → Prop} {xs : List Str} {tg : Expr} {ks : List Bool} {tt : DS → M Bool} {te : DS → M D}
theorem srep_mask {K : PySem.W.Frag} {mg : Str → Option Value} {σ : L2.St} {H : Hp} {τ : DS} {ρ : List Addr} {os : List D} {vs : List V} (h : SRep K mg H ρ σ τ) (r : Reps K mg ρ H os vs) : SRep K mg H ρ (vs.map some ++ mask ks σ) (os.map some ++ mask ks τ) := by
  have hl := r.length
  refine ⟨by simp [mask_length, h.1, hl], fun i e he => ?_⟩
  by_cases hi : i < os.length
  · rw [List.getElem?_append_left (by simpa using hi), List.getElem?_map] at he
    cases q : os[i]? with
    | none => rw [q] at he; cases he
    | some d =>
      rw [q] at he; cases he
      obtain ⟨v, e1, r1⟩ := r.get q
      exact ⟨v, by rw [List.getElem?_append_left (by simp; omega), List.getElem?_map, e1]; rfl, r1⟩
  · rw [List.getElem?_append_right (by simp; omega)] at he
    obtain ⟨h1, h2⟩ := mask_get he
    obtain ⟨w, e1, r1⟩ := h.2 _ e h2
    refine ⟨w, ?_, r1⟩
    rw [List.getElem?_append_right (by simp; omega)]
    have := mask_of h1 e1
    simpa [hl] using this
noncomputable def EEc (EE : EXK) (σ : L2.St) : EXK := fun c _ H' => EE c σ H'
theorem comp_turn (hO : OwnD X.K X.mg ow gO) {W : Hp → Prop} {n : Nat} {p : Addr} {σ : L2.St} {H : Hp} {τ : DS} {ρ : List Addr} {G : DH} {d : D} {v : V} (ab : Ab X.K X.mg σ H τ ρ G) (r : Rep X.K X.mg ρ H d v) (hn : ρ[n]? = some p)
    (hW : match compOne gO ks tt te n d τ G with
      | .stuck => False
      | .ok _ G' => ∀ H' ρ', Fut X.K H H' ρ ρ' → Ab X.K X.mg σ H' τ ρ' G' → W H'
      | .exn c G' => ∀ H' ρ', Fut X.K H H' ρ ρ' → Ab X.K X.mg σ H' τ ρ' G' → EE c σ H') :
    ∃ vs, ow v H vs ∧ liftT X.K X.mg (EEc EE σ) tt (vs.map some ++ mask ks σ) H fun b H2 => if b = true then liftE X.K X.mg (EEc EE σ) te (vs.map some ++ mask ks σ) H2 fun u H3 => ∃ ys, H3 p = some (.lst ys) ∧ ys.length < sizeLine ∧ W (upd H3 p (.lst (ys ++ [u]))) else W H2 := by
  unfold compOne at hW
  cases qo : gO d with
  | none => rw [qo] at hW; exact hW.elim
  | some os =>
  rw [qo] at hW
  dsimp only at hW
  obtain ⟨us, hus, rus⟩ := hO ρ H d v os r qo
  refine ⟨us, hus, ?_⟩
  refine ⟨_, ρ, G, ⟨srep_mask ab.st rus, ab.hp⟩, ?_⟩
  cases q : tt (os.map some ++ mask ks τ) G with
  | stuck => rw [q] at hW; exact hW
  | exn c G1 => rw [q] at hW; exact fun H' ρ' f ab' => hW H' ρ' f ⟨ab.st.mono f, ab'.hp⟩
  | ok b G1 =>
    rw [q] at hW
    intro H1 ρ1 f1 ab1
    cases b with
    | false =>
      rw [if_neg Bool.false_ne_true]
      exact hW H1 ρ1 f1 ⟨ab.st.mono f1, ab1.hp⟩
    | true =>
      rw [if_pos rfl]
      dsimp only at hW
      refine ⟨_, ρ1, G1, ab1, ?_⟩
      cases q2 : te (os.map some ++ mask ks τ) G1 with
      | stuck => rw [q2] at hW; exact hW
      | exn c G2 => rw [q2] at hW; exact fun H' ρ' f ab' => hW H' ρ' (f1.trans f) ⟨ab.st.mono (f1.trans f), ab'.hp⟩
      | ok u G2 =>
        rw [q2] at hW
        dsimp only at hW
        intro w H2 ρ2 f2 ab2 r2
        cases q3 : G2[n]? with
        | none => rw [q3] at hW; exact hW.elim
        | some o =>
          cases o with
          | dead => first | (rw [q] at ok; exact ok.elim) | (rw [q] at ok2; exact ok2.elim) | (rw [q3] at hW; exact hW.elim) | (rw [q] at e; cases e; done) | (rw [g] at ok; exact ok.elim) | (rw [g] at q; cases q; done) | (rw [g] at h; cases h; done) | exact ok.elim
          | dct kv => first | (rw [q] at ok; exact ok.elim) | (rw [q] at ok2; exact ok2.elim) | (rw [q3] at hW; exact hW.elim) | (rw [q] at e; cases e; done) | (rw [g] at ok; exact ok.elim) | (rw [g] at q; cases q; done) | (rw [g] at h; cases h; done) | exact ok.elim
          | lst ys =>
            rw [q3] at hW
            dsimp only at hW
            by_cases hl : ys.length < sizeLine
            · rw [if_pos hl] at hW
              dsimp only at hW
              obtain ⟨p', vs, e1, e2, rs⟩ := ab2.hp.lst q3
              have f12 := f1.trans f2
              rw [f12.get hn] at e1; cases e1
              refine ⟨vs, e2, by rw [← rs.length]; exact hl, ?_⟩
              have f3 : Fut X.K H2 (upd H2 p (.lst (vs ++ [w]))) ρ2 ρ2 := fut_set e2 ρ2
              exact hW _ ρ2 (f12.trans f3) ⟨ab.st.mono (f12.trans f3), ab2.hp.put (ds := ys) (f12.get hn) e2 (rs.append (.cons r2 .nil))⟩
            · rw [if_neg hl] at hW; exact hW.elim
theorem comp_items (hO : OwnD X.K X.mg ow gO) {Q : VK} {J : It} {H0 : Hp} {σ : L2.St} {ρ0 : List Addr} {G0 : DH} {τ : DS} (ds : List D)
    (go : ∀ i H ρ, i < ds.length → Fut X.K H0 H ρ0 ρ → J.go i H) (stop : ∀ i H ρ, ds.length ≤ i → Fut X.K H0 H ρ0 ρ → J.stop i H)
    (yld : ∀ i d H ρ x H', ds[i]? = some d → Fut X.K H0 H ρ0 ρ → J.yld i H x H' → FutN X.K X.mg H H' ρ ∧ Rep X.K X.mg ρ H' d x)
    (ab : Ab X.K X.mg σ H0 τ ρ0 G0) (ok : OkE X.K X.mg EE H0 σ τ ρ0 (compP gO ks tt te G0.length ds τ (G0 ++ [.lst []])) Q) :
    ∀ D, H0 D = none → ∃ W : Nat → Nat → Hp → Prop, (∃ m, W 0 m (upd H0 D (.lst []))) ∧ ∀ i m H, W i m H →
      (J.stop i H ∧ Q (.ref D) H) ∨ (J.go i H ∧ ∀ x H', J.yld i H x H' → ∃ vs, ow x H' vs ∧ liftT X.K X.mg (EEc EE σ) tt (vs.map some ++ mask ks σ) H' fun b H2 => if b = true then liftE X.K X.mg (EEc EE σ) te (vs.map some ++ mask ks σ) H2 fun v H3 => ∃ ys, H3 D = some (.lst ys) ∧ ys.length < sizeLine ∧ ∃ m', m' < m ∧ W (i + 1) m' (upd H3 D (.lst (ys ++ [v]))) else ∃ m', m' < m ∧ W (i + 1) m' H2) := by
  intro D hD
  have f0 : Fut X.K H0 (upd H0 D (.lst [])) ρ0 (ρ0 ++ [D]) := (fut_new hD ρ0).trans (fut_more ρ0 D)
  have ab0 : Ab X.K X.mg σ (upd H0 D (.lst [])) τ (ρ0 ++ [D]) (G0 ++ [.lst []]) := ab.fut f0 (ab.hp.more hD .nil)
  have hn0 : (ρ0 ++ [D])[G0.length]? = some D := by rw [← ab.hp.hl, getElem?_concat_self]
  refine ⟨fun i m H => i ≤ ds.length ∧ m = ds.length - i ∧ ∃ ρ G, Ab X.K X.mg σ H τ ρ G ∧ Fut X.K H0 H ρ0 ρ ∧ ρ[G0.length]? = some D ∧ OkE X.K X.mg EE H σ τ ρ (compP gO ks tt te G0.length (ds.drop i) τ G) Q,
    ⟨ds.length, Nat.zero_le _, rfl, ρ0 ++ [D], _, ab0, f0, hn0, by simpa using ok.fut f0⟩, ?_⟩
  rintro i m H ⟨hi, rfl, ρ, G, ab, f, hn, ok⟩
  by_cases hlt : i < ds.length
  · refine .inr ⟨go i H ρ hlt f, fun x H' y => ?_⟩
    obtain ⟨⟨fN, hN⟩, rx⟩ := yld i ds[i] H ρ x H' (List.getElem?_eq_getElem hlt) f y
    replace ok := OkE.fut fN ok
    replace ab : Ab X.K X.mg σ H' τ ρ G := ab.fut fN (hN _ ab.hp)
    replace f := f.trans fN
    rw [List.drop_eq_getElem_cons hlt] at ok
    unfold compP at ok
    refine comp_turn hO (W := fun H3 => ∃ m', m' < ds.length - i ∧ i + 1 ≤ ds.length ∧ m' = ds.length - (i + 1) ∧ ∃ ρ G, Ab X.K X.mg σ H3 τ ρ G ∧ Fut X.K H0 H3 ρ0 ρ ∧ ρ[G0.length]? = some D ∧ OkE X.K X.mg EE H3 σ τ ρ (compP gO ks tt te G0.length (ds.drop (i + 1)) τ G) Q)
        ab rx hn ?_
    cases e : compOne gO ks tt te G0.length ds[i] τ G with
    | stuck => rw [e] at ok; exact ok
    | exn c G' => rw [e] at ok; exact ok
    | ok _ G' =>
      rw [e] at ok
      exact fun H3 ρ3 f3 ab3 => ⟨ds.length - (i + 1), by omega, hlt, rfl, ρ3, G', ab3, f.trans f3, f3.get hn, ok.fut f3⟩
  · have e : i = ds.length := by omega
    subst e
    refine .inl ⟨stop _ H ρ (Nat.le_refl _) f, ?_⟩
    rw [List.drop_eq_nil_of_le (Nat.le_refl _)] at ok
    exact ok _ H ρ .refl ab (by unfold Rep; exact ⟨D, rfl, hn⟩)
theorem comp_obj (hO : OwnD X.K X.mg ow gO) {Q : VK} {H0 : Hp} {σ : L2.St} {ρ0 : List Addr} {G0 : DH} {τ : DS} {k fuel : Nat} {p : Addr} (hk : ρ0[k]? = some p)
    (ab : Ab X.K X.mg σ H0 τ ρ0 G0) (ok : OkE X.K X.mg EE H0 σ τ ρ0 (compO gO ks tt te G0.length k fuel 0 τ (G0 ++ [.lst []])) Q) :
    ∀ D, H0 D = none → ∃ W : Nat → Nat → Hp → Prop, (∃ m, W 0 m (upd H0 D (.lst []))) ∧ ∀ i m H, W i m H →
      ((Itl X.K p).stop i H ∧ Q (.ref D) H) ∨ ((Itl X.K p).go i H ∧ ∀ x H', (Itl X.K p).yld i H x H' → ∃ vs, ow x H' vs ∧ liftT X.K X.mg (EEc EE σ) tt (vs.map some ++ mask ks σ) H' fun b H2 => if b = true then liftE X.K X.mg (EEc EE σ) te (vs.map some ++ mask ks σ) H2 fun v H3 => ∃ ys, H3 D = some (.lst ys) ∧ ys.length < sizeLine ∧ ∃ m', m' < m ∧ W (i + 1) m' (upd H3 D (.lst (ys ++ [v]))) else ∃ m', m' < m ∧ W (i + 1) m' H2) := by
  intro D hD
  have f0 : Fut X.K H0 (upd H0 D (.lst [])) ρ0 (ρ0 ++ [D]) := (fut_new hD ρ0).trans (fut_more ρ0 D)
  have ab0 : Ab X.K X.mg σ (upd H0 D (.lst [])) τ (ρ0 ++ [D]) (G0 ++ [.lst []]) := ab.fut f0 (ab.hp.more hD .nil)
  have hn0 : (ρ0 ++ [D])[G0.length]? = some D := by rw [← ab.hp.hl, getElem?_concat_self]
  refine ⟨fun i m H => ∃ ρ G, Ab X.K X.mg σ H τ ρ G ∧ Fut X.K H0 H ρ0 ρ ∧ ρ[G0.length]? = some D ∧ OkE X.K X.mg EE H σ τ ρ (compO gO ks tt te G0.length k m i τ G) Q,
    ⟨fuel, ρ0 ++ [D], _, ab0, f0, hn0, ok.fut f0⟩, ?_⟩
  rintro i m H ⟨ρ, G, ab, f, hn, ok⟩
  cases m with
  | zero => exact ok.elim
  | succ m =>
    unfold compO at ok
    cases q : G[k]? with
    | none => rw [q] at ok; exact ok.elim
    | some o =>
      cases o with
      | dead => first | (rw [q] at ok; exact ok.elim) | (rw [q] at ok2; exact ok2.elim) | (rw [q3] at hW; exact hW.elim) | (rw [q] at e; cases e; done) | (rw [g] at ok; exact ok.elim) | (rw [g] at q; cases q; done) | (rw [g] at h; cases h; done) | exact ok.elim
      | dct kv => first | (rw [q] at ok; exact ok.elim) | (rw [q] at ok2; exact ok2.elim) | (rw [q3] at hW; exact hW.elim) | (rw [q] at e; cases e; done) | (rw [g] at ok; exact ok.elim) | (rw [g] at q; cases q; done) | (rw [g] at h; cases h; done) | exact ok.elim
      | lst ds =>
        rw [q] at ok
        dsimp only at ok
        obtain ⟨p', xs, e1, e2, rs⟩ := ab.hp.lst q
        rw [f.get hk] at e1; cases e1
        cases qd : ds[i]? with
        | none =>
          rw [qd] at ok
          have hl : xs.length ≤ i := by rw [← rs.length]; exact List.getElem?_eq_none_iff.mp qd
          exact .inl ⟨⟨xs, .of e2, hl⟩, ok _ H ρ .refl ab (by unfold Rep; exact ⟨D, rfl, hn⟩)⟩
        | some d =>
          rw [qd] at ok
          dsimp only at ok
          obtain ⟨x0, ex, rx⟩ := rs.get qd
          refine .inr ⟨⟨xs, x0, .of e2, ex⟩, fun x H' y => ?_⟩
          obtain ⟨rfl, y⟩ := y
          have e3 := y xs (.of e2)
          rw [ex] at e3; cases e3
          refine comp_turn hO (W := fun H3 => ∃ m', m' < m + 1 ∧ ∃ ρ G, Ab X.K X.mg σ H3 τ ρ G ∧ Fut X.K H0 H3 ρ0 ρ ∧ ρ[G0.length]? = some D ∧ OkE X.K X.mg EE H3 σ τ ρ (compO gO ks tt te G0.length k m' (i + 1) τ G) Q)
              ab rx hn ?_
          cases e : compOne gO ks tt te G0.length d τ G with
          | stuck => rw [e] at ok; exact ok
          | exn c G' => rw [e] at ok; exact ok
          | ok _ G' =>
            rw [e] at ok
            exact fun H3 ρ3 f3 ab3 => ⟨m, Nat.lt_succ_self _, ρ3, G', ab3, f.trans f3, f3.get hn, ok.fut f3⟩
variable {scope : Scope} {elt iter a b : Expr} {ifs : List Expr} {px pos : Pos} {m : DS → M D}
theorem comp_lift (hO : OwnD X.K X.mg ow gO) {σ : L2.St} {H : Hp} {Q : VK} (h : liftE X.K X.mg EE (eComp gO ks m tt te) σ H Q) :
    tComp (fun σ H R => liftE X.K X.mg EE m σ H fun x H1 => (∃ p, x = .ref p ∧ (∃ xs, SqL X.K H1 p xs) ∧ R (Itl X.K p) H1) ∨ (∃ p, x = .ref p ∧ (∃ xs, SqT X.K H1 p xs) ∧ R (Itt X.K p) H1) ∨ ∃ z, x = .str z ∧ R (Its z) H1) ks ow (liftT X.K X.mg (EEc EE σ) tt) (liftE X.K X.mg (EEc EE σ) te) σ H Q := by
  obtain ⟨τ, ρ, G, ab, ok⟩ := bindEE (k := fun τ d G => match d with
    | .obj k => match G[k]? with
      | some (.lst xs) => compO gO ks tt te G.length k (xs.length + 1) 0 τ (G ++ [.lst []])
      | _ => .stuck
    | .tup xs => compP gO ks tt te G.length xs τ (G ++ [.lst []])
    | .con xs => compP gO ks tt te G.length xs τ (G ++ [.lst []])
    | .str z => compP gO ks tt te G.length (z.cps.toList.map fun c => .str ⟨#[c]⟩) τ (G ++ [.lst []])
    | _ => .stuck) h
  refine ⟨τ, ρ, G, ab, ?_⟩
  cases e : m τ G with
  | stuck => rw [e] at ok; exact ok
  | exn c G' => rw [e] at ok; exact ok
  | ok d G' =>
    rw [e] at ok
    intro v H1 ρ1 f1 ab1 r1
    obtain ⟨τ2, ρ2, G2, d2, ab2, r2, ok2⟩ := ok v H1 ρ1 f1 ab1 r1
    cases d2 <;> try exact ok2.elim
    case obj n =>
      dsimp only at ok2
      unfold Rep at r2
      obtain ⟨p, rfl, e1⟩ := r2
      cases q : G2[n]? with
      | none => rw [q] at ok2; exact ok2.elim
      | some o =>
        cases o with
        | dead => first | (rw [q] at ok; exact ok.elim) | (rw [q] at ok2; exact ok2.elim) | (rw [q3] at hW; exact hW.elim) | (rw [q] at e; cases e; done) | (rw [g] at ok; exact ok.elim) | (rw [g] at q; cases q; done) | (rw [g] at h; cases h; done) | exact ok.elim
        | dct kv => first | (rw [q] at ok; exact ok.elim) | (rw [q] at ok2; exact ok2.elim) | (rw [q3] at hW; exact hW.elim) | (rw [q] at e; cases e; done) | (rw [g] at ok; exact ok.elim) | (rw [g] at q; cases q; done) | (rw [g] at h; cases h; done) | exact ok.elim
        | lst xs =>
          rw [q] at ok2
          obtain ⟨p', vs, e2, h2, rs⟩ := ab2.hp.lst q
          rw [e1] at e2; cases e2
          exact .inl ⟨p, rfl, ⟨vs, .of h2⟩, comp_obj hO e1 ab2 ok2⟩
    case tup xs =>
      unfold Rep at r2
      obtain ⟨p, vs, rfl, sq, rs⟩ := r2
      refine .inr (.inl ⟨p, rfl, ⟨vs, sq⟩, comp_items hO xs (fun i H' ρ' hi f => ?_) (fun i H' ρ' hi f => ?_) (fun i d' H' ρ' x H'' hd f y => ?_) ab2 ok2⟩)
      · rw [rs.length] at hi
        exact ⟨vs, vs[i], f.tup _ _ sq, List.getElem?_eq_getElem hi⟩
      · exact ⟨vs, f.tup _ _ sq, by rw [← rs.length]; exact hi⟩
      · obtain ⟨rfl, y⟩ := y
        obtain ⟨w', ew, rw'⟩ := rs.get hd
        have := y vs (f.tup _ _ sq)
        rw [ew] at this; cases this
        exact ⟨.refl, rw'.mono f⟩
    case con xs =>
      unfold Rep at r2
      obtain ⟨p, vs, rfl, sq, rs⟩ := r2
      refine .inl ⟨p, rfl, ⟨vs, sq.seq⟩, comp_items hO xs (fun i H' ρ' hi f => ?_) (fun i H' ρ' hi f => ?_) (fun i d' H' ρ' x H'' hd f y => ?_) ab2 ok2⟩
      · rw [rs.length] at hi
        exact ⟨vs, vs[i], (f.con _ _ sq).seq, List.getElem?_eq_getElem hi⟩
      · exact ⟨vs, (f.con _ _ sq).seq, by rw [← rs.length]; exact hi⟩
      · obtain ⟨rfl, y⟩ := y
        obtain ⟨w', ew, rw'⟩ := rs.get hd
        have := y vs (f.con _ _ sq).seq
        rw [ew] at this; cases this
        exact ⟨.refl, rw'.mono f⟩
    case str z =>
      unfold Rep at r2; subst r2
      refine .inr (.inr ⟨z, rfl, comp_items hO (z.cps.toList.map fun c => .str ⟨#[c]⟩) (fun i H' ρ' hi f => ?_) (fun i H' ρ' hi f => ?_) (fun i d' H' ρ' x H'' hd f y => ?_) ab2 ok2⟩)
      · simpa [Its] using hi
      · simpa [Its] using hi
      · obtain ⟨rfl, c, hc, rfl⟩ := y
        rw [List.getElem?_map] at hd
        have : z.cps.toList[i]? = some c := by simpa using hc
        rw [this] at hd
        cases hd
        exact ⟨.refl, by unfold Rep; rfl⟩
noncomputable def CompB (X : Cx) (scope : Scope) (xs : List Str) (ifs : List Expr) (elt : Expr) (tt : DS → M Bool) (te : DS → M D) : Prop :=
  ∀ (cl : List (Str × Addr)) (C : Addr) (pins : List (Addr × Obj)) (s0 : Shared) (H0 : Hp) (fp : List Addr) (E : Value → Shared → Prop) (EE : EXK), XLnk (cxC X scope cl xs C pins s0 H0 fp E) EE → CT (cxC X scope cl xs C pins s0 H0 fp E) ifs (liftT X.K X.mg EE tt) ∧ QE (cxC X scope cl xs C pins s0 H0 fp E) EE elt te
noncomputable def tYes : DS → M Bool := fun _ => M.ret true
theorem compB_nil (h : ∀ (cl : List (Str × Addr)) (C : Addr) (pins : List (Addr × Obj)) (s0 : Shared) (H0 : Hp) (fp : List Addr) (E : Value → Shared → Prop) (EE : EXK), XLnk (cxC X scope cl xs C pins s0 H0 fp E) EE → QE (cxC X scope cl xs C pins s0 H0 fp E) EE elt te) : CompB X scope xs [] elt tYes te :=
  fun cl C pins s0 H0 fp E EE hx => ⟨fun pins' s σ H Q I ⟨τ, ρ, G, ab, ok⟩ => ct_nil pins' s σ H Q I (ok H ρ .refl ab), h cl C pins s0 H0 fp E EE hx⟩
noncomputable def HasFr (X : Cx) : Prop := ∃ env0 outer0 L, X.stack = env0 :: outer0 ∧ X.env.frame = env0.frame ∧ env0.frame = some L
theorem qe_comp (hx : XLnk X EE) (hst : HasFr X) (S : CompSc X.env.scope X.N scope xs ks) (how : Own X scope xs ks tg ow) (hO : OwnD X.K X.mg ow gO) (hc : X.calm = true) (ha : QE X EE iter m) (hb : CompB X scope xs ifs elt tt te) (hs : ∀ x, foldedSetIterable iter X.env x = pure x := by intro _; rfl) :
    QE X EE (.ListComp elt [⟨tg, iter, ifs, 0⟩] scope pos) (eComp gO ks m tt te) := PE.mono (pe_comp (tt := fun σ => liftT X.K X.mg (EEc EE σ) tt) (te := fun σ => liftE X.K X.mg (EEc EE σ) te) hx hst S how hc (PI.any ha) (fun σ cl C pins s0 H0 fp E => hb cl C pins s0 H0 fp E _) hs) fun _ _ _ h => comp_lift hO h
theorem rng_comp (hO : OwnD X.K X.mg ow gO) {Q : VK} {H0 : Hp} {σ : L2.St} {ρ0 : List Addr} {G0 : DH} {τ : DS} (lo : Int) (n : Nat) (ab : Ab X.K X.mg σ H0 τ ρ0 G0)
    (ok : OkE X.K X.mg EE H0 σ τ ρ0 (compP gO ks tt te G0.length ((List.range n).map fun (k : Nat) => .int (lo + (k : Int))) τ (G0 ++ [.lst []])) Q) :
    ∀ D, H0 D = none → ∃ W : Nat → Nat → Hp → Prop, (∃ m, W 0 m (upd H0 D (.lst []))) ∧ ∀ i m H, W i m H →
      ((Itr lo n).stop i H ∧ Q (.ref D) H) ∨ ((Itr lo n).go i H ∧ ∀ x H', (Itr lo n).yld i H x H' → ∃ vs, ow x H' vs ∧ liftT X.K X.mg (EEc EE σ) tt (vs.map some ++ mask ks σ) H' fun b H2 => if b = true then liftE X.K X.mg (EEc EE σ) te (vs.map some ++ mask ks σ) H2 fun v H3 => ∃ ys, H3 D = some (.lst ys) ∧ ys.length < sizeLine ∧ ∃ m', m' < m ∧ W (i + 1) m' (upd H3 D (.lst (ys ++ [v]))) else ∃ m', m' < m ∧ W (i + 1) m' H2) :=
  comp_items hO (J := Itr lo n) _ (fun i H ρ hi f => by simpa [Itr] using hi) (fun i H ρ hi f => by simpa [Itr] using hi) (fun i d H ρ x H' hd f y => by
    obtain ⟨rfl, rfl⟩ := y
    rw [List.getElem?_map] at hd
    cases q : (List.range n)[i]? with
    | none => rw [q] at hd; cases hd
    | some k =>
      rw [q] at hd
      obtain ⟨hk, e⟩ := List.getElem?_eq_some_iff.mp q
      rw [List.getElem_range] at e
      subst e
      cases hd
      exact ⟨.refl, by unfold Rep; rfl⟩) ab ok
variable {ma : DS → M (List D)}
theorem compR1_lift (hO : OwnD X.K X.mg ow gO) {σ : L2.St} {H : Hp} {Q : VK} (h : liftE X.K X.mg EE (eCompR rng1 gO ks ma tt te) σ H Q) : tComp (iRng1 (liftA X.K X.mg EE ma)) ks ow (liftT X.K X.mg (EEc EE σ) tt) (liftE X.K X.mg (EEc EE σ) te) σ H Q := by
  obtain ⟨τ, ρ, G, ab, ok⟩ := bindAE (k := fun τ ds G => match rng1 ds with | some xs => compP gO ks tt te G.length xs τ (G ++ [.lst []]) | none => .stuck) h
  refine ⟨τ, ρ, G, ab, ?_⟩
  cases e : ma τ G with
  | stuck => rw [e] at ok; exact ok
  | exn c G' => rw [e] at ok; exact ok
  | ok ds G' =>
    rw [e] at ok
    intro vs H1 ρ1 f1 ab1 r1
    obtain ⟨τ2, ρ2, G2, d2, ab2, r2, ok2⟩ := ok vs H1 ρ1 f1 ab1 r1
    cases q : rng1 d2 with
    | none => rw [q] at ok2; exact ok2.elim
    | some xs =>
      rw [q] at ok2
      unfold rng1 at q
      split at q
      · rename_i j
        split at q
        · rename_i hj
          cases q
          obtain ⟨v, rfl, h1⟩ := reps1 r2
          unfold Rep at h1; subst h1
          exact ⟨j, rfl, hj.1, hj.2, rng_comp hO 0 j.toNat ab2 ok2⟩
        · cases q
      · cases q
theorem asg_lift {me : DS → M D} {t : TE} {i : Nat} (hl : ∀ σ H Q, liftE X.K X.mg EE me σ H Q → t σ H Q) {Dd : Ends} {σ : L2.St} {H : Hp} (h : liftS X.K X.mg EE (sSet i me) Dd σ H) : tAsg t (gName i) Dd σ H := by
  obtain ⟨τ, ρ, G, ab, ok⟩ := h
  refine hl σ H (fun v H1 => gName i v σ H1 Dd.nx) ⟨τ, ρ, G, ab, ?_⟩
  dsimp only [sSet, sBind] at ok
  cases e : me τ G with
  | stuck => rw [e] at ok; exact ok
  | exn c G' => rw [e] at ok; exact fun H' ρ' f ab' => ok σ H' ρ' f ab'
  | ok d G' => rw [e] at ok; exact fun v H' ρ' f ab' r => ok _ H' ρ' f (ab'.set r)
theorem qe_compR1 {p pc : Pos} (hx : XLnk X EE) (hst : HasFr X) (S : CompSc X.env.scope X.N scope xs ks) (how : Own X scope xs ks tg ow) (hO : OwnD X.K X.mg ow gO) (hc : X.calm = true) (hm : X.mg "range" = none) (ha : QA X EE [a] ma) (hb : CompB X scope xs ifs elt tt te) (hgl : Gl X "range" := by rfl) (hst' : starEach [a] X.env = [(false, eval a X.env)] := by rfl)
    (hs : ∀ x, foldedSetIterable (.Call (.Name "range" p) [a] [] pc) X.env x = pure x := by intro _; rfl) :
    QE X EE (.ListComp elt [⟨tg, .Call (.Name "range" p) [a] [] pc, ifs, 0⟩] scope pos) (eCompR rng1 gO ks ma tt te) := PE.mono (pe_comp (tt := fun σ => liftT X.K X.mg (EEc EE σ) tt) (te := fun σ => liftE X.K X.mg (EEc EE σ) te) hx hst S how hc (pi_range1 hgl hm ha hst') (fun σ cl C pins s0 H0 fp E => hb cl C pins s0 H0 fp E _) hs) fun _ _ _ h => compR1_lift hO h
end
end L3
end
section
set_option Elab.async false
set_option linter.all false
set_option maxRecDepth 100000
namespace L3
open PySem PySem.Spec L2
theorem room200 {k : Nat} {A : Around} (r : Room k A) : A.units + 600 < cLine := by have := r.un; omega
theorem qe_fn {X : Cx} {EE : EXK} {x : Str} {f : Addr} {pos : Pos} (hm : X.mg x = some (.ref f)) (hg : Gl X x := by rfl) (hd : (x == ("__debug__" : Str)) = false := by decide) : QE X EE (.Name x pos) (eC (.fn x)) :=
  qe_C (pe_glob hg hm (v := .ref f) rfl hd) fun _ _ => by unfold Rep; exact ⟨f, rfl, hm⟩
noncomputable def spLaw (K : PySem.W.Frag) : Sp := fun vs H Q _ => ∃ (a : Addr) (ns : List Int), vs = [.ref a] ∧ SqC K H a (ns.map V.int) ∧ ns.length ≤ 63 ∧ ∀ H', Q (.bl true) H'
theorem sqC_of {K : PySem.W.Frag} {H : Hp} {a : Addr} {xs : List V} (hO : Only H) (h : SqL K H a xs) : SqC K H a xs := by
  rcases h with (h | ⟨o, h⟩) | h
  · rcases hO a with z | ⟨o, ys, z⟩
    · rw [h] at z; cases z
    · rw [h] at z; cases z
  · exact .inl ⟨o, h⟩
  · exact .inr h
theorem spLaw_of {K : PySem.W.Frag} {mg : Str → Option Value} {m : List D → M D} (hm : ∀ ns : List Int, ns.length ≤ 63 → ∃ G, m [.con (ns.map .int)] [] = .ok (.bl true) G) (vs : List V) (H : Hp) (Q : VK) (E : XK) (h : spLaw K vs H Q E) : spOf K mg 1 m vs H Q E := by
  obtain ⟨a, ns, rfl, sq, hl, q⟩ := h
  obtain ⟨G, e⟩ := hm ns hl
  refine ⟨[.con (ns.map .int)], [], [], rfl, ⟨rfl, List.nodup_nil, fun n o e => by simp at e⟩, .cons (by unfold Rep; exact ⟨a, _, rfl, sq, .ints ns⟩) .nil, ?_⟩
  rw [e]
  intro v H' ρ' _ _ r
  unfold Rep at r
  subst r
  exact q H'
end L3
end
section
set_option Elab.async false
set_option linter.all false
set_option maxRecDepth 100000
namespace L3
open PySem PySem.Spec L2
noncomputable def nostar : Expr → Bool
  | .Starred .. => false
  | _ => true
noncomputable def plainT : Expr → Bool
  | .UnaryOp .Not _ _ => false
  | .BoolOp .. => false
  | .IfExp .. => false
  | .Compare .. => false
  | _ => true
noncomputable def nofold : Expr → Bool
  | .Set .. => false
  | _ => true
noncomputable def noswap : Expr → Bool
  | .ListComp .. => false
  | .SetComp .. => false
  | .DictComp .. => false
  | _ => true
noncomputable def nobase : Expr → Bool
  | .Call (.Name _ _) [] [] _ => false
  | _ => true
noncomputable def plainix : Expr → Bool
  | .Slice .. => false
  | _ => true
noncomputable def nostars : List Expr → Bool
  | [] => true
  | e :: es => nostar e && nostars es
theorem star_of {e : Expr} (h : nostar e = true) (es : List Expr) (env : Env) : starEach (e :: es) env = (false, eval e env) :: starEach es env := by
  cases e <;> first | rfl | cases h
theorem isTrue_of {e : Expr} (h : plainT e = true) (env : Env) (whole : Sem Value) : isTrue e env whole = (do let v ← whole; standAt e.pos; holding [v] (truthy v)) := by
  cases e <;> first | rfl | cases h | (rename_i op _ _; cases op <;> first | rfl | cases h)
theorem fold_of {e : Expr} (h : nofold e = true) (env : Env) (x : Value) : foldedSetIterable e env x = pure x := by
  cases e <;> first | rfl | cases h
theorem swap_of {e : Expr} (h : noswap e = true) (t : Option Expr) (l : Nat) (env : Env) : swapsWith e t l env = pure false := by
  cases e <;> first | rfl | cases h
theorem base_of {e : Expr} (h : nobase e = true) (n : Str) (env : Env) : attributeBase e n env (eval e env) = eval e env := by
  unfold attributeBase
  split
  · cases h
  · rfl
theorem ix_of {e : Expr} (h : plainix e = true) : PlainIx e := fun o i => by
  cases e <;> first | rfl | cases h
theorem mark_of {e : Expr} (h : nofold e = true) (op : CmpOp) : behindInMarks op e = false := by
  cases e <;> first | rfl | cases h
theorem stars_any {env : Env} {pos : Pos} : ∀ {es : List Expr}, nostars es = true → (backTo pos (starEach es env)).any (·.1) = false
  | [], _ => rfl
  | e :: es, h => by
    have h' : nostar e = true ∧ nostars es = true := by simpa [nostars] using h
    rw [star_of h'.1]
    have ih := stars_any (env := env) (pos := pos) h'.2
    show (false || (backTo pos (starEach es env)).any (·.1)) = false
    rw [ih]; rfl
theorem stars_all {env : Env} {pos : Pos} : ∀ {es : List Expr}, nostars es = true → (backTo pos (starEach es env)).all (fun x => !x.1) = true
  | [], _ => rfl
  | e :: es, h => by
    have h' : nostar e = true ∧ nostars es = true := by simpa [nostars] using h
    rw [star_of h'.1]
    have ih := stars_all (env := env) (pos := pos) h'.2
    show (!false && (backTo pos (starEach es env)).all (fun x => !x.1)) = true
    rw [ih]; rfl
theorem few_of {env : Env} {pos : Pos} {es : List Expr} (h : nostars es = true) (hl : es.length < 30) : ((backTo pos (starEach es env)).all (fun x => !x.1) && (backToKw pos (keywordEach [] env)).all (fun x => x.1.isSome)
      && decide (es.length + ([] : List Keyword).length + (if ([] : List Keyword).isEmpty then 0 else 1) < 30)) = true := by
  rw [stars_all h]
  simp only [Bool.true_and, Bool.and_eq_true, decide_eq_true_eq]
  exact ⟨rfl, by simpa using hl⟩
section
variable {X : Cx} {EE : EXK} {a b c e o : Expr} {es : List Expr} {ma mb mc me mo : DS → M D} {pos p apos cpos : Pos} {m : DS → M (List D)} {ms mt : MS} {x : Str} {ks : List Bool} {tt : DS → M Bool} {te : DS → M D}
theorem ra_cons {m : DS → M D} {r : DS → M (List D)} (ha : QE X EE e m) (hr : QA X EE es r) (h : nostar e = true := by rfl) : QA X EE (e :: es) (aCons m r) := qa_cons ha hr (star_of h _ _)
theorem re_var (i : Nat) (hv : Vis X.env.scope x) (hd : (x == ("__debug__" : Str)) = false ∧ (x == ("__classdict__" : Str)) = false) (hN : X.N[i]? = some x := by rfl) : QE X EE (.Name x pos) (eVar i) := qe_var i hN hv hd.1 hd.2
theorem re_fn {f : Addr} (hm : X.mg x = some (.ref f)) (hg : Gl X x) (hd : (x == ("__debug__" : Str)) = false ∧ (x == ("__classdict__" : Str)) = false) : QE X EE (.Name x pos) (eC (.fn x)) := qe_fn hm hg hd.1
theorem re_index (ha : QE X EE a ma) (hb : QE X EE b mb) (h : plainix b = true := by rfl) : QE X EE (.Subscript a b pos) (eOp dIx ma mb) := qe_index ha hb (ix_of h)
theorem rt_cmp {op : CmpOp} {f : D → D → M D} (ho : OpR X (compareOp op) (rD X EE f)) (ha : QE X EE a ma) (hb : QE X EE b mb) (h : nofold b = true := by rfl) : QT X EE (.Compare a [op] [b] pos) (tBl (eOp f ma mb)) := qt_cmp ho ha hb (mark_of h _)
theorem rt_tru (ha : QE X EE a ma) (h : plainT a = true := by rfl) : QT X EE a (tTruth dTru ma) := qt_tru ha (isTrue_of h _)
theorem re_callB {id : String} {f : List D → M D} (hc : CallR X (.builtin id) (rCD X EE f)) (hm : X.mg x = none) (hg : Gl X x) (hv : bootBuiltins x = some (.builtin id)) (ha : QA X EE (e :: es) m) (hn : x ≠ "__name__" := by decide) (hdb : (x == ("__debug__" : Str)) = false := by decide) (h : nostars (e :: es) = true := by rfl) :
    QE X EE (.Call (.Name x p) (e :: es) [] pos) (eArgs f m) := by
  have h' : nostar e = true ∧ nostars es = true := by simpa [nostars] using h
  exact qe_callB hc callD_self hm ha hg hv hn hdb (star_of h'.1 _ _) (stars_any h'.2)
theorem re_callTy {id : String} {f : List D → M D} (hc : CallR X (.type id) (rCD X EE f)) (hm : X.mg x = none) (hg : Gl X x) (hv : bootBuiltins x = some (.type id)) (ha : QA X EE (e :: es) m) (hn : x ≠ "__name__" := by decide) (hdb : (x == ("__debug__" : Str)) = false := by decide) (h : nostars (e :: es) = true := by rfl) :
    QE X EE (.Call (.Name x p) (e :: es) [] pos) (eArgs f m) := by
  have h' : nostar e = true ∧ nostars es = true := by simpa [nostars] using h
  exact qe_callTy hc callD_self hm ha hg hv hn hdb (star_of h'.1 _ _) (stars_any h'.2)
theorem re_len (hm : X.mg "len" = none) (hg : Gl X "len") (ha : QA X EE [e] m) (h : nostars [e] = true := by rfl) : QE X EE (.Call (.Name "len" p) [e] [] pos) (eArgs dLen m) := re_callB call_lenD hm hg PySem.boot_len ha (by decide) (by decide) h
theorem re_any (hc : X.calm = true) (hm : X.mg "any" = none) (hg : Gl X "any") (ha : QA X EE [e] m) (h : nostars [e] = true := by rfl) : QE X EE (.Call (.Name "any" p) [e] [] pos) (eArgs (dAll true) m) := re_callB (call_anyD hc) hm hg PyProof.Rows.boot_any ha (by decide) (by decide) h
theorem re_min2 (hc : X.calm = true) (hm : X.mg "min" = none) (hg : Gl X "min") (ha : QA X EE [e, a] m) (h : nostars [e, a] = true := by rfl) : QE X EE (.Call (.Name "min" p) [e, a] [] pos) (eArgs (dInt2L fun i j => if j < i then j else i) m) := re_callB (call_minD hc) hm hg PyProof.Rows.boot_min ha (by decide) (by decide) h
theorem re_isi (c : Ty) {pt : Pos} (hc : c ≠ .non) (hm : X.mg "isinstance" = none) (hmt : X.mg x = none) (hg : Gl X "isinstance") (hgt : Gl X x) (ha : QE X EE a ma) (hb : bootBuiltins x = some (.type c.nm)) (hnt : x ≠ "__name__") (hdt : (x == ("__debug__" : Str)) = false) (h : nostar a = true := by rfl) :
    QE X EE (.Call (.Name "isinstance" p) [a, .Name x pt] [] pos) (eIsi c ma) := qe_isi c hc hm hmt ha hb hg hgt hnt hdt (star_of h _ _) (star_of rfl _ _) (stars_any (es := [.Name x pt]) rfl)
theorem re_call {CX : CXT} {k n : Nat} {f : Addr} {fd : FuncData} {ps : List Str} {mf : List D → M D} (F : FnOk X.prog X.w X.K X.mg X.base CX k f fd ps (spOf X.K X.mg n mf)) (hr : Room k X.A) (hm : X.mg x = some (.ref f)) (hk : PySem.W.keepIn X.K (.ref f) = true) (hb : Binds X.K fd ps []) (hx : Lnk CX X EE) (hg : Gl X x)
    (hd : (x == ("__debug__" : Str)) = false ∧ (x == ("__classdict__" : Str)) = false) (ha : QA X EE (e :: es) m) (h : nostars (e :: es) = true := by rfl) : QE X EE (.Call (.Name x p) (e :: es) [] pos) (eCall n mf m) := by
  have h' : nostar e = true ∧ nostars es = true := by simpa [nostars] using h
  exact qe_call F hr hm hk hb hx ha hg hd.1 (star_of h'.1 _ _) (stars_any h'.2)
theorem re_append (ho : QE X EE o mo) (ha : QA X EE [e] m) (hb : nobase o = true := by rfl) (h : nostars [e] = true := by rfl) (hline : (apos.endLine == cpos.line) = true := by rfl) : QE X EE (.Call (.Attribute o "append" apos) [e] [] cpos) (eMethT "list" dAppend mo m) := by
  have h' : nostar e = true ∧ nostars [] = true := by simpa [nostars] using h
  exact qe_append ho ha (base_of hb _ _) (few_of h (by simp)) hline (star_of h'.1 _ _) (stars_any (es := []) rfl)
theorem re_pop (ho : QE X EE o mo) (hb : nobase o = true := by rfl) (hline : (apos.endLine == cpos.line) = true := by rfl) : QE X EE (.Call (.Attribute o "pop" apos) [] [] cpos) (eMethT "list" dPop mo aNil) := qe_pop ho (base_of hb _ _) hline
theorem rs_expr (he : QE X EE a ma) (h : noswap a = true := by rfl) : QS X EE (.Expr a pos) (sExpr ma) := qs_expr he (swap_of h _ _ _)
theorem rs_set {i : Nat} {pos' : Pos} (hN : X.N.Nodup) (hx : Loc X.env.scope x) (he : QE X EE a ma) (hf : X.fn x = true ∨ X.env.scope.names.lookup x = some .local) (hi : X.N[i]? = some x := by rfl) (h : noswap a = true := by rfl) : QS X EE (.Assign [.Name x pos'] a pos) (sSet i ma) := qs_set hN he hi hx (swap_of h _ _ _) hf
theorem rg_name {i : Nat} (hN : X.N.Nodup) (hx : Loc X.env.scope x) (hf : X.fn x = true ∨ X.env.scope.names.lookup x = some .local) (hi : X.N[i]? = some x := by rfl) : QG X (.Name x pos) (gN i) := qg_name hN hi hx hf
theorem rs_for {tg : Expr} {g : TgD} {body : List Stmt} (hp : PassesOwn (model X.prog X.w) X.A X.env X.xe) (hc : X.calm = true) (ha : QE X EE a ma) (hg : QG X tg g) (hb : QSs X EE body ms) (h : nofold a = true := by rfl) : QS X EE (.For tg a body [] pos) (sForIn g ma ms) := qs_for hp hc ha hg hb (fold_of h _)
theorem rs_forR1 {tg : Expr} {g : TgD} {body : List Stmt} {pc : Pos} (hp : PassesOwn (model X.prog X.w) X.A X.env X.xe) (hc : X.calm = true) (hm : X.mg "range" = none) (hgl : Gl X "range") (ha : QA X EE [a] m) (hg : QG X tg g) (hb : QSs X EE body ms) (h : nostar a = true := by rfl) :
    QS X EE (.For tg (.Call (.Name "range" p) [a] [] pc) body [] pos) (sForRng rng1 g m ms) := qs_forR1 hp hc hm ha hg hb hgl (star_of h _ _) (fold_of rfl _)
variable {scope : Scope} {elt iter tg : Expr} {xs : List Str} {ow : V → Hp → List V → Prop} {gO : D → Option (List D)} {ifs : List Expr} {px : Pos}
theorem re_comp (hx : XLnk X EE) (hst : HasFr X) (S : CompSc X.env.scope X.N scope xs ks) (how : Own X scope xs ks tg ow) (hO : OwnD X.K X.mg ow gO) (hc : X.calm = true) (ha : QE X EE iter ma) (hb : CompB X scope xs ifs elt tt te) (h : nofold iter = true := by rfl) : QE X EE (.ListComp elt [⟨tg, iter, ifs, 0⟩] scope pos) (eComp gO ks ma tt te) := qe_comp hx hst S how hO hc ha hb (fold_of h _)
theorem re_compR1 {pc : Pos} (hx : XLnk X EE) (hst : HasFr X) (S : CompSc X.env.scope X.N scope xs ks) (how : Own X scope xs ks tg ow) (hO : OwnD X.K X.mg ow gO) (hc : X.calm = true) (hm : X.mg "range" = none) (hgl : Gl X "range") (ha : QA X EE [a] m) (hb : CompB X scope xs ifs elt tt te) (h : nostar a = true := by rfl) :
    QE X EE (.ListComp elt [⟨tg, .Call (.Name "range" p) [a] [] pc, ifs, 0⟩] scope pos) (eCompR rng1 gO ks m tt te) := qe_compR1 hx hst S how hO hc hm ha hb hgl (star_of h _ _) (fold_of rfl _)
theorem swap_comp {gens : List Comprehension} {y : Str} {py : Pos} {l : Nat} {env : Env} (hb : (env.blockKind == .function) = true) (hl : env.scope.names.lookup y = some .local) (hp : (py.line == pos.line) = true) (hq : (scope.names.any fun x => x.1 == y && (x.2 == .local || x.2 == .cell)) = false) : swapsWith (.ListComp elt gens scope pos) (some (.Name y py)) l env = pure true := by
  unfold swapsWith
  dsimp only
  show (pure (env.blockKind == .function && env.kindOf y == some .local && py.line == pos.line && !(scope.names.any fun x => x.1 == y && (x.2 == .local || x.2 == .cell))) : Sem Bool) = pure true
  have e : (env.kindOf y == some NameKind.local) = true := by rw [show env.kindOf y = some NameKind.local from hl]; rfl
  rw [hb, e, hp, hq]; rfl
theorem cv_loc {cl : List (Str × Addr)} {C : Addr} {pins : List (Addr × Obj)} {s0 : Shared} {H0 : Hp} {fp : List Addr} {E : Value → Shared → Prop} (S : CompSc X.env.scope X.N scope xs ks) (h : x ∈ xs) : Vis (cxC X scope cl xs C pins s0 H0 fp E).env.scope x := .inl (comp_local (cl := cl) (C := C) S h)
theorem cv_free {cl : List (Str × Addr)} {C : Addr} {pins : List (Addr × Obj)} {s0 : Shared} {H0 : Hp} {fp : List Addr} {E : Value → Shared → Prop} {y : Str} (S : CompSc X.env.scope X.N scope xs ks) (h : scope.names.lookup y = some .free) : Vis (cxC X scope cl xs C pins s0 H0 fp E).env.scope y := .inr (comp_seen (cl := cl) (C := C) S h)
theorem cv_glob {cl : List (Str × Addr)} {C : Addr} {pins : List (Addr × Obj)} {s0 : Shared} {H0 : Hp} {fp : List Addr} {E : Value → Shared → Prop} {y : Str} (h : scope.names.lookup y = some .globalImplicit) : Gl (cxC X scope cl xs C pins s0 H0 fp E) y := by
  show (compEnvC scope cl C X.env).kindOf y = some .globalImplicit
  have e : (compEnvC scope cl C X.env).kindOf y = (scope.names.lookup y).map (relK X.env y) := lookup_relabel scope.names
  rw [e, h]; rfl
end
end L3
end
section
set_option Elab.async false
set_option linter.all false
set_option maxRecDepth 100000
namespace L3
open PySem PySem.Spec L2 Builtin Builtin.Str
section
variable {X : Cx} {EE : EXK}
variable {x : Str} {p pos apos cpos : Pos} {e o : Expr} {es : List Expr} {m : DS → M (List D)} {mo : DS → M D}
theorem boot_tuple : bootBuiltins "tuple" = some (.type "tuple") := by decide +kernel
theorem boot_list : bootBuiltins "list" = some (.type "list") := by decide +kernel
noncomputable def eCallV (i n : Nat) (tbl : Str → Option (List D → M D)) (m : DS → M (List D)) : DS → M D := fun τ G => match τ[i]? with
  | some (some (.fn y)) => match tbl y with
    | some mf => eCall n mf m τ G
    | none => .stuck
  | _ => .stuck
theorem re_callV {CX : CXT} {i n : Nat} {tbl : Str → Option (List D → M D)} (hN : X.N[i]? = some x) (hv : Vis X.env.scope x) (hd : (x == ("__debug__" : Str)) = false ∧ (x == ("__classdict__" : Str)) = false)
    (hF : ∀ y mf, tbl y = some mf → ∃ k f fd ps, FnOk X.prog X.w X.K X.mg X.base CX k f fd ps (spOf X.K X.mg n mf) ∧ Room k X.A ∧ X.mg y = some (.ref f) ∧ PySem.W.keepIn X.K (.ref f) = true ∧ Binds X.K fd ps []) (hx : Lnk CX X EE)
    (ha : QA X EE (e :: es) m) (h : nostars (e :: es) = true := by rfl) : QE X EE (.Call (.Name x p) (e :: es) [] pos) (eCallV i n tbl m) := by
  have h' : nostar e = true ∧ nostars es = true := by simpa [nostars] using h
  intro pins s σ H Q I hq
  obtain ⟨τ, ρ, G, ab, ok⟩ := hq
  unfold eCallV at ok
  cases q : τ[i]? with
  | none => rw [q] at ok; exact ok.elim
  | some od =>
    cases od with
    | none => rw [q] at ok; exact ok.elim
    | some d =>
      rw [q] at ok
      cases d <;> try exact ok.elim
      rename_i y
      dsimp only at ok
      cases qt : tbl y with
      | none => rw [qt] at ok; exact ok.elim
      | some mf =>
        rw [qt] at ok
        obtain ⟨k, f, fd, ps, F, hr, hm, hk, hb⟩ := hF y mf qt
        obtain ⟨v, ev, rv⟩ := ab.st.2 i (.fn y) q
        unfold Rep at rv
        obtain ⟨a, rfl, ha'⟩ := rv
        rw [hm] at ha'
        cases ha'
        obtain ⟨τ1, ρ1, G1, ab1, ok1⟩ := bindAE (k := fun _ ds => if ds.length = n then mf ds else M.stop) ⟨τ, ρ, G, ab, ok⟩
        refine wpAny_Call_Name_kw (wpAny_mono (pe_var hN hv hd.1 hd.2 pins s σ H (fun v' H' => v' = .ref f ∧ H' = H) I ⟨_, ev, rfl, rfl⟩) (fun u s0 hu => ?_) fun _ _ z => z)
        obtain ⟨v', H', I0, r0, rfl, rfl⟩ := hu
        cases r0
        refine PySem.W.callWith_K (h₀ := X.base) I0.ok.mod.kin hk (thn (ha pos pins s0 σ H' _ I0 ⟨τ1, ρ1, G1, ab1, ok1⟩) fun us s1 ⟨vs, H1, I1, r, q⟩ => ⟨I1.kIn, ?_⟩) (star_of h'.1 _ _) (stars_any h'.2)
        obtain ⟨τ2, ρ2, G2, ds, ab2, rs, ok2⟩ := q
        by_cases hn : ds.length = n
        · rw [if_pos hn] at ok2
          exact run_fnD F hr hb hx I1 r ab2 rs hn ok2
        · rw [if_neg hn] at ok2
          exact ok2.elim
end
end L3
end
section
set_option Elab.async false
set_option linter.all false
set_option maxRecDepth 100000
namespace L3
open PySem PySem.Spec L2 Builtin Builtin.Str
section
variable {X : Cx} {EE : EXK}
noncomputable def eUn (f : D → M D) (m : DS → M D) : DS → M D := fun τ => (m τ).bind f
variable {o : Expr} {mo : DS → M D} {y z : Str} {j1 j2 : Nat} {p1 p2 apos cpos : Pos}
end
section
end
section
variable {X : Cx} {EE : EXK}
variable {p pos apos cpos : Pos} {e o : Expr} {es : List Expr} {m : DS → M (List D)} {mo : DS → M D}
end
end L3
end
section
set_option Elab.async false
set_option linter.all false
set_option maxRecDepth 100000
namespace L3
open PySem PySem.Spec L2
noncomputable def AllF (CX : CXT) (X : Cx) (n : Nat) : List (Str × (List D → M D)) → Prop
  | [] => True
  | q :: r => (∃ k f fd ps, FnOk X.prog X.w X.K X.mg X.base CX k f fd ps (spOf X.K X.mg n q.2) ∧ Room k X.A ∧ X.mg q.1 = some (.ref f) ∧ PySem.W.keepIn X.K (.ref f) = true ∧ Binds X.K fd ps []) ∧ AllF CX X n r
theorem allF {CX : CXT} {X : Cx} {n : Nat} : ∀ {l : List (Str × (List D → M D))}, AllF CX X n l → ∀ (y : Str) (mf : List D → M D), l.lookup y = some mf → ∃ k f fd ps, FnOk X.prog X.w X.K X.mg X.base CX k f fd ps (spOf X.K X.mg n mf) ∧ Room k X.A ∧ X.mg y = some (.ref f) ∧ PySem.W.keepIn X.K (.ref f) = true ∧ Binds X.K fd ps []
  | [], _, _, _, h => nomatch h
  | q :: r, ⟨h1, hr⟩, y, mf, h => by
    obtain ⟨qn, qm⟩ := q
    rw [List.lookup_cons] at h
    cases e : y == qn with
    | true =>
      rw [e] at h
      cases h
      have := eq_of_beq e
      subst this
      exact h1
    | false => rw [e] at h; exact allF hr y mf h
end L3
namespace L3
open PySem PySem.Spec L2
theorem ra_c {X : Cx} {EE : EXK} {e : Expr} {es : List Expr} {m : DS → M D} {r : DS → M (List D)} (ha : QE X EE e m) (h : nostar e = true) (hr : QA X EE es r) : QA X EE (e :: es) (aCons m r) := ra_cons ha hr h
theorem ra_s {X : Cx} {EE : EXK} {x : Str} {j : Nat} {pos : Pos} {es : List Expr} {r : DS → M (List D)} (hr : QA X EE es r) : QA X EE (.Constant (.str x) j pos :: es) (aCons (eC (.str x)) r) := ra_cons qe_str hr rfl
theorem ra_i {X : Cx} {EE : EXK} {x : Int} {j : Nat} {pos : Pos} {es : List Expr} {r : DS → M (List D)} (hr : QA X EE es r) : QA X EE (.Constant (.int x) j pos :: es) (aCons (eC (.int x)) r) := ra_cons qe_int hr rfl
end L3
end
section
set_option Elab.async false
set_option linter.all false
set_option maxRecDepth 100000
namespace L3
open PySem PySem.Spec L2
theorem lri_no_len : typeLookup (.type "list_reverseiterator") (Str.ofString "__len__") = (pure none : Sem (Option Value)) := by
  rw [typeLookup_type, builtinLookup_eq_fast]; rfl
theorem lri_hint : typeLookup (.type "list_reverseiterator") (Str.ofString "__length_hint__") = (pure (some (.builtin "list_reverseiterator.__length_hint__")) : Sem (Option Value)) := by
  rw [typeLookup_type, builtinLookup_eq_fast]; rfl
theorem lri_self : isSubtype (.type "list_reverseiterator") (.type "list_reverseiterator") = (pure true : Sem Bool) := by
  rw [isSubtype_type]; rfl
theorem hint_rev {M : Model} {A : Around} {E : Value → Shared → Prop} {s : Shared} {it l : Addr} {i : Int} {Q : Bool → Shared → Prop} (hr : s.heap.IsRevIter it l i) (h : Q false s) : wpAny M A (Builtin.List.listLengthHint (.ref it)) Q E s := by
  have ty : s.TypeIs (.ref it) "list_reverseiterator" := by
    obtain ⟨o, e, c, _⟩ := hr
    exact ⟨o, e, c⟩
  unfold Builtin.List.listLengthHint
  refine wpAny_bind (wpAny_specialOf ty lri_no_len ?_)
  refine wpAny_bind (wpAny_specialOf ty lri_hint ?_)
  have e1 : splitId "list_reverseiterator.__length_hint__" = some ("list_reverseiterator", "__length_hint__") := by decide +kernel
  dsimp only
  rw [e1]
  dsimp only
  refine wpAny_bind (wpAny_isInstance ty lri_self ?_)
  rw [if_neg (by decide)]
  split
  · rw [if_neg (by decide)]
    exact wpAny_pure h
  · rename_i hs
    exact absurd (by decide +kernel) hs
theorem extend_rev {prog : Program} {w : World} {A : Around} {s : Shared} {R : Result → Shared → Prop} {it l : Addr} {items : Array Value} (hh : A.handled = none) (hit : s.heap.IsRevIter it l ((items.size : Int) - 1)) (hl : s.heap.IsList l items) (hne : l ≠ it) (hz : items.size ≤ sizeLine) (S : Addr) (res : Value) (c₀ : Nat)
    (hS : s.heap.get? S = some { cls := .type "list", data := .seq #[] c₀ }) (hSl : S ≠ l)
    (hR : ∀ (s' : Shared) (acc' : Array Value) (c' : Nat), Moved [S, it] (fun a b => b = a) s s' → s'.heap.get? S = some { cls := .type "list", data := .seq acc' c' } → ItemsOf (fun i v => items[items.size - 1 - i]? = some v) acc' items.size → R (.ok (.ret res)) s') :
    wpAny (model prog w) A.in1 (Builtin.List.listExtendWith (.ref S) (.ref it) res) (fun fin s' => match fin with
      | .done f => R (.ok f) s'
      | .again c' => c'.quiet = true ∧ codeAny (model prog w) A c' R s') (fun e s' => R (.error e) s') s := by
  have hSit : S ≠ it := by
    rintro rfl
    obtain ⟨o, e, c, d⟩ := hit
    rw [hS] at e; cases e
    exact absurd (Value.type.inj c) (by decide)
  have ty : s.TypeIs (.ref it) "list_reverseiterator" := by
    obtain ⟨o, e, c, _⟩ := hit
    exact ⟨o, e, c⟩
  have Wk := Walks.toS (Walks.listRev (prog := prog) (w := w) (A := A.in1) (show A.in1.handled = none from hh) it l hne items)
  have key := codeAny_extend_loopS Wk hz S (by simp [hSit, hSl]) res items.size 0 (R := R)
  unfold Builtin.List.listExtendWith
  refine wpAny_bind (wpAny_typeOf ty ?_)
  have h1 : Builtin.List.listSameRef (.ref S) (.ref it) = false := by simp [Builtin.List.listSameRef, hSit]
  rw [if_neg (by rw [h1]; decide)]
  refine wpAny_bind (wpAny_pyIter_revIter hit ?_)
  refine wpAny_bind (wpAny_holding (hint_rev hit ?_))
  dsimp only
  split
  · rename_i hs
    exact absurd hs (by decide +kernel)
  · exact wpAny_pure ⟨plainId_quiet F.plain_extend_loop _, key s #[] c₀ rfl (Nat.zero_le _) ⟨Nat.zero_le _, by simpa using hit, hl⟩ hS (ItemsOf.nil _) hR⟩
theorem call_list_rev {prog : Program} {w : World} {A : Around} {E : Value → Shared → Prop} {s : Shared} {it l : Addr} {items : Array Value} {Q : Value → Shared → Prop} (hh : A.handled = none) (hit : s.heap.IsRevIter it l ((items.size : Int) - 1)) (hl : s.heap.IsList l items) (hne : l ≠ it) (hz : items.size ≤ sizeLine)
    (hQ : ∀ (h' : Heap) (tk : Nat) (acc' : Array Value) (c' : Nat), (∀ b o, b ≠ it → s.heap.get? b = some o → h'.get? b = some o) → h'.get? s.heap.objs.size = some { cls := .type "list", data := .seq acc' c' } → ItemsOf (fun i v => items[items.size - 1 - i]? = some v) acc' items.size → Q (.ref s.heap.objs.size) { s with heap := h', toks := tk }) :
    wpAny (model prog w) A (call (.type "list") [.ref it]) Q E s := by
  have lt1 : l < s.heap.objs.size := by obtain ⟨o, e, _⟩ := hl; exact Heap.lt_size e
  have lt2 : it < s.heap.objs.size := by obtain ⟨o, e, _⟩ := hit; exact Heap.lt_size e
  refine callType_codes (Q₁ := fun v s1 => v = .ref s.heap.objs.size ∧ s1 = { s with heap := s.heap.push { cls := .type "list", data := .seq #[] } }) F.called_list (F.typeCall_list_1 (.ref it)) F.entry_list_init (code_list_new (.ref it) ⟨rfl, rfl⟩) fun obj s₁ h₁ => ?_
  obtain ⟨rfl, rfl⟩ := h₁
  have hS := Heap.get?_push_size (o := { cls := .type "list", data := .seq #[] }) s.heap rfl
  refine ⟨⟨_, hS, rfl⟩, F.args_list_init_2 (.ref s.heap.objs.size) (.ref it), ?_⟩
  have kp : ∀ b o, s.heap.get? b = some o → (s.heap.push { cls := .type "list", data := .seq #[] }).get? b = some o := fun b o e => Heap.get?_push_of_some _ e
  unfold Builtin.«list.__init__»
  refine wpAny_bind ?_
  unfold Builtin.List.listItems
  refine wpAny_bind (wpAny_seqItems hS rfl (wpAny_pure ?_))
  refine wpAny_bind ?_
  unfold Builtin.List.listUpdate
  refine wpAny_updateSeq hS rfl ?_ (by simp [sizeLine_eq]) (by simp [sizeLine_eq])
  have hS₂ := Heap.get?_update_self (Obj.mapSeq fun x => #[]) hS rfl
  have oth : ∀ b o, b ≠ s.heap.objs.size → (s.heap.push { cls := .type "list", data := .seq #[] }).get? b = some o → ((s.heap.push { cls := .type "list", data := .seq #[] }).update s.heap.objs.size (Obj.mapSeq fun x => #[])).get? b = some o := fun b o hb e => (Heap.get?_update_other _ _ (Ne.symm hb)).trans e
  refine wpAny_bind (wpAny_letGo ?_)
  have up : ∀ b o, s.heap.get? b = some o → ((s.heap.push { cls := .type "list", data := .seq #[] }).update s.heap.objs.size (Obj.mapSeq fun x => #[])).get? b = some o := fun b o e => oth b o (Nat.ne_of_lt (Heap.lt_size e)) (kp b o e)
  refine extend_rev (l := l) (items := items) (show A.in1.handled = none from hh) ?_ ?_ hne hz s.heap.objs.size .none (if ((#[] : Array Value).size == (#[] : Array Value).size) = true then 0 else 0 + 1) ?_ (Nat.ne_of_gt lt1) ?_
  · obtain ⟨o, e, r⟩ := hit
    exact ⟨o, up _ _ e, r⟩
  · obtain ⟨o, e, r⟩ := hl
    exact ⟨o, up _ _ e, r⟩
  · exact hS₂
  · intro s' acc' c' hm hS' hacc
    rw [Moved.eq_with hm]
    refine ⟨rfl, hQ s'.heap s'.toks acc' c' (fun b o hb e => ?_) hS' hacc⟩
    refine hm.heap b o ?_ (up b o e)
    simp [hb, Nat.ne_of_lt (Heap.lt_size e)]
end L3
end
section
set_option Elab.async false
set_option linter.all false
set_option maxRecDepth 100000
namespace L3
open PySem PySem.Spec L2
section
variable {X : Cx} {EE : EXK} {a b c e o : Expr} {es : List Expr} {ma mb mo : DS → M D} {m : DS → M (List D)} {t : DS → M Bool} {ms : MS} {pos p p2 pos2 apos cpos : Pos}
noncomputable def fuel : Nat := 100000
noncomputable def sWhile (t : DS → M Bool) (ms : MS) : Nat → MS
  | 0 => fun _ _ => .stuck
  | n + 1 => fun τ => sBind (t τ) (fun c G => if c = true then (match ms τ G with
      | .nx τ' G' => sWhile t ms n τ' G'
      | .ct τ' G' => sWhile t ms n τ' G'
      | .bk τ' G' => .nx τ' G'
      | r => r) else .nx τ G) fun c G => .xn c τ G
theorem OkT.imp {H : Hp} {σ : L2.St} {τ : DS} {ρ : List Addr} {r : Out Bool} {Q Q' : Bool → Hp → Prop} (h : OkT X.K X.mg EE H σ τ ρ r Q) (i : ∀ b H', Q b H' → Q' b H') : OkT X.K X.mg EE H σ τ ρ r Q' := by
  cases r with
  | stuck => exact h
  | ok b G => exact fun H' ρ' f ab => i b H' (h H' ρ' f ab)
  | exn c G => exact h
theorem qs_while {n : Nat} {body : List Stmt} (hp : PassesOwn (model X.prog X.w) X.A X.env X.xe) (hc : QT X EE c t) (hb : QSs X EE body ms) : QS X EE (.While c body [] pos) (sWhile t ms n) := PS.mono (ps_while hp hc hb) fun Dd σ H h => by
  obtain ⟨τ0, ρ0, G0, ab0, ok0⟩ := h
  refine ⟨fun m σ H => ∃ τ ρ G, Ab X.K X.mg σ H τ ρ G ∧ OkS X.K X.mg EE H ρ Dd (sWhile t ms m τ G), ⟨n, τ0, ρ0, G0, ab0, ok0⟩, ?_⟩
  rintro m σ H ⟨τ, ρ, G, ab, ok⟩
  cases m with
  | zero => exact ok.elim
  | succ m =>
    obtain ⟨τ1, ρ1, G1, ab1, ok1⟩ := bindTS (k := fun τ c G => if c = true then (match ms τ G with
      | .nx τ' G' => sWhile t ms m τ' G'
      | .ct τ' G' => sWhile t ms m τ' G'
      | .bk τ' G' => .nx τ' G'
      | r => r) else .nx τ G) (show liftS X.K X.mg EE (fun τ => sBind (t τ) (fun c G => if c = true then (match ms τ G with
      | .nx τ' G' => sWhile t ms m τ' G'
      | .ct τ' G' => sWhile t ms m τ' G'
      | .bk τ' G' => .nx τ' G'
      | r => r) else .nx τ G) fun c G => .xn c τ G) Dd σ H from ⟨τ, ρ, G, ab, ok⟩)
    refine ⟨τ1, ρ1, G1, ab1, ok1.imp fun b H1 hq => ?_⟩
    obtain ⟨τ2, ρ2, G2, ab2, ok2⟩ := hq
    cases b with
    | false =>
      rw [if_neg Bool.false_ne_true] at ok2 ⊢
      exact ok2 σ H1 ρ2 .refl ab2
    | true =>
      rw [if_pos rfl] at ok2 ⊢
      refine ⟨fun σ' H' => ∃ τ ρ G, Ab X.K X.mg σ' H' τ ρ G ∧ OkS X.K X.mg EE H' ρ Dd (sWhile t ms m τ G), fun σ' H' w => ⟨m, Nat.lt_succ_self _, w⟩, τ2, ρ2, G2, ab2, ?_⟩
      cases q : ms τ2 G2 with
      | stuck => rw [q] at ok2; exact ok2
      | nx τ' G' => rw [q] at ok2; exact fun σ' H' ρ' f ab' => ⟨τ', ρ', G', ab', ok2.fut f⟩
      | ct τ' G' => rw [q] at ok2; exact fun σ' H' ρ' f ab' => ⟨τ', ρ', G', ab', ok2.fut f⟩
      | bk τ' G' => rw [q] at ok2; exact ok2
      | rt d G' => rw [q] at ok2; exact ok2
      | xn c τ' G' => rw [q] at ok2; exact ok2
noncomputable def dRevL : List D → M D
  | [d] => fun G => match seqOf G d with
    | some (.lst xs) => dNew xs.reverse G
    | _ => .stuck
  | _ => M.stop
theorem boot_rev : bootBuiltins "reversed" = some (.type "reversed") := by decide +kernel
theorem Reps.rev {K : PySem.W.Frag} {mg : Str → Option Value} {ρ : List Addr} {H : Hp} : ∀ {ds : List D} {vs : List V}, Reps K mg ρ H ds vs → Reps K mg ρ H ds.reverse vs.reverse
  | [], vs, h => by unfold Reps at h; subst h; exact .nil
  | d :: ds, vs, h => by
    unfold Reps at h
    obtain ⟨v, r, rfl, h1, h2⟩ := h
    rw [List.reverse_cons, List.reverse_cons]
    exact (Reps.rev h2).append (.cons h1 .nil)
theorem Vals.app : ∀ {xs ys : List V} {us vs : List Value}, Vals xs us → Vals ys vs → Vals (xs ++ ys) (us ++ vs)
  | _, _, _, _, .nil, h => h
  | _, _, _, _, .cons r t, h => .cons r (Vals.app t h)
theorem Vals.rev : ∀ {xs : List V} {us : List Value}, Vals xs us → Vals xs.reverse us.reverse
  | _, _, .nil => .nil
  | _, _, .cons r t => by
    rw [List.reverse_cons, List.reverse_cons]
    exact Vals.app (Vals.rev t) (.cons r .nil)
theorem items_rev {its : List Value} {acc : Array Value} (h : ItemsOf (fun i v => its.toArray[its.toArray.size - 1 - i]? = some v) acc its.toArray.size) : acc = its.reverse.toArray := by
  obtain ⟨h1, h2⟩ := h
  have hs : its.toArray.size = its.length := by simp
  rw [hs] at h1
  apply Array.ext_getElem?
  intro i
  by_cases hi : i < acc.size
  · have e := h2 i acc[i] (Array.getElem?_eq_getElem hi)
    rw [Array.getElem?_eq_getElem hi, ← e]
    rw [List.getElem?_toArray, List.getElem?_toArray, List.getElem?_reverse (by omega), hs]
  · rw [Array.getElem?_eq_none (by omega), Array.getElem?_eq_none (by simp; omega)]
theorem re_listRev (hc : X.calm = true) (hm1 : X.mg "list" = none) (hg1 : Gl X "list") (hm2 : X.mg "reversed" = none) (hg2 : Gl X "reversed") (ha : QA X EE [e] m) (h : nostars [e] = true := by rfl) :
    QE X EE (.Call (.Name "list" p) [.Call (.Name "reversed" p2) [e] [] pos2] [] pos) (eArgs dRevL m) := by
  have h' : nostar e = true ∧ nostars [] = true := by simpa [nostars] using h
  intro pins s σ H Q I hq
  have hq' := bindAE (k := fun _ ds => dRevL ds) hq
  refine wpAny_Call_Name_kw (ld_blt I hg1 hm1 boot_list ?_ (by decide) (by decide))
  refine PyProof.Rows.callWith_type1 ?_ (star_of rfl _ _) (stars_any (es := []) rfl)
  rw [star_of (e := .Call (.Name "reversed" p2) [e] [] pos2) rfl]
  show wpAny _ _ (spliced ((false, eval _ X.env) :: backTo pos (starEach [] X.env))) _ _ s
  refine Calls.spliced_cons ?_
  refine wpAny_Call_Name_kw (ld_blt I hg2 hm2 boot_rev ?_ (by decide) (by decide))
  refine PyProof.Rows.callWith_type1 (thn (ha pos2 pins s σ H _ I hq') fun us s1 hus => ?_) (star_of h'.1 _ _) (stars_any (es := []) rfl)
  obtain ⟨vs, H1, I1, r1, τ, ρ, G, ds, ab, rs, ok⟩ := hus
  match ds, ok with
  | [], ok => exact ok.elim
  | _ :: _ :: _, ok => exact ok.elim
  | [d], ok =>
    obtain ⟨x, rfl, rx⟩ := reps1 rs
    obtain ⟨u, rfl, ru⟩ := vals1 r1
    dsimp only [dRevL] at ok
    cases q : seqOf G d with
    | none => rw [q] at ok; exact ok.elim
    | some sk =>
      rw [q] at ok
      cases sk with
      | tup zs => exact ok.elim
      | str z => exact ok.elim
      | lst zs =>
        dsimp only at ok
        obtain ⟨l, ys, rfl, sq, rv⟩ := seqOf_lst (pins := pins) (σ0 := σ) (s := s1) ab.hp rx q
        cases ru
        obtain ⟨its, vv, pl, hz⟩ := I1.list sq
        have hlen := vv.length
        have hl := pl.isList
        have hlt : l < s1.heap.objs.size := by obtain ⟨_, e, _⟩ := hl; exact Heap.lt_size e
        refine call_reversed_list hl ?_
        refine Calls.spliced_nil ?_
        refine call_list_rev (l := l) (items := its.toArray) (show X.A.handled = none from I.ok.hd hc) ⟨_, Heap.get?_push_size _ rfl, rfl, rfl⟩ (hl.push _) (Nat.ne_of_lt hlt) (by simp; omega) fun h' tk acc' c' kp hS hacc => ?_
        have ea := items_rev hacc
        subst ea
        obtain ⟨hlr, hn⟩ := new_ok ab rv.rev ok
        have hsz : (s1.heap.push (revObj l ((its.toArray.size : Int) - 1))).objs.size = s1.heap.objs.size + 1 := Heap.size_push ..
        refine ⟨.ref _, upd H1 _ (.lst ys.reverse), I1.laid (t' := tk) (fun b o e => kp b o (Nat.ne_of_lt (Heap.lt_size e)) (Heap.get?_push_of_some _ e)) ?_ ⟨hlr, its.reverse, c', Vals.rev vv, hS⟩, rfl, hn _ (I1.hok.fresh ?_)⟩
        · show s1.heap.objs.size ≤ (s1.heap.push _).objs.size
          rw [hsz]; omega
        · show s1.heap.objs.size ≤ (s1.heap.push _).objs.size
          rw [hsz]; omega
noncomputable def intsOf : List D → Option (List Int)
  | [] => some []
  | .int b :: r => (intsOf r).map (b :: ·)
  | _ :: _ => none
theorem intsOf_are {K : PySem.W.Frag} {mg : Str → Option Value} {ρ : List Addr} {H : Hp} : ∀ {ds : List D} {vs : List V} {us : List Value} {bs : List Int}, Reps K mg ρ H ds vs → Vals vs us → intsOf ds = some bs → us.length = bs.length ∧ ∀ (i : Nat) (v : Value), us[i]? = some v → ∃ t, v = Value.int (bs.getD i 0) t
  | [], vs, us, bs, r, v, e => by unfold Reps at r; subst r; cases v; cases e; exact ⟨rfl, fun i v h => by simp at h⟩
  | d :: ds, vs, us, bs, r, v, e => by
    unfold Reps at r
    obtain ⟨x, r', rfl, h1, h2⟩ := r
    cases v with
    | cons v1 v2 =>
      cases d <;> try (cases e; done)
      rename_i b
      dsimp only [intsOf] at e
      cases q : intsOf ds with
      | none => rw [q] at e; cases e
      | some bs' =>
        rw [q] at e; cases e
        unfold Rep at h1; subst h1
        obtain ⟨t, rfl⟩ := v1
        obtain ⟨hl, hi⟩ := intsOf_are h2 v2 q
        refine ⟨by simp [hl], fun i v h => ?_⟩
        cases i with
        | zero => simp at h; exact ⟨t, by simp [h]⟩
        | succ i => obtain ⟨t', e'⟩ := hi i v (by simpa using h); exact ⟨t', by simpa using e'⟩
theorem preSum_eq (bs : List Int) : ∀ n, n ≤ bs.length → preSum (fun i => bs.getD i 0) n = (bs.take n).sum
  | 0, _ => by simp [preSum]
  | n + 1, h => by
    show preSum (fun i => bs.getD i 0) n + bs.getD n 0 = _
    have : bs[n]? = some bs[n] := List.getElem?_eq_getElem (by omega)
    rw [preSum_eq bs n (by omega), ← List.take_append_getElem (show n < bs.length by omega), List.sum_append, List.getD, this]
    rw [List.sum_singleton]
    rfl
noncomputable def dSum : List D → M D
  | [d] => fun G => match seqOf G d with
    | some (.lst xs) => match intsOf xs with
      | some bs => .ok (.int bs.sum) G
      | none => .stuck
    | _ => .stuck
  | _ => M.stop
theorem call_sumD (hc : X.calm = true) : CallR X (.builtin "sum") (rCD X EE dSum) := by
  intro pins s σ0 H xs us Q I r ⟨σ, τ, ρ, G, ds, ab, rs, ok⟩
  match ds, ok with
  | [], ok => exact ok.elim
  | _ :: _ :: _, ok => exact ok.elim
  | [d], ok =>
    obtain ⟨x, rfl, rx⟩ := reps1 rs
    obtain ⟨u, rfl, ru⟩ := vals1 r
    dsimp only [dSum] at ok
    cases q : seqOf G d with
    | none => rw [q] at ok; exact ok.elim
    | some sk =>
      rw [q] at ok
      cases sk with
      | tup zs => exact ok.elim
      | str z => exact ok.elim
      | lst zs =>
        dsimp only at ok
        cases qb : intsOf zs with
        | none => rw [qb] at ok; exact ok.elim
        | some bs =>
          rw [qb] at ok
          obtain ⟨p, vs, rfl, sq, rv⟩ := seqOf_lst (pins := pins) (σ0 := σ0) (s := s) ab.hp rx q
          cases ru
          obtain ⟨its, vv, pl, hz⟩ := I.list sq
          obtain ⟨hlen, hints⟩ := intsOf_are rv vv qb
          have hl := pl.isList
          have hlt : p < s.heap.objs.size := by obtain ⟨_, e, _⟩ := hl; exact Heap.lt_size e
          refine call_sum_walkG (wpAny_pyIter_list hl ?_)
          refine ⟨s.heap.objs.size, [s.heap.objs.size, p], [s.heap.objs.size], its.toArray.size, _, _, fun i => bs.getD i 0, rfl, Walks.list (A := X.A.in1) (I.ok.hd hc) _ p (Nat.ne_of_lt hlt) _,
            ⟨⟨_, Heap.get?_push_size _ rfl, rfl, rfl⟩, hl.push _⟩, fun b hb => ?_, fun i v hP => hints i v (by simpa using hP), fun h' tk t' hk => ?_⟩
          · show b < (s.heap.push _).objs.size
            rw [Heap.size_push]
            rcases List.mem_cons.mp hb with rfl | hb
            · exact Nat.lt_succ_self _
            · rw [List.mem_singleton.mp hb]; exact Nat.lt_succ_of_lt hlt
          · rw [show its.toArray.size = bs.length by simpa using hlen, preSum_eq bs _ (Nat.le_refl _), List.take_length]
            exact ⟨.int _, H, I.kept (t' := tk) (kept_iterD hk), ⟨_, rfl⟩, ok _ H ρ .refl ab (by unfold Rep; rfl)⟩
noncomputable def dInt1 : List D → M D
  | [.int i] => M.ret (.int i)
  | [.bl k] => M.ret (.int (if k then 1 else 0))
  | _ => M.stop
theorem call_intD : CallR X (.type "int") (rCD X EE dInt1) := by
  intro pins s σ0 H xs us Q I r ⟨σ, τ, ρ, G, ds, ab, rds, ok⟩
  match ds, ok with
  | [], ok => exact ok.elim
  | d :: _ :: _, ok => cases d <;> exact ok.elim
  | [d], ok =>
    obtain ⟨x, rfl, rx⟩ := reps1 rds
    cases d <;> try exact ok.elim
    · rename_i k
      unfold Rep at rx; subst rx
      exact call_int1 pins s σ0 H _ us Q I r (.inr ⟨k, rfl, ok _ H ρ .refl ab (by unfold Rep; rfl)⟩)
    · rename_i i
      unfold Rep at rx; subst rx
      exact call_int1 pins s σ0 H _ us Q I r (.inl ⟨i, rfl, ok _ H ρ .refl ab (by unfold Rep; rfl)⟩)
theorem boot_int : bootBuiltins "int" = some (.type "int") := by decide +kernel
theorem re_int (hm : X.mg "int" = none) (hg : Gl X "int") (ha : QA X EE [e] m) (h : nostars [e] = true := by rfl) : QE X EE (.Call (.Name "int" p) [e] [] pos) (eArgs dInt1 m) := re_callTy call_intD hm hg boot_int ha (by decide) (by decide) h
theorem re_sum (hc : X.calm = true) (hm : X.mg "sum" = none) (hg : Gl X "sum") (ha : QA X EE [e] m) (h : nostars [e] = true := by rfl) : QE X EE (.Call (.Name "sum" p) [e] [] pos) (eArgs dSum m) := re_callB (call_sumD hc) hm hg PyProof.Rows.boot_sum ha (by decide) (by decide) h
end
end L3
end
section
set_option Elab.async false
set_option linter.all false
set_option maxRecDepth 100000
namespace L3
open PySem PySem.Spec L2
theorem turnedL {X : Cx} {pins : List (Addr × Obj)} {σ : L2.St} {H : Hp} {s : Shared} {h' : Heap} {t' : Nat} {ch : List Addr} (I : Inv X pins σ H s) (k : ∀ b o, b ∉ ch → s.heap.get? b = some o → h'.get? b = some o) (hf : ∀ b ∈ ch, FpOk X pins H b) : Inv X pins σ H { s with heap := h', toks := t' } := by
  have nit : ∀ b u, H b = some u → b ∉ ch := fun b u e z => by rw [(hf b z).1] at e; cases e
  refine I.step (g' := s.gens) (d' := s.drawn) (ch := ch) (fun b hb => ⟨(hf b hb).2.2.2.1, (hf b hb).2.1, (hf b hb).2.2.2.2.1, (hf b hb).2.2.2.2.2⟩) (fun b o _ _ hc e _ => k b o hc e) (fun b o _ _ hc e _ => ⟨o.slots, k b o hc e⟩) (fun _ _ _ _ n => n)
    (fun b o hc e => ⟨o, k b o hc e⟩) (fun _ _ e => e) (fun _ _ _ e => e) (fun b ps e => ⟨#[], by rw [e]; simp⟩) (fun m hm => ?_) (fun b u e => ?_) I.bare
  · obtain ⟨o, es, ep, ho, r⟩ := hm
    exact ⟨o, es, ep, k _ o (fun z => (hf _ z).2.1 rfl) ho, r⟩
  · refine (I.hok b u e).stay (fun c v hc q => k c v ?_ q) (fun _ q => q) fun _ _ q => q
    rcases hc with z | z
    · rw [z]; exact nit b u e
    · exact nit c _ z
noncomputable abbrev View := DH → Nat → Option (Option D)
noncomputable def JV (K : PySem.W.Frag) (mg : Str → Option Value) (J : It) (vw : View) (H0 : Hp) (ρ0 : List Addr) : Prop :=
  ∀ (i : Nat) (H : Hp) (ρ : List Addr) (G : DH), Fut K H0 H ρ0 ρ → HAb K mg H ρ G → (vw G i = some none → J.stop i H) ∧
    ∀ d, vw G i = some (some d) → J.go i H ∧ ∀ x H', J.yld i H x H' → FutN K mg H H' ρ ∧ Rep K mg ρ H' d x
noncomputable def forV (g : TgD) (body : MS) (vw : View) : Nat → Nat → MS
  | 0, _ => fun _ _ => .stuck
  | f + 1, i => fun τ G => match vw G i with
    | none => .stuck
    | some none => .nx τ G
    | some (some d) => match g d τ with
      | none => .stuck
      | some τ1 => match body τ1 G with
        | .nx τ2 G2 => forV g body vw f (i + 1) τ2 G2
        | .ct τ2 G2 => forV g body vw f (i + 1) τ2 G2
        | .bk τ2 G2 => .nx τ2 G2
        | r => r
noncomputable abbrev MI := DS → M (Nat × View)
noncomputable def liftI (K : PySem.W.Frag) (mg : Str → Option Value) (EE : EXK) (mi : MI) : TI := fun σ H R => ∃ τ ρ G, Ab K mg σ H τ ρ G ∧ match mi τ G with
  | .stuck => False
  | .exn c G' => ∀ H' ρ', Fut K H H' ρ ρ' → Ab K mg σ H' τ ρ' G' → EE c σ H'
  | .ok (_, vw) G' => ∀ J H' ρ', Fut K H H' ρ ρ' → Ab K mg σ H' τ ρ' G' → JV K mg J vw H' ρ' → R J H'
noncomputable def QI (X : Cx) (EE : EXK) (tg iter : Expr) (mi : MI) : Prop := PI X tg iter (liftI X.K X.mg EE mi)
section
variable {X : Cx} {EE : EXK} {tg iter a b : Expr} {g : TgD} {mi : MI} {ms : MS} {pos p pc : Pos} {m : DS → M (List D)}
theorem for_view {body : MS} {vw : View} {Dd : Ends} {J : It} {H0 : Hp} {σ0 : L2.St} {ρ0 : List Addr} {G0 : DH} {τ0 : DS} {fuel : Nat} (jv : JV X.K X.mg J vw H0 ρ0)
    (ab : Ab X.K X.mg σ0 H0 τ0 ρ0 G0) (ok : OkS X.K X.mg EE H0 ρ0 Dd (forV g body vw fuel 0 τ0 G0)) :
    ∃ W : Nat → Nat → L2.St → Hp → Prop, (∃ m, W 0 m σ0 H0) ∧ ∀ i m σ H, W i m σ H →
      (J.stop i H ∧ Dd.nx σ H) ∨ (J.go i H ∧ ∃ N : L2.St → Hp → Prop, (∀ σ' H', N σ' H' → ∃ m', m' < m ∧ W (i + 1) m' σ' H') ∧ ∀ x H', J.yld i H x H' → liftG X.K X.mg g x σ H' fun σ2 H2 => liftS X.K X.mg EE body { Dd with nx := N, ct := N, bk := Dd.nx } σ2 H2) := by
  refine ⟨fun i m σ H => ∃ τ ρ G, Ab X.K X.mg σ H τ ρ G ∧ Fut X.K H0 H ρ0 ρ ∧ OkS X.K X.mg EE H ρ Dd (forV g body vw m i τ G), ⟨fuel, τ0, ρ0, G0, ab, .refl, ok⟩, ?_⟩
  rintro i m σ H ⟨τ, ρ, G, ab, f, ok⟩
  cases m with
  | zero => exact ok.elim
  | succ m =>
    unfold forV at ok
    obtain ⟨j1, j2⟩ := jv i H ρ G f ab.hp
    cases q : vw G i with
    | none => rw [q] at ok; exact ok.elim
    | some od =>
      rw [q] at ok
      cases od with
      | none => exact .inl ⟨j1 q, ok σ H ρ .refl ab⟩
      | some d =>
        dsimp only at ok
        obtain ⟨jg, jy⟩ := j2 d q
        refine .inr ⟨jg, fun σ' H' => ∃ τ' ρ' G', Ab X.K X.mg σ' H' τ' ρ' G' ∧ Fut X.K H0 H' ρ0 ρ' ∧ OkS X.K X.mg EE H' ρ' Dd (forV g body vw m (i + 1) τ' G'), fun σ' H' z => ⟨m, Nat.lt_succ_self _, z⟩, fun x H' y => ?_⟩
        obtain ⟨⟨fN, hN⟩, rx⟩ := jy x H' y
        replace ok := OkS.fut fN ok
        replace ab : Ab X.K X.mg σ H' τ ρ G := ab.fut fN (hN _ ab.hp)
        replace f := f.trans fN
        cases e : g d τ with
        | none => rw [e] at ok; exact ok.elim
        | some τ1 =>
          rw [e] at ok
          dsimp only at ok
          refine ⟨τ, ρ, G, d, τ1, ab, rx, e, fun σ' ab' => ⟨τ1, ρ, G, ab', ?_⟩⟩
          cases eb : body τ1 G with
          | stuck => rw [eb] at ok; exact ok
          | nx τ2 G2 => rw [eb] at ok; exact fun σ2 H2 ρ2 f2 ab2 => ⟨τ2, ρ2, G2, ab2, f.trans f2, ok.fut f2⟩
          | ct τ2 G2 => rw [eb] at ok; exact fun σ2 H2 ρ2 f2 ab2 => ⟨τ2, ρ2, G2, ab2, f.trans f2, ok.fut f2⟩
          | bk τ2 G2 => rw [eb] at ok; exact ok
          | rt d G2 => rw [eb] at ok; exact ok
          | xn c τ2 G2 => rw [eb] at ok; exact ok
noncomputable def sForV (g : TgD) (mi : MI) (body : MS) : MS := fun τ => sBind (mi τ) (fun x G => forV g body x.2 x.1 0 τ G) fun c G => .xn c τ G
theorem rs_forV {body : List Stmt} (hp : PassesOwn (model X.prog X.w) X.A X.env X.xe) (hc : X.calm = true) (hi : QI X EE tg iter mi) (hg : QG X tg g) (hb : QSs X EE body ms) (hs : nofold iter = true := by rfl) :
    QS X EE (.For tg iter body [] pos) (sForV g mi ms) := PS.mono (ps_for hp hc hi hg hb (fold_of hs _)) fun Dd σ H h => by
  obtain ⟨τ, ρ, G, ab, ok⟩ := h
  refine ⟨τ, ρ, G, ab, ?_⟩
  dsimp only [sForV, sBind] at ok
  cases e : mi τ G with
  | stuck => rw [e] at ok; exact ok
  | exn c G' => rw [e] at ok; exact fun H' ρ' f ab' => ok σ H' ρ' f ab'
  | ok x G' => rw [e] at ok; exact fun J H' ρ' f ab' jv => for_view jv ab' (ok.fut f)
noncomputable def compV (gO : D → Option (List D)) (ks : List Bool) (tt : DS → M Bool) (te : DS → M D) (n : Nat) (vw : View) : Nat → Nat → DS → DH → Out D
  | 0, _, _, _ => .stuck
  | f + 1, i, τ, G => match vw G i with
    | none => .stuck
    | some none => .ok (.obj n) G
    | some (some d) => match compOne gO ks tt te n d τ G with
      | .ok _ G' => compV gO ks tt te n vw f (i + 1) τ G'
      | .exn c G' => .exn c G'
      | .stuck => .stuck
variable {gO : D → Option (List D)} {ow : V → Hp → List V → Prop} {xs : List Str} {ks : List Bool} {tt : DS → M Bool} {te : DS → M D}
theorem comp_view (hO : OwnD X.K X.mg ow gO) {Q : VK} {J : It} {vw : View} {H0 : Hp} {σ : L2.St} {ρ0 : List Addr} {G0 : DH} {τ : DS} {fuel : Nat} (jv : JV X.K X.mg J vw H0 ρ0)
    (ab : Ab X.K X.mg σ H0 τ ρ0 G0) (ok : OkE X.K X.mg EE H0 σ τ ρ0 (compV gO ks tt te G0.length vw fuel 0 τ (G0 ++ [.lst []])) Q) :
    ∀ D, H0 D = none → ∃ W : Nat → Nat → Hp → Prop, (∃ m, W 0 m (upd H0 D (.lst []))) ∧ ∀ i m H, W i m H →
      (J.stop i H ∧ Q (.ref D) H) ∨ (J.go i H ∧ ∀ x H', J.yld i H x H' → ∃ vs, ow x H' vs ∧ liftT X.K X.mg (EEc EE σ) tt (vs.map some ++ mask ks σ) H' fun b H2 => if b = true then liftE X.K X.mg (EEc EE σ) te (vs.map some ++ mask ks σ) H2 fun v H3 => ∃ ys, H3 D = some (.lst ys) ∧ ys.length < sizeLine ∧ ∃ m', m' < m ∧ W (i + 1) m' (upd H3 D (.lst (ys ++ [v]))) else ∃ m', m' < m ∧ W (i + 1) m' H2) := by
  intro D hD
  have f0 : Fut X.K H0 (upd H0 D (.lst [])) ρ0 (ρ0 ++ [D]) := (fut_new hD ρ0).trans (fut_more ρ0 D)
  have ab0 : Ab X.K X.mg σ (upd H0 D (.lst [])) τ (ρ0 ++ [D]) (G0 ++ [.lst []]) := ab.fut f0 (ab.hp.more hD .nil)
  have hn0 : (ρ0 ++ [D])[G0.length]? = some D := by rw [← ab.hp.hl, getElem?_concat_self]
  refine ⟨fun i m H => ∃ ρ G, Ab X.K X.mg σ H τ ρ G ∧ Fut X.K H0 H ρ0 ρ ∧ ρ[G0.length]? = some D ∧ OkE X.K X.mg EE H σ τ ρ (compV gO ks tt te G0.length vw m i τ G) Q,
    ⟨fuel, ρ0 ++ [D], _, ab0, f0, hn0, ok.fut f0⟩, ?_⟩
  rintro i m H ⟨ρ, G, ab, f, hn, ok⟩
  cases m with
  | zero => exact ok.elim
  | succ m =>
    unfold compV at ok
    obtain ⟨j1, j2⟩ := jv i H ρ G f ab.hp
    cases q : vw G i with
    | none => rw [q] at ok; exact ok.elim
    | some od =>
      rw [q] at ok
      cases od with
      | none => exact .inl ⟨j1 q, ok _ H ρ .refl ab (by unfold Rep; exact ⟨D, rfl, hn⟩)⟩
      | some d =>
        dsimp only at ok
        obtain ⟨jg, jy⟩ := j2 d q
        refine .inr ⟨jg, fun x H' y => ?_⟩
        obtain ⟨⟨fN, hN⟩, rx⟩ := jy x H' y
        replace ok := OkE.fut fN ok
        replace ab : Ab X.K X.mg σ H' τ ρ G := ab.fut fN (hN _ ab.hp)
        replace f := f.trans fN
        refine comp_turn hO (W := fun H3 => ∃ m', m' < m + 1 ∧ ∃ ρ G, Ab X.K X.mg σ H3 τ ρ G ∧ Fut X.K H0 H3 ρ0 ρ ∧ ρ[G0.length]? = some D ∧ OkE X.K X.mg EE H3 σ τ ρ (compV gO ks tt te G0.length vw m' (i + 1) τ G) Q)
            ab rx hn ?_
        cases e : compOne gO ks tt te G0.length d τ G with
        | stuck => rw [e] at ok; exact ok
        | exn c G' => rw [e] at ok; exact ok
        | ok _ G' =>
          rw [e] at ok
          exact fun H3 ρ3 f3 ab3 => ⟨m, Nat.lt_succ_self _, ρ3, G', ab3, f.trans f3, f3.get hn, ok.fut f3⟩
noncomputable def eCompV (gO : D → Option (List D)) (ks : List Bool) (mi : MI) (tt : DS → M Bool) (te : DS → M D) : DS → M D := fun τ => (mi τ).bind fun x G => compV gO ks tt te G.length x.2 x.1 0 τ (G ++ [.lst []])
theorem compV_lift (hO : OwnD X.K X.mg ow gO) {σ : L2.St} {H : Hp} {Q : VK} (h : liftE X.K X.mg EE (eCompV gO ks mi tt te) σ H Q) :
    tComp (liftI X.K X.mg EE mi) ks ow (liftT X.K X.mg (EEc EE σ) tt) (liftE X.K X.mg (EEc EE σ) te) σ H Q := by
  obtain ⟨τ, ρ, G, ab, ok⟩ := h
  refine ⟨τ, ρ, G, ab, ?_⟩
  dsimp only [eCompV, M.bind] at ok
  cases e : mi τ G with
  | stuck => rw [e] at ok; exact ok
  | exn c G' => rw [e] at ok; exact ok
  | ok x G' => rw [e] at ok; exact fun J H' ρ' f ab' jv => comp_view hO jv ab' (ok.fut f)
variable {scope : Scope} {elt : Expr} {ifs : List Expr}
theorem re_compV (hx : XLnk X EE) (hst : HasFr X) (S : CompSc X.env.scope X.N scope xs ks) (how : Own X scope xs ks tg ow) (hO : OwnD X.K X.mg ow gO) (hc : X.calm = true) (ha : QI X EE tg iter mi) (hb : CompB X scope xs ifs elt tt te) (hs : nofold iter = true := by rfl) :
    QE X EE (.ListComp elt [⟨tg, iter, ifs, 0⟩] scope pos) (eCompV gO ks mi tt te) := PE.mono (pe_comp (tt := fun σ => liftT X.K X.mg (EEc EE σ) tt) (te := fun σ => liftE X.K X.mg (EEc EE σ) te) hx hst S how hc ha (fun σ cl C pins s0 H0 fp E => hb cl C pins s0 H0 fp E _) (fold_of hs _)) fun _ _ _ h => compV_lift hO h
theorem rs_compV {y : Str} {i : Nat} {py spos : Pos} (hx : XLnk X EE) (hst : HasFr X) (S : CompSc X.env.scope X.N scope xs ks) (how : Own X scope xs ks tg ow) (hO : OwnD X.K X.mg ow gO) (hc : X.calm = true) (hN : X.N.Nodup) (hl : X.env.scope.names.lookup y = some .local) (ha : QI X EE tg iter mi) (hb : CompB X scope xs ifs elt tt te)
    (hsw : swapsWith (.ListComp elt [⟨tg, iter, ifs, 0⟩] scope pos) (some (.Name y py)) spos.line X.env = pure true) (hy : X.N[i]? = some y := by rfl) (hs : nofold iter = true := by rfl) :
    QS X EE (.Assign [.Name y py] (.ListComp elt [⟨tg, iter, ifs, 0⟩] scope pos) spos) (sSet i (eCompV gO ks mi tt te)) :=
  PS.mono (ps_comp (tt := fun σ => liftT X.K X.mg (EEc EE σ) tt) (te := fun σ => liftE X.K X.mg (EEc EE σ) te) hx hst S how hc hN ha hy hl hsw (fun σ cl C pins s0 H0 fp E => hb cl C pins s0 H0 fp E _) (fold_of hs _)) fun _ _ _ h => asg_lift (fun _ _ _ h => compV_lift hO h) h
noncomputable def gP (i j : Nat) : TgD := fun d τ => match d with
  | .tup [x, y] => some ((τ.set i (some x)).set j (some y))
  | _ => none
theorem rg_pair {x y : Str} {i j : Nat} {px py : Pos} {k : Nat} (hc : X.calm = true) (hN : X.N.Nodup) (hx : Loc X.env.scope x) (hy : Loc X.env.scope y) (hfx : X.fn x = true ∨ X.env.scope.names.lookup x = some .local) (hfy : X.fn y = true ∨ X.env.scope.names.lookup y = some .local) (hi : X.N[i]? = some x := by rfl) (hj : X.N[j]? = some y := by rfl) :
    QG X (.Tuple [.Name x px, .Name y py] k pos) (gP i j) := by
  intro pins s σ H v u Q I r ⟨τ, ρ, G, d, τ', ab, rd, e, q⟩
  refine pg_tup (n := 2) hc (pgs_cons (pg_name hN hi hx hfx) (pgs_cons (pg_name hN hj hy hfy) pgs_nil)) rfl rfl pins s σ H v u Q I r ?_
  cases d <;> try (cases e; done)
  rename_i ds
  match ds, e with
  | [d1, d2], e =>
    cases e
    unfold Rep at rd
    obtain ⟨a, vs, rfl, sq, rs⟩ := rd
    obtain ⟨v1, v2, rfl, r1, r2⟩ := reps2 rs
    exact ⟨a, [v1, v2], rfl, sq, rfl, v1, [v2], rfl, v2, [], rfl, rfl, q _ (Ab.set (Ab.set ab r1) r2)⟩
noncomputable def Ite (K : PySem.W.Frag) (a : Addr) : It :=
  ⟨fun i H => ∃ xs x, SqL K H a xs ∧ xs[i]? = some x, fun i H y H' => ∃ x p, (∀ xs, SqL K H a xs → xs[i]? = some x) ∧ H p = none ∧ y = .ref p ∧ H' = upd H p (.tup [.int i, x]), fun i H => ∃ xs, SqL K H a xs ∧ xs.length ≤ i⟩
theorem turn_enum {P : Program} {w : World} {K : PySem.W.Frag} {es : List Expr} {k : Nat} {pt : Pos} (l e it : Addr) (hne : e ≠ it) : Turn P w K (.Tuple es k pt) (Ite K l) [e, it] e (fun i h => ∃ old, IsEnum h e it i old ∧ h.IsListIter it l i) where
  mem := by simp
  obj := fun i h ⟨old, st1, st2⟩ b hb => by
    rcases List.mem_cons.mp hb with rfl | hb
    · exact ⟨_, st1, fun v z => by cases z⟩
    · have e : b = it := by simpa using hb
      subst e
      obtain ⟨o, e, c, d⟩ := st2
      exact ⟨o, e, fun v z => by rw [d] at z; cases z⟩
  keep := fun i h h' ⟨old, st1, st2⟩ kp => ⟨old, kp e (by simp) _ st1, st2.at fun o q => kp it (by simp) o q⟩
  item := by
    intro X hP hw hK hc i pins s σ H E I hf ⟨old, st1, st2⟩ hg
    subst hP hw hK
    obtain ⟨xs, x, hq, hx⟩ := hg
    obtain ⟨its, rv, p, hz⟩ := I.list hq
    obtain ⟨u, hu, ru⟩ := rv.get hx
    have lte : e < s.heap.objs.size := Heap.lt_size st1
    have ltit : it < s.heap.objs.size := by obtain ⟨o, q, _⟩ := st2; exact Heap.lt_size q
    refine wpAny_pyNext_enum_item st1 st2 p.isList (x := u) (by simpa using hu) hne fun h' hO hL htup hsz kp => ?_
    refine ⟨.ref s.heap.objs.size, rfl, ?_⟩
    have I1 : Inv X pins σ (upd H s.heap.objs.size (.tup [.int i, x])) { s with heap := s.heap.push { cls := .type "tuple", data := .seq #[.int i s.toks, u] } } :=
      I.laid (t' := s.toks) (fun b o q => Heap.get?_push_of_some _ q) (Nat.le_refl _) ⟨by simp [sizeLine_eq], [.int i s.toks, u], .cons ⟨_, rfl⟩ (.cons ru .nil), PyProof.Rows.IsTup.new _ _⟩
    have hfree := I.hok.fresh (Nat.le_refl s.heap.objs.size)
    have hf1 : ∀ b ∈ [e, it], FpOk X pins (upd H s.heap.objs.size (.tup [.int i, x])) b := fun b hb => by
      have hlt : b ≠ s.heap.objs.size := by
        rcases List.mem_cons.mp hb with rfl | hb
        · exact Nat.ne_of_lt lte
        · rw [List.mem_singleton.mp hb]; exact Nat.ne_of_lt ltit
      exact ⟨by rw [upd_ne hlt]; exact (hf b hb).1, (hf b hb).2⟩
    unfold letOwnedTupleGo
    refine wpAny_bind (wpAny_load hO ?_)
    dsimp only
    rw [if_pos (by simp)]
    refine wpAny_bind (wpAny_rule ?_)
    unfold updateField
    refine wpAny_bind (wpAny_load hO ?_)
    dsimp only
    rw [if_pos (by simp)]
    refine wpAny_update hO ?_
    have oth : ∀ b, b ≠ e → (h'.update e (Obj.mapFields fun x => x.setIfInBounds 0 Value.none)).get? b = h'.get? b := fun b hb => Heap.get?_update_other _ _ (Ne.symm hb)
    refine ⟨.ref s.heap.objs.size, _, turnedL (t' := s.toks + 1) (s := { s with heap := s.heap.push { cls := .type "tuple", data := .seq #[.int i s.toks, u] } }) (ch := [e, it]) I1 (fun b o hb q => ?_) hf1, rfl, ⟨x, s.heap.objs.size, fun ys hy => by rw [I.list_inj hy hq]; exact hx, hfree, rfl, rfl⟩, ⟨u, ?_, ?_⟩, fun b hb => (hf1 b hb).1⟩
    · have hb1 : b ≠ e := fun z => hb (by simp [z])
      have hb2 : b ≠ it := fun z => hb (by simp [z])
      show (h'.update e _).get? b = some o
      rw [oth b hb1]
      by_cases hbs : b = s.heap.objs.size
      · subst hbs
        have := Heap.get?_push_size (o := { cls := .type "tuple", data := .seq #[.int (i : Int) s.toks, u] }) s.heap rfl
        rw [this] at q; cases q
        exact htup
      · have q' : (s.heap.push { cls := .type "tuple", data := .seq #[.int (i : Int) s.toks, u] }).get? b = some o := q
        refine kp b o hb1 hb2 ?_
        rwa [Heap.get?_push_ne _ _ _ hbs] at q'
    · show (h'.update e _).get? e = _
      rw [Heap.get?_update_self _ hO rfl]
      rfl
    · exact hL.at fun o q => (oth it (Ne.symm hne)).trans q
  done := by
    intro X hP hw hK hc i pins s σ H E I hf ⟨old, st1, st2⟩ hg
    subst hP hw hK
    obtain ⟨xs, hq, hx⟩ := hg
    obtain ⟨its, rv, p, hz⟩ := I.list hq
    obtain ⟨f0, f1, f2, f3, f4, f5⟩ := hf it (by simp)
    have hl := rv.length
    exact wpAny_pyNext_enum_end (I.ok.hd hc) st1 st2 p.isList (by simp; omega) fun h' eb => ⟨rfl, I.turned (t' := s.toks) (fun b o hb e => eb b o hb e) f0 f1 f3 f4 f5⟩
  self := fun _ _ _ _ _ ⟨old, st1, _⟩ h => wpAny_pyIter_enum st1 h
noncomputable def vEnum (d : D) : View := fun G i => match seqOf G d with
  | some (.lst xs) => some (xs[i]?.map fun x => .tup [.int i, x])
  | _ => none
noncomputable def iEnum (m : DS → M (List D)) : MI := fun τ => (m τ).bind fun ds => match ds with
  | [d] => fun G => match seqOf G d with
    | some (.lst xs) => .ok (xs.length + 1, vEnum d) G
    | _ => .stuck
  | _ => M.stop
theorem boot_enum : bootBuiltins "enumerate" = some (.type "enumerate") := by decide +kernel
theorem jv_enum {K : PySem.W.Frag} {mg : Str → Option Value} {H0 : Hp} {ρ0 : List Addr} {G0 : DH} {d : D} {l : Addr} (r : Rep K mg ρ0 H0 d (.ref l)) (hd : ∃ xs, seqOf G0 d = some (.lst xs)) : JV K mg (Ite K l) (vEnum d) H0 ρ0 := by
  intro i H ρ G f hp
  have key : ∀ zs, seqOf G d = some (.lst zs) → ∃ xs, SqL K H l xs ∧ Reps K mg ρ H zs xs := fun zs q => by
    have r' := Rep.mono f d _ r
    cases d with
    | con ws =>
      cases q
      unfold Rep at r'
      obtain ⟨a, xs, e, sq, rs⟩ := r'
      cases e
      exact ⟨xs, sq.seq, rs⟩
    | obj n =>
      unfold seqOf at q
      dsimp only at q
      unfold Rep at r'
      obtain ⟨a, e, e1⟩ := r'
      cases e
      cases g : G[n]? with
      | none => rw [g] at q; cases q
      | some o =>
        cases o with
        | dead => first | (rw [q] at ok; exact ok.elim) | (rw [q] at ok2; exact ok2.elim) | (rw [q] at e; cases e; done) | (rw [g] at ok; exact ok.elim) | (rw [g] at q; cases q; done) | (rw [g] at h; cases h; done) | (rw [g2] at ok; exact ok.elim) | (rw [g1, g2] at ok; exact ok.elim) | (rw [q1] at ok; exact ok.elim) | exact ok.elim
        | dct kv => first | (rw [q] at ok; exact ok.elim) | (rw [q] at ok2; exact ok2.elim) | (rw [q] at e; cases e; done) | (rw [g] at ok; exact ok.elim) | (rw [g] at q; cases q; done) | (rw [g] at h; cases h; done) | (rw [g2] at ok; exact ok.elim) | (rw [g1, g2] at ok; exact ok.elim) | (rw [q1] at ok; exact ok.elim) | exact ok.elim
        | lst ws =>
          rw [g] at q; cases q
          obtain ⟨a', xs, e2, h2, rs⟩ := hp.lst g
          rw [e1] at e2; cases e2
          exact ⟨xs, .of h2, rs⟩
    | tup ws => cases q
    | str z => cases q
    | _ => cases q
  unfold vEnum
  cases q : seqOf G d with
  | none => exact ⟨fun e => (by cases e), fun x e => (by cases e)⟩
  | some sk =>
    cases sk with
    | tup zs => exact ⟨fun e => (by cases e), fun x e => (by cases e)⟩
    | str z => exact ⟨fun e => (by cases e), fun x e => (by cases e)⟩
    | lst zs =>
      obtain ⟨xs, sq, rs⟩ := key zs q
      dsimp only
      constructor
      · intro e
        cases qi : zs[i]? with
        | some z => rw [qi] at e; cases e
        | none => exact ⟨xs, sq, by rw [← rs.length]; exact List.getElem?_eq_none_iff.mp qi⟩
      · intro dd e
        cases qi : zs[i]? with
        | none => rw [qi] at e; cases e
        | some z =>
          rw [qi] at e; cases e
          obtain ⟨v, ev, rv⟩ := rs.get qi
          refine ⟨⟨xs, v, sq, ev⟩, fun y H' hy => ?_⟩
          obtain ⟨v', p, ev', hp0, rfl, rfl⟩ := hy
          have ev' := ev' xs sq
          rw [ev] at ev'; cases ev'
          refine ⟨FutN.new hp0, ?_⟩
          unfold Rep
          refine ⟨p, [.int i, v], rfl, .inl (.inl upd_same), .cons (by unfold Rep; rfl) (.cons (Rep.mono (fut_new hp0 ρ) _ _ rv) .nil)⟩
theorem ri_enum {es : List Expr} {k : Nat} {pt : Pos} (hm : X.mg "enumerate" = none) (hgl : Gl X "enumerate") (ha : QA X EE [a] m) (h : nostars [a] = true := by rfl) : QI X EE (.Tuple es k pt) (.Call (.Name "enumerate" p) [a] [] pc) (iEnum m) := by
  have h' : nostar a = true ∧ nostars [] = true := by simpa [nostars] using h
  intro pins s σ H R I hq
  obtain ⟨τ, ρ, G, ab, ok⟩ := hq
  dsimp only [iEnum, M.bind] at ok
  refine wpAny_Call_Name_kw (ld_blt I hgl hm boot_enum ?_ (by decide) (by decide))
  have hA : liftA X.K X.mg EE m σ H fun vs H1 => ∃ ρ1 G1 ds, Ab X.K X.mg σ H1 τ ρ1 G1 ∧ Fut X.K H H1 ρ ρ1 ∧ Reps X.K X.mg ρ1 H1 ds vs ∧ m τ G = .ok ds G1 := by
    refine ⟨τ, ρ, G, ab, ?_⟩
    cases e : m τ G with
    | stuck => rw [e] at ok; exact ok
    | exn c G' => rw [e] at ok; exact ok
    | ok ds G' => exact fun vs H' ρ' f ab' r => ⟨ρ', G', ds, ab', f, r, rfl⟩
  refine PyProof.Rows.callWith_type1 (thn (ha pc pins s σ H _ I hA) fun us s1 hus => ?_) (star_of h'.1 _ _) (stars_any (es := []) rfl)
  obtain ⟨vs, H1, I1, r1, ρ1, G1, ds, ab1, f1, rs, em⟩ := hus
  rw [em] at ok
  dsimp only at ok
  match ds, rs, ok with
  | [], _, ok => exact ok.elim
  | _ :: _ :: _, _, ok => exact ok.elim
  | [d], rs, ok =>
    obtain ⟨x, rfl, rx⟩ := reps1 rs
    obtain ⟨u, rfl, ru⟩ := vals1 r1
    dsimp only at ok
    cases q : seqOf G1 d with
    | none => rw [q] at ok; exact ok.elim
    | some sk =>
      rw [q] at ok
      cases sk with
      | tup zs => exact ok.elim
      | str z => exact ok.elim
      | lst zs =>
        dsimp only at ok
        obtain ⟨l, ys, rfl, sq, rv⟩ := seqOf_lst (pins := pins) (σ0 := σ) (s := s1) ab1.hp rx q
        cases ru
        obtain ⟨its, vv, pl, hz⟩ := I1.list sq
        refine call_enumerate_list pl.isList fun h2 hE hL hsz kp => ?_
        refine wpAny_pyIter_enum hE ?_
        have I2 : Inv X pins σ H1 { s1 with heap := h2 } := I1.kept (t' := s1.toks) kp
        refine ⟨s1.heap.objs.size + 1, [s1.heap.objs.size + 1, s1.heap.objs.size], _, Ite X.K l, H1, rfl, I2, turn_enum l _ _ (Nat.succ_ne_self _), ⟨_, hE, hL⟩, fun b hb => ?_, ok _ H1 ρ1 f1 ab1 (jv_enum rx ⟨zs, q⟩)⟩
        rcases List.mem_cons.mp hb with rfl | hb
        · exact I1.fpOk (Nat.le_succ _) (I1.hok.fresh (Nat.le_succ _))
        · rw [List.mem_singleton.mp hb]
          exact I1.fpOk (Nat.le_refl _) (I1.hok.fresh (Nat.le_refl _))
end
end L3
end
section
set_option Elab.async false
set_option linter.all false
set_option maxRecDepth 100000
namespace L3
open PySem PySem.Spec L2
theorem lz {n : Nat} (h : n ≤ 2000000) : n ≤ sizeLine := by rw [sizeLine_eq]; omega
theorem ga0 (A : DH) (x : DO) (B : DH) : (A ++ x :: B)[A.length]? = some x := by simp
theorem ga1 (A : DH) (x y : DO) (B : DH) : (A ++ x :: y :: B)[A.length + 1]? = some y := by
  rw [List.getElem?_append_right (by omega)]; simp
theorem gs0 (A : DH) (x y : DO) (B : DH) : (A ++ x :: B).set A.length y = A ++ y :: B := by
  rw [List.set_append_right _ _ (Nat.le_refl _)]; simp
theorem gs1 (A : DH) (x y z : DO) (B : DH) : (A ++ x :: y :: B).set (A.length + 1) z = A ++ x :: z :: B := by
  rw [List.set_append_right _ _ (by omega)]; simp
theorem dEq_int (g : Bool) (i j : Int) (G : DH) : dEq g (.int i) (.int j) G = .ok (.bl (g ^^ (i == j))) G := by
  simp [dEq, dEqB, toP, PyData.canLay0, PyData.depth, PyData.eqv]
theorem optMap_strs (G : DH) : ∀ ws : List Str, optMap (toP G deep) (ws.map D.str) = some (ws.map PyData.str)
  | [] => rfl
  | w :: ws => by
    have ih := optMap_strs G ws
    simp only [List.map_cons, optMap, ih]
    rfl
theorem inB_strs (t : Str) (ws : List Str) (G : DH) (h : PyData.strOk t = true) (hw : PyData.canLayAll0 (ws.map PyData.str) = true) : inB (.str t) (ws.map D.str) G = some (ws.any (· == t)) := by
  have e1 : toP G deep (.str t) = some (.str t) := rfl
  unfold inB
  rw [e1, optMap_strs]
  dsimp only
  have c1 : (PyData.str t).canLay0 = true := by simpa [PyData.canLay0] using h
  have c3 : min (PyData.depthAll (ws.map PyData.str)) (PyData.str t).depth ≤ 580 := by
    have : (PyData.str t).depth ≤ 580 := by simp [PyData.depth]
    omega
  rw [if_pos (by rw [c1, hw]; simpa using c3)]
  simp only [List.any_map]
  congr 1
theorem good_add {a b : Str} (ha : PyData.strOk a = true) (hb : PyData.strOk b = true) : PyData.strOk (a ++ b) = true := by
  have e : (a ++ b).cps = a.cps ++ b.cps := rfl
  unfold PyData.strOk at *
  rw [e, Array.all_append, ha, hb]; rfl
theorem len_add (a b : Str) : (a ++ b).length = a.length + b.length := by
  show (a.cps ++ b.cps).size = a.cps.size + b.cps.size
  simp
theorem atI_some {α : Type} {xs : List α} {i : Int} (h0 : 0 ≤ i) (h1 : i < xs.length) : ∃ v, atI xs i = some v ∧ xs[i.toNat]? = some v := by
  have hi : i.toNat < xs.length := by omega
  refine ⟨xs[i.toNat], ?_, List.getElem?_eq_getElem hi⟩
  have := atI_nat (xs := xs) (j := i.toNat) (v := xs[i.toNat]) (List.getElem?_eq_getElem hi)
  rwa [show ((i.toNat : Nat) : Int) = i by omega] at this
theorem ix_lit (z : Str) (i : Int) (G : DH) (h0 : 0 ≤ i) (h1 : i < z.length) (hz : z.length ≤ 1000) (hok : PyData.strOk z = true) : ∃ s, dIx (.str z) (.int i) G = .ok (.str s) G ∧ PyData.strOk s = true ∧ s.length = 1 := by
  have hs : z.length ≤ sizeLine := lz (by omega)
  have hl : z.length = z.cps.toList.length := by simp [Str.length]
  have hi : i.toNat < z.cps.toList.length := by omega
  obtain ⟨c, e, ec⟩ := atI_some (xs := z.cps.toList) (i := i) h0 (by omega)
  refine ⟨⟨#[c]⟩, ?_, ?_, rfl⟩
  · simp only [dIx, seqOf, if_pos hs, e]
  · have h2 : z.cps.toList.all (· < 0x110000) = true := by simpa [PyData.strOk] using hok
    have := List.all_eq_true.mp h2 _ (List.mem_of_getElem? ec)
    simpa [PyData.strOk] using this
theorem rng1_of {j : Int} (h0 : 0 ≤ j) (h1 : j < 100000) : rng1 [.int j] = some ((List.range' 0 j.toNat).map fun (k : Nat) => .int (0 + (k : Int))) := by
  show (if -(2 ^ 62) ≤ j ∧ j < 2 ^ 62 then some ((List.range j.toNat).map fun (k : Nat) => D.int (0 + (k : Int))) else none) = _
  rw [if_pos ⟨by omega, by omega⟩, List.range_eq_range']
end L3
end
section
set_option Elab.async false
set_option linter.all false
set_option maxRecDepth 100000
namespace L3
open PySem PySem.Spec L2
noncomputable def Res.sq (r : Res) (k : MS) : Res := match r with
  | .nx τ G => k τ G
  | r => r
noncomputable def Out.cs (r : Out Bool) (a b : MS) (τ : DS) : Res := match r with
  | .stuck => .stuck
  | .ok c G => if c = true then a τ G else b τ G
  | .exn c G => .xn c τ G
noncomputable def Out.st (r : Out D) (i : Nat) (τ : DS) : Res := match r with
  | .stuck => .stuck
  | .ok d G => .nx (τ.set i (some d)) G
  | .exn c G => .xn c τ G
noncomputable def Out.xp (r : Out D) (τ : DS) : Res := match r with
  | .stuck => .stuck
  | .ok d G => .nx τ G
  | .exn c G => .xn c τ G
noncomputable def Out.rn (r : Out D) (τ : DS) : Res := match r with
  | .stuck => .stuck
  | .ok d G => .rt d G
  | .exn c G => .xn c τ G
noncomputable def Out.bd {α β : Type} (r : Out α) (k : α → M β) : Out β := match r with
  | .stuck => .stuck
  | .ok a G => k a G
  | .exn c G => .exn c G
noncomputable def Out.sb {α : Type} (r : Out α) (τ : DS) (k : α → DH → Res) : Res := match r with
  | .stuck => .stuck
  | .ok a G => k a G
  | .exn c G => .xn c τ G
noncomputable def Res.fn (r : Res) : Out D := match r with
  | .stuck => .stuck
  | .nx _ G' => .ok .non G'
  | .rt d G' => .ok d G'
  | .bk _ _ => .stuck
  | .ct _ _ => .stuck
  | .xn c _ G' => .exn c G'
noncomputable def Res.lp (r : Res) (k : MS) : Res := match r with
  | .nx τ G => k τ G
  | .ct τ G => k τ G
  | .bk τ G => .nx τ G
  | r => r
noncomputable def whB (m k : MS) : MS := fun τ G => (m τ G).lp k
section
variable {m k : MS} {t ta tb : DS → M Bool} {a b : MS} {τ : DS} {G : DH} {e ma mb mo : DS → M D} {i n : Nat} {d : D} {c : XD} {α β : Type} {ml : DS → M (List D)} {f : D → D → M D} {fl : List D → M D}
theorem sSeq_l : sSeq m k τ G = (m τ G).sq k := by
  unfold sSeq Res.sq
  cases m τ G <;> rfl
theorem sq_nx : (Res.nx τ G).sq k = k τ G := Eq.trans rfl rfl
theorem sq_rt : (Res.rt d G).sq k = .rt d G := Eq.trans rfl rfl
theorem sq_st : Res.stuck.sq k = .stuck := Eq.trans rfl rfl
theorem sq_bk : (Res.bk τ G).sq k = .bk τ G := Eq.trans rfl rfl
theorem sq_ct : (Res.ct τ G).sq k = .ct τ G := Eq.trans rfl rfl
theorem sq_xn : (Res.xn c τ G).sq k = .xn c τ G := Eq.trans rfl rfl
theorem sIf_l : sIf t a b τ G = (t τ G).cs a b τ := by
  unfold sIf sBind Out.cs
  cases t τ G <;> rfl
theorem cs_t : (Out.ok true G).cs a b τ = a τ G := Eq.trans rfl rfl
theorem cs_f : (Out.ok false G).cs a b τ = b τ G := Eq.trans rfl rfl
theorem cs_x : (Out.exn c G).cs a b τ = .xn c τ G := Eq.trans rfl rfl
theorem sSet_l : sSet i e τ G = (e τ G).st i τ := by
  unfold sSet sBind Out.st
  cases e τ G <;> rfl
theorem st_ok : (Out.ok d G).st i τ = .nx (τ.set i (some d)) G := Eq.trans rfl rfl
theorem st_x : (Out.exn c G).st i τ = .xn c τ G := Eq.trans rfl rfl
theorem sExpr_l : sExpr e τ G = (e τ G).xp τ := by
  unfold sExpr sBind Out.xp
  cases e τ G <;> rfl
theorem xp_ok : (Out.ok d G).xp τ = .nx τ G := Eq.trans rfl rfl
theorem xp_x : (Out.exn c G).xp τ = .xn c τ G := Eq.trans rfl rfl
theorem sRet_l : sRet e τ G = (e τ G).rn τ := by
  unfold sRet sBind Out.rn
  cases e τ G <;> rfl
theorem rn_ok : (Out.ok d G).rn τ = .rt d G := Eq.trans rfl rfl
theorem rn_x : (Out.exn c G).rn τ = .xn c τ G := Eq.trans rfl rfl
theorem sSkip_l : sSkip τ G = .nx τ G := Eq.trans rfl rfl
theorem sRetN_l : sRetN τ G = .rt .non G := Eq.trans rfl rfl
theorem bd_ok {x : α} {q : α → M β} : (Out.ok x G).bd q = q x G := Eq.trans rfl rfl
theorem bd_x {q : α → M β} : (Out.exn c G).bd q = .exn c G := Eq.trans rfl rfl
theorem bd_s {q : α → M β} : (Out.stuck (α := α)).bd q = .stuck := Eq.trans rfl rfl
theorem bind_l {mm : M α} {q : α → M β} : M.bind mm q G = (mm G).bd q := by
  unfold M.bind Out.bd
  cases mm G <;> rfl
theorem ret_l {x : α} : M.ret x G = .ok x G := Eq.trans rfl rfl
theorem stop_l : (M.stop (α := α)) G = .stuck := Eq.trans rfl rfl
theorem eVar_l : eVar i τ G = match τ[i]? with
  | some (some d) => .ok d G
  | _ => .stuck := Eq.trans rfl rfl
theorem eC_l : eC d τ G = .ok d G := Eq.trans rfl rfl
theorem eOp_l : eOp f ma mb τ G = (ma τ G).bd fun x => (mb τ).bind fun y => f x y := bind_l
theorem eArgs_l : eArgs fl ml τ G = (ml τ G).bd fl := bind_l
theorem aNil_l : aNil τ G = .ok [] G := Eq.trans rfl rfl
theorem aCons_l : aCons ma ml τ G = (ma τ G).bd fun x => (ml τ).bind fun xs => M.ret (x :: xs) := bind_l
noncomputable def asBl : D → M Bool
  | .bl b => M.ret b
  | _ => M.stop
theorem tBl_l : tBl e τ G = (e τ G).bd asBl := by
  unfold tBl
  rw [bind_l]
  unfold Out.bd
  cases e τ G <;> try rfl
theorem asBl_b {b : Bool} : asBl (.bl b) G = .ok b G := Eq.trans rfl rfl
theorem tTruth_l {q : D → M Bool} : tTruth q e τ G = (e τ G).bd q := bind_l
theorem tNotD_l : tNotD t τ G = (t τ G).bd fun c => M.ret (!c) := bind_l
theorem tOrD_l : tOrD ta tb τ G = (ta τ G).bd fun c => if c = true then M.ret true else tb τ := bind_l
theorem tAndD_l : tAndD ta tb τ G = (ta τ G).bd fun c => if c = true then tb τ else M.ret false := bind_l
theorem eIsi_l {y : Ty} : eIsi y e τ G = (e τ G).bd (dIsi y) := bind_l
theorem eCall_l {mf : List D → M D} : eCall n mf ml τ G = (ml τ G).bd fun ds => if ds.length = n then mf ds else M.stop := bind_l
theorem eMethT_l {T : String} {g : D → List D → M D} : eMethT T g mo ml τ G = (mo τ G).bd fun d G => if kindOk T G d = true then (ml τ G).bd (g d) else .stuck := by
  unfold eMethT
  rw [bind_l]
  unfold Out.bd
  cases mo τ G with
  | stuck => rfl
  | exn c G => rfl
  | ok d G' => simp only [bind_l]; rfl
theorem eIf_l : eIf t ma mb τ G = (t τ G).bd fun c => if c = true then ma τ else mb τ := bind_l
theorem sForRng_l {rng : List D → Option (List D)} {g : TgD} {body : MS} : sForRng rng g ml body τ G = (ml τ G).sb τ fun ds G => match rng ds with
    | some xs => forP g body xs τ G
    | none => .stuck := by
  unfold sForRng sBind Out.sb
  cases ml τ G <;> rfl
theorem sForIn_l {g : TgD} {body : MS} : sForIn g e body τ G = (e τ G).sb τ fun d G => match d with
    | .obj n => match G[n]? with
      | some (.lst xs) => forO g body n (xs.length + 1) 0 τ G
      | _ => .stuck
    | .tup xs => forP g body xs τ G
    | .con xs => forP g body xs τ G
    | .str z => forP g body (z.cps.toList.map fun c => .str ⟨#[c]⟩) τ G
    | _ => .stuck := by
  unfold sForIn sBind Out.sb
  cases e τ G <;> rfl
theorem sForV_l {g : TgD} {mi : MI} {body : MS} : sForV g mi body τ G = (mi τ G).sb τ fun x G => forV g body x.2 x.1 0 τ G := by
  unfold sForV sBind Out.sb
  cases mi τ G <;> rfl
theorem sb_ok {x : α} {q : α → DH → Res} : (Out.ok x G).sb τ q = q x G := Eq.trans rfl rfl
theorem sb_x {q : α → DH → Res} : (Out.exn c G).sb τ q = .xn c τ G := Eq.trans rfl rfl
theorem eComp_l {gO : D → Option (List D)} {ks : List Bool} {tt : DS → M Bool} {te : DS → M D} : eComp gO ks e tt te τ G = (e τ G).bd fun d G => match d with
    | .obj k => match G[k]? with
      | some (.lst xs) => compO gO ks tt te G.length k (xs.length + 1) 0 τ (G ++ [.lst []])
      | _ => .stuck
    | .tup xs => compP gO ks tt te G.length xs τ (G ++ [.lst []])
    | .con xs => compP gO ks tt te G.length xs τ (G ++ [.lst []])
    | .str z => compP gO ks tt te G.length (z.cps.toList.map fun c => .str ⟨#[c]⟩) τ (G ++ [.lst []])
    | _ => .stuck := bind_l
theorem eCompR_l {rng : List D → Option (List D)} {gO : D → Option (List D)} {ks : List Bool} {tt : DS → M Bool} {te : DS → M D} : eCompR rng gO ks ml tt te τ G = (ml τ G).bd fun ds G => match rng ds with
    | some xs => compP gO ks tt te G.length xs τ (G ++ [.lst []])
    | none => .stuck := bind_l
theorem eCompV_l {gO : D → Option (List D)} {ks : List Bool} {mi : MI} {tt : DS → M Bool} {te : DS → M D} : eCompV gO ks mi tt te τ G = (mi τ G).bd fun x G => compV gO ks tt te G.length x.2 x.1 0 τ (G ++ [.lst []]) := bind_l
theorem runB_l {ds : List D} : runB n m ds G = (m (ds.map some ++ List.replicate (n - ds.length) none) G).fn := by
  unfold runB Res.fn
  cases m (ds.map some ++ List.replicate (n - ds.length) none) G <;> rfl
theorem fn_nx : (Res.nx τ G).fn = .ok .non G := Eq.trans rfl rfl
theorem fn_rt : (Res.rt d G).fn = .ok d G := Eq.trans rfl rfl
theorem fn_x : (Res.xn c τ G).fn = .exn c G := Eq.trans rfl rfl
theorem eSl_l {lo hi : DS → M (Option Int)} : eSl e lo hi τ G = (e τ G).bd fun d => (lo τ).bind fun l => (hi τ).bind fun h => dSl d l h := bind_l
theorem oNone_l : oNone τ G = .ok none G := Eq.trans rfl rfl
noncomputable def asInt : D → M (Option Int)
  | .int i => M.ret (some i)
  | _ => M.stop
theorem oSome_l : oSome e τ G = (e τ G).bd asInt := by
  unfold oSome
  rw [bind_l]
  unfold Out.bd
  cases e τ G <;> try rfl
theorem asInt_i {i : Int} : asInt (.int i) G = .ok (some i) G := Eq.trans rfl rfl
noncomputable def neg1 : D → M D
  | .int i => M.ret (.int (-i))
  | _ => M.stop
theorem eNeg_l : eNeg e τ G = (e τ G).bd neg1 := by
  unfold eNeg
  rw [bind_l]
  unfold Out.bd
  cases e τ G <;> try rfl
theorem neg1_i {i : Int} : neg1 (.int i) G = .ok (.int (-i)) G := Eq.trans rfl rfl
theorem iEnum_l : iEnum ml τ G = (ml τ G).bd fun ds => match ds with
  | [d] => fun G => match seqOf G d with
    | some (.lst xs) => .ok (xs.length + 1, vEnum d) G
    | _ => .stuck
  | _ => M.stop := bind_l
theorem eCallV_l {tbl : Str → Option (List D → M D)} : eCallV i n tbl ml τ G = match τ[i]? with
  | some (some (.fn y)) => match tbl y with
    | some mf => eCall n mf ml τ G
    | none => .stuck
  | _ => .stuck := Eq.trans rfl rfl
theorem whB_l : whB m k τ G = (m τ G).lp k := Eq.trans rfl rfl
theorem lp_nx : (Res.nx τ G).lp k = k τ G := Eq.trans rfl rfl
theorem lp_ct : (Res.ct τ G).lp k = k τ G := Eq.trans rfl rfl
theorem lp_bk : (Res.bk τ G).lp k = .nx τ G := Eq.trans rfl rfl
theorem lp_rt : (Res.rt d G).lp k = .rt d G := Eq.trans rfl rfl
theorem lp_xn : (Res.xn c τ G).lp k = .xn c τ G := Eq.trans rfl rfl
theorem sWhile_l : sWhile t m (n + 1) τ G = (t τ G).cs (whB m (sWhile t m n)) sSkip τ := by
  rw [sWhile]
  unfold sBind Out.cs
  dsimp only
  cases t τ G with
  | stuck => rfl
  | exn c G => rfl
  | ok b G' =>
    cases b with
    | false => rfl
    | true =>
      simp only [if_true]
      unfold whB Res.lp
      cases m τ G' <;> rfl
theorem forP_nil {g : TgD} {body : MS} : forP g body [] τ G = .nx τ G := Eq.trans rfl rfl
theorem forP_cons {g : TgD} {body : MS} {x : D} {r : List D} {τ1 : DS} (h : g x τ = some τ1) : forP g body (x :: r) τ G = (body τ1 G).lp (forP g body r) := by
  rw [forP, h]
  dsimp only
  unfold Res.lp
  cases body τ1 G <;> rfl
theorem forO_l {g : TgD} {body : MS} {xs : List D} {x : D} {τ1 : DS} {j fu src : Nat} (hs : G[src]? = some (.lst xs)) (hx : xs[j]? = some x) (h : g x τ = some τ1) : forO g body src (fu + 1) j τ G = (body τ1 G).lp (forO g body src fu (j + 1)) := by
  rw [forO, hs]
  dsimp only
  rw [hx]
  dsimp only
  rw [h]
  dsimp only
  unfold Res.lp
  cases body τ1 G <;> rfl
theorem forO_end {g : TgD} {body : MS} {xs : List D} {j fu src : Nat} (hs : G[src]? = some (.lst xs)) (hx : xs[j]? = none) : forO g body src (fu + 1) j τ G = .nx τ G := by
  rw [forO, hs]
  dsimp only
  rw [hx]
end
end L3
end
section
set_option Elab.async false
set_option linter.all false
set_option maxRecDepth 100000
namespace L3
open PySem PySem.Spec L2
end L3
end
section
set_option Elab.async false
set_option linter.all false
set_option maxRecDepth 100000
namespace L3
open PySem PySem.Spec L2
section
variable {m k mb me : MS} {τ : DS} {G : DH} {e : DS → M D} {c : XD} {x : Str} {ml : DS → M (List D)} {d : D}
theorem sRaise_l : sRaise x ml τ G = (ml τ G).sb τ fun ds G => if ds.length ≤ sizeLine then .xn (.mk x ds) τ G else .stuck := by
  unfold sRaise sBind Out.sb
  cases ml τ G <;> rfl
theorem eUn_l {f : D → M D} : eUn f e τ G = (e τ G).bd f := bind_l
noncomputable def Res.tr (r : Res) (mh : XD → MS) (me : MS) : Res := match r with
  | .nx τ' G' => me τ' G'
  | .xn c τ' G' => mh c τ' G'
  | r => r
end
end L3
end
section
set_option Elab.async false
set_option linter.all false
set_option maxRecDepth 100000
namespace L3
open PySem PySem.Spec L2
mutual
noncomputable def D.closed : D → Bool
  | .tup ds => closedL ds
  | .con ds => closedL ds
  | .obj _ => false
  | .exo _ _ => false
  | _ => true
noncomputable def closedL : List D → Bool
  | [] => true
  | d :: r => d.closed && closedL r
end
mutual
noncomputable def D.beq : D → D → Bool
  | .non, .non => true
  | .bl a, .bl b => a == b
  | .int a, .int b => a == b
  | .str a, .str b => a == b
  | .tup a, .tup b => beqL a b
  | .con a, .con b => beqL a b
  | .obj a, .obj b => a == b
  | .fn a, .fn b => a == b
  | .exo a x, .exo b y => a == b && beqL x y
  | _, _ => false
noncomputable def beqL : List D → List D → Bool
  | [], [] => true
  | a :: r, b :: q => a.beq b && beqL r q
  | _, _ => false
end
noncomputable def beqK : List (Key × D) → List (Key × D) → Bool
  | [], [] => true
  | a :: r, b :: q => decide (a.1 = b.1) && a.2.beq b.2 && beqK r q
  | _, _ => false
noncomputable def DO.beq : DO → DO → Bool
  | .lst a, .lst b => beqL a b
  | .dead, .dead => true
  | .dct a, .dct b => beqK a b
  | _, _ => false
noncomputable def hbeq : DH → DH → Bool
  | [], [] => true
  | a :: r, b :: q => a.beq b && hbeq r q
  | _, _ => false
mutual
theorem D.beq_eq : ∀ (a b : D), a.beq b = true → a = b
  | .non, b, h => by cases b <;> simp_all [D.beq]
  | .bl a, b, h => by cases b <;> simp_all [D.beq]
  | .int a, b, h => by cases b <;> simp_all [D.beq]
  | .str a, b, h => by cases b <;> simp_all [D.beq]
  | .tup a, b, h => by
    cases b <;> try (simp [D.beq] at h; done)
    rename_i y
    rw [beqL_eq a y (by simpa [D.beq] using h)]
  | .con a, b, h => by
    cases b <;> try (simp [D.beq] at h; done)
    rename_i y
    rw [beqL_eq a y (by simpa [D.beq] using h)]
  | .obj a, b, h => by cases b <;> simp_all [D.beq]
  | .fn a, b, h => by cases b <;> simp_all [D.beq]
  | .exo c x, b, h => by
    cases b <;> try (simp [D.beq] at h; done)
    rename_i d y
    have h' : c = d ∧ beqL x y = true := by simpa [D.beq] using h
    rw [h'.1, beqL_eq x y h'.2]
theorem beqL_eq : ∀ (a b : List D), beqL a b = true → a = b
  | [], b, h => by cases b <;> simp_all [beqL]
  | x :: r, b, h => by
    cases b with
    | nil => simp [beqL] at h
    | cons y q =>
      have h' : x.beq y = true ∧ beqL r q = true := by simpa [beqL] using h
      rw [D.beq_eq x y h'.1, beqL_eq r q h'.2]
end
mutual
theorem D.beq_self : ∀ (a : D), a.beq a = true
  | .non => rfl
  | .bl a => by simp [D.beq]
  | .int a => by simp [D.beq]
  | .str a => by simp [D.beq]
  | .tup a => by simp [D.beq, beqL_self a]
  | .con a => by simp [D.beq, beqL_self a]
  | .obj a => by simp [D.beq]
  | .fn a => by simp [D.beq]
  | .exo c x => by simp [D.beq, beqL_self x]
theorem beqL_self : ∀ (a : List D), beqL a a = true
  | [] => rfl
  | x :: r => by simp [beqL, D.beq_self x, beqL_self r]
end
theorem beqK_self : ∀ (a : List (Key × D)), beqK a a = true
  | [] => rfl
  | x :: r => by simp [beqK, D.beq_self x.2, beqK_self r]
theorem beqK_eq : ∀ (a b : List (Key × D)), beqK a b = true → a = b
  | [], b, h => by cases b <;> simp_all [beqK]
  | x :: r, b, h => by
    cases b with
    | nil => simp [beqK] at h
    | cons y q =>
      have h' : (x.1 = y.1 ∧ x.2.beq y.2 = true) ∧ beqK r q = true := by simpa [beqK] using h
      rw [beqK_eq r q h'.2, Prod.ext h'.1.1 (D.beq_eq _ _ h'.1.2)]
theorem hbeq_self : ∀ (a : DH), hbeq a a = true
  | [] => rfl
  | x :: r => by
    cases x with
    | lst a => simp [hbeq, DO.beq, beqL_self a, hbeq_self r]
    | dead => simp [hbeq, DO.beq, hbeq_self r]
    | dct kv => simp [hbeq, DO.beq, beqK_self kv, hbeq_self r]
theorem hbeq_eq : ∀ (a b : DH), hbeq a b = true → a = b
  | [], b, h => by cases b <;> simp_all [hbeq]
  | x :: r, b, h => by
    cases b with
    | nil => simp [hbeq] at h
    | cons y q =>
      have h' : x.beq y = true ∧ hbeq r q = true := by simpa [hbeq] using h
      rw [hbeq_eq r q h'.2]
      congr 1
      cases x with
      | lst u =>
        cases y with
        | lst v => rw [beqL_eq u v (by simpa [DO.beq] using h'.1)]
        | dead => simp [DO.beq] at h'
        | dct kv => simp [DO.beq] at h'
      | dead =>
        cases y with
        | lst v => simp [DO.beq] at h'
        | dead => rfl
        | dct kv => simp [DO.beq] at h'
      | dct kv =>
        cases y with
        | lst v => simp [DO.beq] at h'
        | dead => simp [DO.beq] at h'
        | dct v => rw [beqK_eq kv v (by simpa [DO.beq] using h'.1)]
section
variable {K : PySem.W.Frag} {mg : Str → Option Value} {H H' : Hp} {ρ ρ' : List Addr} {G G' : DH}
mutual
theorem closed_rep : ∀ (d : D) (v : V), d.closed = true → Rep K mg ρ H d v → Rep K mg ρ' H d v
  | .non, v, c, h => by unfold Rep at h ⊢; exact h
  | .bl b, v, c, h => by unfold Rep at h ⊢; exact h
  | .int i, v, c, h => by unfold Rep at h ⊢; exact h
  | .str x, v, c, h => by unfold Rep at h ⊢; exact h
  | .tup ds, v, c, h => by
    unfold Rep at h ⊢
    obtain ⟨a, xs, e, s, r⟩ := h
    exact ⟨a, xs, e, s, closed_reps ds xs (by simpa [D.closed] using c) r⟩
  | .con ds, v, c, h => by
    unfold Rep at h ⊢
    obtain ⟨a, xs, e, s, r⟩ := h
    exact ⟨a, xs, e, s, closed_reps ds xs (by simpa [D.closed] using c) r⟩
  | .obj n, v, c, h => by simp [D.closed] at c
  | .fn x, v, c, h => by unfold Rep at h ⊢; exact h
  | .exo _ _, v, c, h => by simp [D.closed] at c
theorem closed_reps : ∀ (ds : List D) (vs : List V), closedL ds = true → Reps K mg ρ H ds vs → Reps K mg ρ' H ds vs
  | [], vs, c, h => by unfold Reps at h ⊢; exact h
  | d :: ds, vs, c, h => by
    have c' : d.closed = true ∧ closedL ds = true := by simpa [closedL] using c
    unfold Reps at h ⊢
    obtain ⟨v, r, e, h1, h2⟩ := h
    exact ⟨v, r, e, closed_rep d v c'.1 h1, closed_reps ds r c'.2 h2⟩
end
mutual
theorem Rep.back (p : ∃ r, ρ' = ρ ++ r) : ∀ (d : D) (v0 v : V), Rep K mg ρ H d v0 → Rep K mg ρ' H' d v → Rep K mg ρ H' d v
  | .non, v0, v, h0, h => by unfold Rep at h ⊢; exact h
  | .bl b, v0, v, h0, h => by unfold Rep at h ⊢; exact h
  | .int i, v0, v, h0, h => by unfold Rep at h ⊢; exact h
  | .str x, v0, v, h0, h => by unfold Rep at h ⊢; exact h
  | .tup ds, v0, v, h0, h => by
    unfold Rep at h0 h ⊢
    obtain ⟨a, xs, e, s, r⟩ := h
    obtain ⟨a0, xs0, e0, s0, r0⟩ := h0
    exact ⟨a, xs, e, s, Reps.back p ds xs0 xs r0 r⟩
  | .con ds, v0, v, h0, h => by
    unfold Rep at h0 h ⊢
    obtain ⟨a, xs, e, s, r⟩ := h
    obtain ⟨a0, xs0, e0, s0, r0⟩ := h0
    exact ⟨a, xs, e, s, Reps.back p ds xs0 xs r0 r⟩
  | .obj n, v0, v, h0, h => by
    unfold Rep at h0 h ⊢
    obtain ⟨a, e, q⟩ := h
    obtain ⟨a0, e0, q0⟩ := h0
    obtain ⟨r, rfl⟩ := p
    rw [List.getElem?_append_left (List.getElem?_eq_some_iff.mp q0).1] at q
    exact ⟨a, e, q⟩
  | .fn x, v0, v, h0, h => by unfold Rep at h ⊢; exact h
  | .exo c as, v0, v, h0, h => by unfold Rep at h ⊢; exact h
theorem Reps.back (p : ∃ r, ρ' = ρ ++ r) : ∀ (ds : List D) (vs0 vs : List V), Reps K mg ρ H ds vs0 → Reps K mg ρ' H' ds vs → Reps K mg ρ H' ds vs
  | [], vs0, vs, h0, h => by unfold Reps at h ⊢; exact h
  | d :: ds, vs0, vs, h0, h => by
    unfold Reps at h0 h ⊢
    obtain ⟨v, r, e, h1, h2⟩ := h
    obtain ⟨v0, r0, e0, h10, h20⟩ := h0
    exact ⟨v, r, e, Rep.back p d v0 v h10 h1, Reps.back p ds r0 r h20 h2⟩
end
theorem HAb.cut (h : HAb K mg H ρ G) (p : ∃ r, ρ' = ρ ++ r) (h' : HAb K mg H' ρ' G') (e : G'.take G.length = G) : HAb K mg H' ρ G := by
  refine ⟨h.hl, h.nd, fun n o q => ?_⟩
  have hn : n < G.length := (List.getElem?_eq_some_iff.mp q).1
  have q' : G'[n]? = some o := by
    rw [← e, List.getElem?_take] at q
    rw [if_pos hn] at q; exact q
  obtain ⟨a0, e0, r0⟩ := h.ob n o q
  obtain ⟨a, e1, r1⟩ := h'.ob n o q'
  have ea : a = a0 := by
    obtain ⟨r, rfl⟩ := p
    rw [List.getElem?_append_left (by rw [h.hl]; exact hn), e0] at e1
    exact (Option.some.inj e1).symm
  subst ea
  refine ⟨a, e0, ?_⟩
  cases o with
  | dead => exact r1
  | dct kv =>
    obtain ⟨xs, e2, rs⟩ := r1
    obtain ⟨xs0, _, rs0⟩ := r0
    exact ⟨xs, e2, Reps.back p _ xs0 xs rs0 rs⟩
  | lst ds =>
    obtain ⟨xs, e2, rs⟩ := r1
    obtain ⟨xs0, _, rs0⟩ := r0
    exact ⟨xs, e2, Reps.back p ds xs0 xs rs0 rs⟩
theorem fut_frz {a : Addr} {o : Obj} {xs : List V} (e : H a = some (.lst xs)) (ρ : List Addr) : Fut K H (upd H a (.frz o (.lst xs))) ρ ρ := by
  refine ⟨fun b zs h => ?_, fun b zs h => ?_, ⟨[], by simp⟩, fun b φ h => by rw [upd_ne (ne_of h e (by intro z; cases z))]; exact h⟩
  · rcases h with (h | ⟨q, h⟩) | h
    · exact .inl (.inl (by rw [upd_ne (ne_of h e (by intro z; cases z))]; exact h))
    · exact .inl (.inr ⟨q, by rw [upd_ne (ne_of h e (by intro z; cases z))]; exact h⟩)
    · exact .inr h
  · rcases h with ⟨q, h⟩ | h
    · exact .inl ⟨q, by rw [upd_ne (ne_of h e (by intro z; cases z))]; exact h⟩
    · exact .inr h
theorem HAb.frz {n : Nat} {a : Addr} {o : Obj} {xs : List V} (h : HAb K mg H ρ G) (hn : ρ[n]? = some a) (e : H a = some (.lst xs)) : HAb K mg (upd H a (.frz o (.lst xs))) ρ (G.set n .dead) := by
  have f : Fut K H (upd H a (.frz o (.lst xs))) ρ ρ := fut_frz e ρ
  refine ⟨by simp [h.hl], h.nd, fun m ob q => ?_⟩
  by_cases hm : n = m
  · subst hm
    rw [List.getElem?_set, if_pos rfl] at q
    split at q
    · cases q
      exact ⟨a, hn, _, upd_same⟩
    · cases q
  · rw [List.getElem?_set_ne hm] at q
    obtain ⟨b, e1, r'⟩ := h.ob m ob q
    have hb : b ≠ a := by
      rintro rfl
      obtain ⟨h1, e1'⟩ := List.getElem?_eq_some_iff.mp hn
      obtain ⟨h2, e2'⟩ := List.getElem?_eq_some_iff.mp e1
      exact hm ((List.getElem_inj h.nd).mp (e1'.trans e2'.symm))
    exact ⟨b, e1, r'.mono f fun u q => by rw [upd_ne hb]; exact q⟩
end
section
variable {X : Cx} {EE : EXK}
theorem inv_frz {pins : List (Addr × Obj)} {σ : L2.St} {H : Hp} {s : Shared} {a : Addr} {xs : List V} (I : Inv X pins σ H s) (e : H a = some (.lst xs)) : ∃ o, Inv X pins σ (upd H a (.frz o (.lst xs))) s := by
  obtain ⟨z, its, n, r, hg⟩ := I.hok a _ e
  refine ⟨_, I.un (H' := upd H a (.frz { cls := .type "list", data := .seq its.toArray n } (.lst xs))) (h' := s.heap) (t' := s.toks) ⟨fun b o q _ _ _ => q, fun b o q _ _ _ => ⟨o.slots, q⟩, fun b o q hn _ => ?_, fun b o q _ => ⟨o, q⟩, fun b ys q => ?_, fun b o u q => ?_, fun b ps q => ⟨#[], ?_⟩⟩ fun b u q => ?_⟩
  · rw [upd_ne (by rintro rfl; rw [e] at hn; cases hn)]; exact hn
  · rw [upd_ne (ne_of q e (by intro z; cases z))]; exact q
  · rw [upd_ne (ne_of q e (by intro z; cases z))]; exact q
  · rw [upd_ne (ne_of q e (by intro z; cases z)), q]; simp
  · have ho : ∀ c y, H c = some (.own y) → upd H a (.frz { cls := .type "list", data := .seq its.toArray n } (.lst xs)) c = some (.own y) := fun c y w => by rw [upd_ne (ne_of w e (by intro z; cases z))]; exact w
    have ht : ∀ c ys, H c = some (.tup ys) → upd H a (.frz { cls := .type "list", data := .seq its.toArray n } (.lst xs)) c = some (.tup ys) := fun c ys w => by rw [upd_ne (ne_of w e (by intro z; cases z))]; exact w
    by_cases hb : b = a
    · subst hb
      rw [upd_same] at q; cases q
      exact ⟨hg, (I.hok b _ e).stay (fun _ _ _ w => w) (fun c w => ho c b w) ht⟩
    · rw [upd_ne hb] at q
      exact (I.hok b u q).stay (fun _ _ _ w => w) (fun c w => ho c b w) ht
noncomputable def eFz (m : DS → M D) : DS → M D := fun τ G => match m τ G with
  | .ok (.obj n) G' => match G'[n]? with
    | some (.lst ds) => .ok (.con ds) (G'.set n .dead)
    | _ => .stuck
  | r => r
noncomputable def eFn (m : DS → M D) : DS → M D := fun τ G => match m τ G with
  | .ok (.obj n) G' => match G'[n]? with
    | some (.lst ds) => if n = G.length ∧ G'.length = n + 1 ∧ hbeq (G'.take G.length) G = true ∧ closedL ds = true then .ok (.con ds) G else .stuck
    | _ => .stuck
  | r => r
theorem ep_frz {pins : List (Addr × Obj)} {σ : L2.St} {Q Q' : VK} {u : Value} {s : Shared} (h : EP X pins σ Q' u s) (hq : ∀ v H', Q' v H' → Q v H' ∨ ∃ a xs, v = .ref a ∧ H' a = some (.lst xs) ∧ ∀ o, Q v (upd H' a (.frz o (.lst xs)))) : EP X pins σ Q u s := by
  obtain ⟨v, H', I, r, q⟩ := h
  rcases hq v H' q with q | ⟨a, xs, rfl, e, q⟩
  · exact ⟨v, H', I, r, q⟩
  · obtain ⟨o, I'⟩ := inv_frz I e
    exact ⟨_, _, I', r, q o⟩
theorem qe_fz {e : Expr} {m : DS → M D} (ha : QE X EE e m) : QE X EE e (eFz m) := by
  intro pins s σ H Q I ⟨τ, ρ, G, ab, ok⟩
  dsimp only [eFz] at ok
  cases q : m τ G with
  | stuck => rw [q] at ok; exact ok.elim
  | exn c G' => rw [q] at ok; exact ha pins s σ H Q I ⟨τ, ρ, G, ab, by rw [q]; exact ok⟩
  | ok d G' =>
    rw [q] at ok
    by_cases hd : ∃ n, d = .obj n
    · obtain ⟨n, rfl⟩ := hd
      dsimp only at ok
      cases g : G'[n]? with
      | none => rw [g] at ok; exact ok.elim
      | some o =>
        rw [g] at ok
        cases o with
        | dead => exact ok.elim
        | dct kv => exact ok.elim
        | lst ds =>
          refine thn (ha pins s σ H (fun v H' => ∃ a xs, v = .ref a ∧ H' a = some (.lst xs) ∧ ∀ o, Q v (upd H' a (.frz o (.lst xs)))) I ⟨τ, ρ, G, ab, ?_⟩) fun u s' h => ep_frz h fun v H' q => .inr q
          rw [q]
          intro v H' ρ' f ab' r
          unfold Rep at r
          obtain ⟨a, rfl, hn⟩ := r
          obtain ⟨a', xs, e1, e2, rs⟩ := ab'.hp.lst g
          rw [hn] at e1; cases e1
          refine ⟨a, xs, rfl, e2, fun ob => ?_⟩
          have f2 : Fut X.K H' (upd H' a (.frz ob (.lst xs))) ρ' ρ' := fut_frz e2 ρ'
          refine ok _ _ ρ' (f.trans f2) ⟨ab'.st.mono f2, ab'.hp.frz hn e2⟩ ?_
          unfold Rep
          exact ⟨a, xs, rfl, .inl ⟨ob, upd_same⟩, rs.mono f2⟩
    · have ok' : OkE X.K X.mg EE H σ τ ρ (.ok d G') Q := by
        cases d <;> first | exact ok | exact absurd ⟨_, rfl⟩ hd
      exact ha pins s σ H Q I ⟨τ, ρ, G, ab, by rw [q]; exact ok'⟩
theorem qe_fnw {e : Expr} {m : DS → M D} (ha : QE X EE e m) : QE X EE e (eFn m) := by
  intro pins s σ H Q I ⟨τ, ρ, G, ab, ok⟩
  dsimp only [eFn] at ok
  cases q : m τ G with
  | stuck => rw [q] at ok; exact ok.elim
  | exn c G' => rw [q] at ok; exact ha pins s σ H Q I ⟨τ, ρ, G, ab, by rw [q]; exact ok⟩
  | ok d G' =>
    rw [q] at ok
    by_cases hd : ∃ n, d = .obj n
    · obtain ⟨n, rfl⟩ := hd
      dsimp only at ok
      cases g : G'[n]? with
      | none => rw [g] at ok; exact ok.elim
      | some o =>
        rw [g] at ok
        cases o with
        | dead => exact ok.elim
        | dct kv => exact ok.elim
        | lst ds =>
          dsimp only at ok
          by_cases hc : n = G.length ∧ G'.length = n + 1 ∧ hbeq (G'.take G.length) G = true ∧ closedL ds = true
          · rw [if_pos hc] at ok
            obtain ⟨hn0, hl, hb, hcl⟩ := hc
            refine thn (ha pins s σ H (fun v H' => ∃ a xs, v = .ref a ∧ H' a = some (.lst xs) ∧ ∀ o, Q v (upd H' a (.frz o (.lst xs)))) I ⟨τ, ρ, G, ab, ?_⟩) fun u s' h => ep_frz h fun v H' q => .inr q
            rw [q]
            intro v H' ρ' f ab' r
            unfold Rep at r
            obtain ⟨a, rfl, hn⟩ := r
            obtain ⟨a', xs, e1, e2, rs⟩ := ab'.hp.lst g
            rw [hn] at e1; cases e1
            refine ⟨a, xs, rfl, e2, fun ob => ?_⟩
            have f2 : Fut X.K H' (upd H' a (.frz ob (.lst xs))) ρ' ρ' := fut_frz e2 ρ'
            have f3 : Fut X.K H (upd H' a (.frz ob (.lst xs))) ρ ρ := ⟨fun b ys w => f2.tup b ys (f.tup b ys w), fun b ys w => f2.con b ys (f.con b ys w), ⟨[], by simp⟩, fun b φ w => f2.ext b φ (f.ext b φ w)⟩
            have hp2 := ab'.hp.frz (o := ob) hn e2
            have hcut : HAb X.K X.mg (upd H' a (.frz ob (.lst xs))) ρ G := ab.hp.cut f.pre hp2 (by
              rw [List.take_set_of_le (by omega)]
              exact hbeq_eq _ _ hb)
            refine ok _ _ ρ f3 ⟨ab.st.mono f3, hcut⟩ ?_
            unfold Rep
            exact ⟨a, xs, rfl, .inl ⟨ob, upd_same⟩, closed_reps ds xs hcl (rs.mono f2)⟩
          · rw [if_neg hc] at ok; exact ok.elim
    · have ok' : OkE X.K X.mg EE H σ τ ρ (.ok d G') Q := by
        cases d <;> first | exact ok | exact absurd ⟨_, rfl⟩ hd
      exact ha pins s σ H Q I ⟨τ, ρ, G, ab, by rw [q]; exact ok'⟩
end
noncomputable def pureM (m : List D → M D) : List D → M D := fun ds G => match m ds G with
  | .ok d G' => if hbeq (G'.take G.length) G = true ∧ d.closed = true then .ok d G else .stuck
  | .exn c G' => if hbeq (G'.take G.length) G = true then .exn c G else .stuck
  | .stuck => .stuck
noncomputable def freshM (m : List D → M D) : List D → M D := fun ds G => match m ds G with
  | .ok (.obj n) G' => match G'[n]? with
    | some (.lst xs) => if hbeq (G'.take G.length) G = true ∧ G.length ≤ n ∧ closedL xs = true then .ok (.obj G.length) (G ++ [.lst xs]) else .stuck
    | _ => .stuck
  | .exn c G' => if hbeq (G'.take G.length) G = true then .exn c G else .stuck
  | _ => .stuck
section
variable {K : PySem.W.Frag} {mg : Str → Option Value} {n : Nat} {m : List D → M D}
theorem fut_same {H H' : Hp} {ρ ρ' : List Addr} (f : Fut K H H' ρ ρ') : Fut K H H' ρ ρ := ⟨f.tup, f.con, ⟨[], by simp⟩, f.ext⟩
theorem pure_sp (vs : List V) (H : Hp) (Q : VK) (E : XK) (h : spOf K mg n (pureM m) vs H Q E) : spOf K mg n m vs H Q E := by
  obtain ⟨ds, ρ, G, hl, hp, rs, ok⟩ := h
  refine ⟨ds, ρ, G, hl, hp, rs, ?_⟩
  dsimp only [pureM] at ok
  cases q : m ds G with
  | stuck => rw [q] at ok; exact ok
  | ok d G' =>
    rw [q] at ok
    dsimp only at ok
    by_cases hc : hbeq (G'.take G.length) G = true ∧ d.closed = true
    · rw [if_pos hc] at ok
      intro v H' ρ' f hp' r
      exact ok v H' ρ (fut_same f) (hp.cut f.pre hp' (hbeq_eq _ _ hc.1)) (closed_rep d v hc.2 r)
    · rw [if_neg hc] at ok; exact ok.elim
  | exn c G' =>
    rw [q] at ok
    dsimp only at ok
    by_cases hc : hbeq (G'.take G.length) G = true
    · rw [if_pos hc] at ok
      intro cls H' ρ' hcl f hp'
      exact ok cls H' ρ hcl (fut_same f) (hp.cut f.pre hp' (hbeq_eq _ _ hc))
    · rw [if_neg hc] at ok; exact ok.elim
theorem fresh_sp (vs : List V) (H : Hp) (Q : VK) (E : XK) (h : spOf K mg n (freshM m) vs H Q E) : spOf K mg n m vs H Q E := by
  obtain ⟨ds, ρ, G, hl, hp, rs, ok⟩ := h
  refine ⟨ds, ρ, G, hl, hp, rs, ?_⟩
  dsimp only [freshM] at ok
  cases q : m ds G with
  | stuck => rw [q] at ok; exact ok
  | exn c G' =>
    rw [q] at ok
    dsimp only at ok
    by_cases hc : hbeq (G'.take G.length) G = true
    · rw [if_pos hc] at ok
      intro cls H' ρ' hcl f hp'
      exact ok cls H' ρ hcl (fut_same f) (hp.cut f.pre hp' (hbeq_eq _ _ hc))
    · rw [if_neg hc] at ok; exact ok.elim
  | ok d G' =>
    rw [q] at ok
    cases d <;> try exact ok.elim
    rename_i k
    dsimp only at ok
    cases g : G'[k]? with
    | none => rw [g] at ok; exact ok.elim
    | some o =>
      rw [g] at ok
      cases o with
      | dead => exact ok.elim
      | dct kv => exact ok.elim
      | lst xs =>
        dsimp only at ok
        by_cases hc : hbeq (G'.take G.length) G = true ∧ G.length ≤ k ∧ closedL xs = true
        · rw [if_pos hc] at ok
          intro v H' ρ' f hp' r
          unfold Rep at r
          obtain ⟨a, rfl, hn⟩ := r
          obtain ⟨a', ys, e1, e2, rs'⟩ := hp'.lst g
          rw [hn] at e1; cases e1
          have hp2 := hp.cut f.pre hp' (hbeq_eq _ _ hc.1)
          have hna : a ∉ ρ := by
            intro hm
            obtain ⟨j, hj, ej⟩ := List.getElem_of_mem hm
            obtain ⟨r, rfl⟩ := f.pre
            obtain ⟨h1, e1'⟩ := List.getElem?_eq_some_iff.mp hn
            have hjl : j < (ρ ++ r).length := by simp; omega
            have : (ρ ++ r)[j] = (ρ ++ r)[k] := by rw [e1', List.getElem_append_left hj, ej]
            have := (List.getElem_inj hp'.nd).mp this
            have := hp.hl
            omega
          refine ok (.ref a) H' (ρ ++ [a]) ((fut_same f).trans (fut_more ρ a)) ?_ (by unfold Rep; exact ⟨a, rfl, by rw [← hp.hl]; simp⟩)
          refine ⟨by simp [hp.hl], ?_, fun j ob e => ?_⟩
          · rw [List.nodup_append]
            refine ⟨hp.nd, by simp, fun x hx y hy => ?_⟩
            have e : y = a := by simpa using hy
            subst e
            rintro rfl
            exact hna hx
          · by_cases hj : j < G.length
            · rw [List.getElem?_append_left hj] at e
              obtain ⟨b, e3, r3⟩ := hp2.ob j ob e
              exact ⟨b, (fut_more (K := K) (H := H') ρ a).get e3, r3.mono (fut_more ρ a) fun u q => q⟩
            · have hl2 : j < (G ++ [DO.lst xs]).length := (List.getElem?_eq_some_iff.mp e).1
              have hj' : j = G.length := by simp at hl2; omega
              subst hj'
              rw [getElem?_concat_self] at e
              cases e
              exact ⟨a, by rw [← hp.hl, getElem?_concat_self], ys, e2, closed_reps xs ys hc.2.2 rs'⟩
        · rw [if_neg hc] at ok; exact ok.elim
end
end L3
end
section
set_option Elab.async false
set_option linter.all false
set_option maxRecDepth 100000
namespace L3
open PySem PySem.Spec L2
noncomputable def Itr (K : PySem.W.Frag) (a : Addr) (n : Nat) : It :=
  ⟨fun i H => ∃ xs x, SqL K H a xs ∧ xs.length = n ∧ i < n ∧ xs[n - 1 - i]? = some x, fun i H y H' => H' = H ∧ ∀ xs, SqL K H a xs → xs[n - 1 - i]? = some y, fun i H => i = n⟩
theorem turn_rev {P : Program} {w : World} {K : PySem.W.Frag} {tg : Expr} (a it : Addr) (n : Nat) : Turn P w K tg (Itr K a n) [it] it (fun i h => h.IsRevIter it a ((n : Int) - 1 - (i : Int))) where
  mem := by simp
  obj := fun i h st b hb => by
    have e : b = it := by simpa using hb
    subst e
    obtain ⟨o, e, c, d⟩ := st
    exact ⟨o, e, fun v z => by rw [d] at z; cases z⟩
  keep := fun i h h' st k => st.at fun o e => k it (by simp) o e
  item := by
    intro X hP hw hK hc i pins s σ H E I hf st hg
    subst hP hw hK
    obtain ⟨xs, x, hq, hn, hi, hx⟩ := hg
    obtain ⟨its, rv, p, hz⟩ := I.list hq
    obtain ⟨u, hu, ru⟩ := rv.get hx
    obtain ⟨f0, f1, f2, f3, f4, f5⟩ := hf it (by simp)
    have e : (n : Int) - 1 - (i : Int) = ((n - 1 - i : Nat) : Int) := by omega
    rw [e] at st
    refine wpAny_pyNext_rev_item st p.isList (x := u) (by simpa using hu) fun h' st' sb => ?_
    have I1 : Inv X pins σ H { s with heap := h' } := I.turned (t' := s.toks) (fun b o hb e => (sb.2 b hb).trans e) f0 f1 f3 f4 f5
    have e2 : ((n - 1 - i : Nat) : Int) - 1 = (n : Int) - 1 - ((i + 1 : Nat) : Int) := by omega
    rw [e2] at st'
    obtain ⟨o, e, c, d⟩ := id st'
    exact ⟨u, rfl, go_of (s := { s with heap := h' }) e c d (by decide) ⟨x, H, I1, ru, ⟨rfl, fun ys hy => by rw [I.list_inj hy hq]; exact hx⟩, st', fun b hb => (hf b hb).1⟩⟩
  done := by
    intro X hP hw hK hc i pins s σ H E I hf st hg
    subst hP hw hK
    have hi : i = n := hg
    subst hi
    obtain ⟨f0, f1, f2, f3, f4, f5⟩ := hf it (by simp)
    rw [show (i : Int) - 1 - (i : Int) = -1 by omega] at st
    exact wpAny_pyNext_rev_end (I.ok.hd hc) st fun h' eb => ⟨rfl, I.turned (t' := s.toks) (fun b o hb e => eb b o hb e) f0 f1 f3 f4 f5⟩
  self := fun _ _ _ _ _ st h => wpAny_pyIter_revIter st h
noncomputable def vRev (d : D) (n : Nat) : View := fun G i => match seqOf G d with
  | some (.lst xs) => if xs.length = n then (if i = n then some none else if i < n then some xs[n - 1 - i]? else none) else none
  | _ => none
noncomputable def iRev (m : DS → M (List D)) : MI := fun τ => (m τ).bind fun ds => match ds with
  | [d] => fun G => match seqOf G d with
    | some (.lst xs) => .ok (xs.length + 1, vRev d xs.length) G
    | _ => .stuck
  | _ => M.stop
section
variable {X : Cx} {EE : EXK} {tg iter a b : Expr} {g : TgD} {mi : MI} {ms : MS} {pos p pc : Pos} {m : DS → M (List D)}
theorem lst_at {H : Hp} {ρ ρ' : List Addr} {H' : Hp} {G' : DH} {d : D} {l : Addr} {ws : List D} (f : Fut X.K H H' ρ ρ') (rx : Rep X.K X.mg ρ H d (.ref l)) (hp : HAb X.K X.mg H' ρ' G') (q : seqOf G' d = some (.lst ws)) : ∃ xs, SqL X.K H' l xs ∧ Reps X.K X.mg ρ' H' ws xs := by
  have rx' := rx.mono f
  cases d with
  | con ds =>
    cases q
    unfold Rep at rx'
    obtain ⟨a', xs, e, s, r⟩ := rx'
    cases e
    exact ⟨xs, s.seq, r⟩
  | obj n =>
    unfold Rep at rx'
    obtain ⟨a', e, r⟩ := rx'
    cases e
    dsimp only [seqOf] at q
    cases g : G'[n]? with
    | none => rw [g] at q; cases q
    | some o =>
      cases o with
      | dead => rw [g] at q; cases q
      | dct kv => rw [g] at q; cases q
      | lst ys =>
        rw [g] at q; cases q
        obtain ⟨a', xs, e1, e2, rs⟩ := hp.lst g
        rw [r] at e1; cases e1
        exact ⟨xs, .inl (.of e2), rs⟩
  | _ => cases q
theorem jv_rev {H : Hp} {ρ : List Addr} {d : D} {l : Addr} {n : Nat} (rx : Rep X.K X.mg ρ H d (.ref l)) : JV X.K X.mg (Itr X.K l n) (vRev d n) H ρ := by
  intro i H' ρ' G' f hp
  unfold vRev
  cases q : seqOf G' d with
  | none => exact ⟨fun e => (by cases e), fun x e => (by cases e)⟩
  | some sk =>
    cases sk with
    | tup zs => exact ⟨fun e => (by cases e), fun x e => (by cases e)⟩
    | str z => exact ⟨fun e => (by cases e), fun x e => (by cases e)⟩
    | lst zs =>
      dsimp only
      by_cases hn : zs.length = n
      · rw [if_pos hn]
        by_cases hi : i = n
        · rw [if_pos hi]
          exact ⟨fun _ => hi, fun x e => (by cases e)⟩
        · rw [if_neg hi]
          by_cases hlt : i < n
          · rw [if_pos hlt]
            obtain ⟨xs, sq, rs⟩ := lst_at f rx hp q
            refine ⟨fun e => ?_, fun x e => ?_⟩
            · have := Option.some.inj e
              rw [List.getElem?_eq_none_iff] at this
              omega
            · have e' := Option.some.inj e
              obtain ⟨v, hv, rv⟩ := rs.get e'
              refine ⟨⟨xs, v, sq, by rw [← rs.length]; exact hn, hlt, hv⟩, fun y H2 hy => ?_⟩
              obtain ⟨rfl, hy⟩ := hy
              have := hy xs sq
              rw [hv] at this; cases this
              exact ⟨⟨.refl, fun _ h => h⟩, rv⟩
          · rw [if_neg hlt]; exact ⟨fun e => (by cases e), fun x e => (by cases e)⟩
      · rw [if_neg hn]; exact ⟨fun e => (by cases e), fun x e => (by cases e)⟩
theorem ri_rev (hm : X.mg "reversed" = none) (hgl : Gl X "reversed") (ha : QA X EE [a] m) (h : nostars [a] = true := by rfl) : QI X EE tg (.Call (.Name "reversed" p) [a] [] pc) (iRev m) := by
  have h' : nostar a = true ∧ nostars [] = true := by simpa [nostars] using h
  intro pins s σ H R I hq
  obtain ⟨τ, ρ, G, ab, ok⟩ := hq
  dsimp only [iRev, M.bind] at ok
  refine wpAny_Call_Name_kw (ld_blt I hgl hm boot_rev ?_ (by decide) (by decide))
  have hA : liftA X.K X.mg EE m σ H fun vs H1 => ∃ ρ1 G1 ds, Ab X.K X.mg σ H1 τ ρ1 G1 ∧ Fut X.K H H1 ρ ρ1 ∧ Reps X.K X.mg ρ1 H1 ds vs ∧ m τ G = .ok ds G1 := by
    refine ⟨τ, ρ, G, ab, ?_⟩
    cases e : m τ G with
    | stuck => rw [e] at ok; exact ok
    | exn c G' => rw [e] at ok; exact ok
    | ok ds G' => exact fun vs H' ρ' f ab' r => ⟨ρ', G', ds, ab', f, r, rfl⟩
  refine PyProof.Rows.callWith_type1 (thn (ha pc pins s σ H _ I hA) fun us s1 hus => ?_) (star_of h'.1 _ _) (stars_any (es := []) rfl)
  obtain ⟨vs, H1, I1, r1, ρ1, G1, ds, ab1, f1, rs, em⟩ := hus
  rw [em] at ok
  dsimp only at ok
  match ds, rs, ok with
  | [], _, ok => exact ok.elim
  | _ :: _ :: _, _, ok => exact ok.elim
  | [d], rs, ok =>
    obtain ⟨x, rfl, rx⟩ := reps1 rs
    obtain ⟨u, rfl, ru⟩ := vals1 r1
    dsimp only at ok
    cases q : seqOf G1 d with
    | none => rw [q] at ok; exact ok.elim
    | some sk =>
      rw [q] at ok
      cases sk with
      | tup zs => exact ok.elim
      | str z => exact ok.elim
      | lst zs =>
        dsimp only at ok
        obtain ⟨l, ys, rfl, sq, rv⟩ := seqOf_lst (pins := pins) (σ0 := σ) (s := s1) ab1.hp rx q
        cases ru
        obtain ⟨its, vv, pl, hz⟩ := I1.list sq
        refine call_reversed_list pl.isList ?_
        have hst : (s1.heap.push (revObj l ((its.toArray.size : Int) - 1))).IsRevIter s1.heap.objs.size l ((its.toArray.size : Int) - 1) := ⟨_, Heap.get?_push_size _ rfl, rfl, rfl⟩
        refine wpAny_pyIter_revIter (s := { s1 with heap := s1.heap.push (revObj l ((its.toArray.size : Int) - 1)) }) hst ?_
        have I2 : Inv X pins σ H1 { s1 with heap := s1.heap.push (revObj l ((its.toArray.size : Int) - 1)) } := I1.kept (t' := s1.toks) fun b o e => Heap.get?_push_of_some _ e
        have hlen : its.toArray.size = zs.length := by rw [List.size_toArray, ← vv.length, rv.length]
        refine ⟨s1.heap.objs.size, [s1.heap.objs.size], _, Itr X.K l zs.length, H1, rfl, I2, turn_rev l _ _, ?_, fun b hb => ?_, ok _ H1 ρ1 f1 ab1 (jv_rev rx)⟩
        · show (s1.heap.push (revObj l ((its.toArray.size : Int) - 1))).IsRevIter s1.heap.objs.size l ((zs.length : Int) - 1 - ((0 : Nat) : Int))
          rw [← hlen]
          simpa using hst
        · rw [List.mem_singleton.mp hb]
          exact I1.fpOk (Nat.le_refl _) (I1.hok.fresh (Nat.le_refl _))
end
end L3
end
section
set_option Elab.async false
set_option linter.all false
set_option maxRecDepth 100000
namespace L3
open PySem PySem.Spec L2
noncomputable def Itz (K : PySem.W.Frag) (a b : Addr) : It :=
  ⟨fun i H => ∃ xs ys x y, SqL K H a xs ∧ SqL K H b ys ∧ xs[i]? = some x ∧ ys[i]? = some y, fun i H v H' => ∃ x y p, (∀ xs, SqL K H a xs → xs[i]? = some x) ∧ (∀ ys, SqL K H b ys → ys[i]? = some y) ∧ H p = none ∧ v = .ref p ∧ H' = upd H p (.tup [x, y]), fun i H => ∃ xs ys, SqL K H a xs ∧ SqL K H b ys ∧ (xs.length ≤ i ∨ ys.length ≤ i)⟩
theorem turn_zip {P : Program} {w : World} {K : PySem.W.Frag} {es : List Expr} {k : Nat} {pt : Pos} (l1 l2 z TI TO i1 i2 : Addr) (D : ZipApart z TI TO i1 i2 l1 l2) : Turn P w K (.Tuple es k pt) (Itz K l1 l2) [z, TI, TO, i1, i2] z
    (fun i h => IsZip h z TI TO .none ∧ IsPair h TI (.ref i1) (.ref i2) ∧ (∃ a b, IsPair h TO a b) ∧ h.IsListIter i1 l1 i ∧ h.IsListIter i2 l2 i) where
  mem := by simp
  obj := fun i h ⟨hz, hTI, ⟨a, b, hTO⟩, h1, h2⟩ c hc => by
    simp only [List.mem_cons, List.not_mem_nil, or_false] at hc
    rcases hc with rfl | rfl | rfl | rfl | rfl
    · exact ⟨_, hz, fun v e => by cases e⟩
    · exact ⟨_, hTI, fun v e => by cases e⟩
    · exact ⟨_, hTO, fun v e => by cases e⟩
    · obtain ⟨o, e, c, d⟩ := h1
      exact ⟨o, e, fun v q => by rw [d] at q; cases q⟩
    · obtain ⟨o, e, c, d⟩ := h2
      exact ⟨o, e, fun v q => by rw [d] at q; cases q⟩
  keep := fun i h h' ⟨hz, hTI, ⟨a, b, hTO⟩, h1, h2⟩ kp => ⟨kp z (by simp) _ hz, kp TI (by simp) _ hTI, ⟨a, b, kp TO (by simp) _ hTO⟩, h1.at fun o q => kp i1 (by simp) o q, h2.at fun o q => kp i2 (by simp) o q⟩
  item := by
    intro X hP hw hK hc i pins s σ H E I hf ⟨hz, hTI, ⟨a, b, hTO⟩, h1, h2⟩ hg
    subst hP hw hK
    obtain ⟨xs, ys, x, y, hq1, hq2, hx, hy⟩ := hg
    obtain ⟨its1, rv1, p1, _⟩ := I.list hq1
    obtain ⟨its2, rv2, p2, _⟩ := I.list hq2
    obtain ⟨u1, hu1, ru1⟩ := rv1.get hx
    obtain ⟨u2, hu2, ru2⟩ := rv2.get hy
    have lt : ∀ {c o}, s.heap.get? c = some o → c ≠ s.heap.objs.size := fun e => Nat.ne_of_lt (Heap.lt_size e)
    have lti1 : i1 ≠ s.heap.objs.size := by obtain ⟨o, q, _⟩ := h1; exact lt q
    have lti2 : i2 ≠ s.heap.objs.size := by obtain ⟨o, q, _⟩ := h2; exact lt q
    refine wpAny_pyNext_zip_item D hz hTI hTO h1 h2 p1.isList p2.isList (x := u1) (y := u2) (by simpa using hu1) (by simpa using hu2) fun h' a1 a2 a3 a4 a5 a6 hk => ?_
    refine ⟨.ref s.heap.objs.size, rfl, ?_⟩
    have I1 : Inv X pins σ (upd H s.heap.objs.size (.tup [x, y])) { s with heap := s.heap.push { cls := .type "tuple", data := .seq #[u1, u2] } } :=
      I.laid (t' := s.toks) (fun b o q => Heap.get?_push_of_some _ q) (Nat.le_refl _) ⟨by simp [sizeLine_eq], [u1, u2], .cons ru1 (.cons ru2 .nil), PyProof.Rows.IsTup.new _ _⟩
    have hfree := I.hok.fresh (Nat.le_refl s.heap.objs.size)
    have hne : ∀ c ∈ [z, TI, TO, i1, i2], c ≠ s.heap.objs.size := fun c hc => by
      simp only [List.mem_cons, List.not_mem_nil, or_false] at hc
      rcases hc with rfl | rfl | rfl | rfl | rfl
      · exact lt hz
      · exact lt hTI
      · exact lt hTO
      · exact lti1
      · exact lti2
    have hf1 : ∀ c ∈ [z, TI, TO, i1, i2], FpOk X pins (upd H s.heap.objs.size (.tup [x, y])) c := fun c hc => ⟨by rw [upd_ne (hne c hc)]; exact (hf c hc).1, (hf c hc).2⟩
    refine wpAny_letOwnedTupleGo_zip (s := { s with heap := h' }) a1 fun h2' hz' hs' => ?_
    have hTI' : IsPair h' TI (.ref i1) (.ref i2) := hk _ _ D.TIz D.TITO D.TIi1 D.TIi2 hTI
    refine ⟨.ref s.heap.objs.size, _, turnedL (t' := s.toks) (s := { s with heap := s.heap.push { cls := .type "tuple", data := .seq #[u1, u2] } }) (ch := [z, TI, TO, i1, i2]) I1 (fun c o hc q => ?_) hf1, rfl, ⟨x, y, s.heap.objs.size, fun zs hz => by rw [I.list_inj hz hq1]; exact hx, fun zs hz => by rw [I.list_inj hz hq2]; exact hy, hfree, rfl, rfl⟩, ⟨hz', hs'.extBut _ _ D.TIz hTI', ⟨_, _, hs'.extBut _ _ D.TOz a2⟩, a3.extBut hs'.extBut D.i1z, a4.extBut hs'.extBut D.i2z⟩, fun c hc => (hf1 c hc).1⟩
    have c1 : c ≠ z := fun q => hc (by simp [q])
    have c2 : c ≠ TO := fun q => hc (by simp [q])
    have c3 : c ≠ i1 := fun q => hc (by simp [q])
    have c4 : c ≠ i2 := fun q => hc (by simp [q])
    refine hs'.extBut _ _ c1 ?_
    by_cases hcs : c = s.heap.objs.size
    · subst hcs
      have := Heap.get?_push_size (o := { cls := .type "tuple", data := .seq #[u1, u2] }) s.heap rfl
      rw [this] at q; cases q
      exact a5
    · have q' : (s.heap.push { cls := .type "tuple", data := .seq #[u1, u2] }).get? c = some o := q
      refine hk c o c1 c2 c3 c4 ?_
      rwa [Heap.get?_push_ne _ _ _ hcs] at q'
  done := by
    intro X hP hw hK hc i pins s σ H E I hf ⟨hz, hTI, ⟨a, b, hTO⟩, h1, h2⟩ hg
    subst hP hw hK
    obtain ⟨xs, ys, hq1, hq2, hx⟩ := hg
    obtain ⟨its1, rv1, p1, _⟩ := I.list hq1
    obtain ⟨its2, rv2, p2, _⟩ := I.list hq2
    have hl1 := rv1.length
    have hl2 := rv2.length
    refine wpAny_pyNext_zip_end (I.ok.hd hc) D hz hTI hTO h1 h2 p1.isList p2.isList (by
      rcases hx with hx | hx
      · left; simp; omega
      · right; simp; omega) fun h' hk => ⟨rfl, turnedL (t' := s.toks) (ch := [z, TI, TO, i1, i2]) I (fun c o hc q => hk c o (fun e => hc (by simp [e])) (fun e => hc (by simp [e])) (fun e => hc (by simp [e])) (fun e => hc (by simp [e])) q) hf⟩
  self := fun _ _ _ _ _ ⟨hz, _⟩ h => wpAny_pyIter_zip hz h
noncomputable def vZip (d e : D) : View := fun G i => match seqOf G d, seqOf G e with
  | some (.lst xs), some (.lst ys) => some (match xs[i]?, ys[i]? with
    | some x, some y => some (.tup [x, y])
    | _, _ => none)
  | _, _ => none
noncomputable def iZip (m : DS → M (List D)) : MI := fun τ => (m τ).bind fun ds => match ds with
  | [d, e] => fun G => match seqOf G d, seqOf G e with
    | some (.lst xs), some (.lst ys) => .ok (min xs.length ys.length + 1, vZip d e) G
    | _, _ => .stuck
  | _ => M.stop
theorem boot_zip : bootBuiltins "zip" = some (.type "zip") := by decide +kernel
section
variable {X : Cx} {EE : EXK} {tg iter a b : Expr} {g : TgD} {mi : MI} {ms : MS} {pos p pc : Pos} {m : DS → M (List D)}
theorem jv_zip {H : Hp} {ρ : List Addr} {d e : D} {l1 l2 : Addr} (r1 : Rep X.K X.mg ρ H d (.ref l1)) (r2 : Rep X.K X.mg ρ H e (.ref l2)) : JV X.K X.mg (Itz X.K l1 l2) (vZip d e) H ρ := by
  intro i H' ρ' G' f hp
  unfold vZip
  cases q1 : seqOf G' d with
  | none => exact ⟨fun e => (by cases e), fun x e => (by cases e)⟩
  | some s1 =>
    cases q2 : seqOf G' e with
    | none => cases s1 <;> exact ⟨fun e => (by cases e), fun x e => (by cases e)⟩
    | some s2 =>
      cases s1 with
      | tup zs => exact ⟨fun e => (by cases e), fun x e => (by cases e)⟩
      | str z => exact ⟨fun e => (by cases e), fun x e => (by cases e)⟩
      | lst zs =>
        cases s2 with
        | tup ws => exact ⟨fun e => (by cases e), fun x e => (by cases e)⟩
        | str w => exact ⟨fun e => (by cases e), fun x e => (by cases e)⟩
        | lst ws =>
          dsimp only
          obtain ⟨xs, sq1, rs1⟩ := lst_at f r1 hp q1
          obtain ⟨ys, sq2, rs2⟩ := lst_at f r2 hp q2
          have l1e := rs1.length
          have l2e := rs2.length
          cases h1 : zs[i]? with
          | none =>
            refine ⟨fun _ => ⟨xs, ys, sq1, sq2, .inl ?_⟩, fun x e => (by cases e)⟩
            rw [List.getElem?_eq_none_iff] at h1; omega
          | some x =>
            cases h2 : ws[i]? with
            | none =>
              refine ⟨fun _ => ⟨xs, ys, sq1, sq2, .inr ?_⟩, fun x e => (by cases e)⟩
              rw [List.getElem?_eq_none_iff] at h2; omega
            | some y =>
              refine ⟨fun e => (by cases e), fun t e => ?_⟩
              cases e
              obtain ⟨v1, hv1, rv1⟩ := rs1.get h1
              obtain ⟨v2, hv2, rv2⟩ := rs2.get h2
              refine ⟨⟨xs, ys, v1, v2, sq1, sq2, hv1, hv2⟩, fun v H2 hy => ?_⟩
              obtain ⟨x', y', pp, hx', hy', hfree, rfl, rfl⟩ := hy
              have e1 := hx' xs sq1
              rw [hv1] at e1; cases e1
              have e2 := hy' ys sq2
              rw [hv2] at e2; cases e2
              have ff : Fut X.K H' (upd H' pp (.tup [v1, v2])) ρ' ρ' := fut_new hfree ρ'
              refine ⟨⟨ff, fun G hG => hG.new hfree⟩, ?_⟩
              unfold Rep
              exact ⟨pp, [v1, v2], rfl, .inl (.of upd_same), .cons (rv1.mono ff) (.cons (rv2.mono ff) .nil)⟩
theorem ri_zip {es : List Expr} {k : Nat} {pt : Pos} (hm : X.mg "zip" = none) (hgl : Gl X "zip") (ha : QA X EE [a, b] m) (h : nostars [a, b] = true := by rfl) : QI X EE (.Tuple es k pt) (.Call (.Name "zip" p) [a, b] [] pc) (iZip m) := by
  have h' : nostar a = true ∧ nostars [b] = true := by simpa [nostars] using h
  intro pins s σ H R I hq
  obtain ⟨τ, ρ, G, ab, ok⟩ := hq
  dsimp only [iZip, M.bind] at ok
  refine wpAny_Call_Name_kw (ld_blt I hgl hm boot_zip ?_ (by decide) (by decide))
  have hA : liftA X.K X.mg EE m σ H fun vs H1 => ∃ ρ1 G1 ds, Ab X.K X.mg σ H1 τ ρ1 G1 ∧ Fut X.K H H1 ρ ρ1 ∧ Reps X.K X.mg ρ1 H1 ds vs ∧ m τ G = .ok ds G1 := by
    refine ⟨τ, ρ, G, ab, ?_⟩
    cases e : m τ G with
    | stuck => rw [e] at ok; exact ok
    | exn c G' => rw [e] at ok; exact ok
    | ok ds G' => exact fun vs H' ρ' f ab' r => ⟨ρ', G', ds, ab', f, r, rfl⟩
  refine PyProof.Rows.callWith_type1 (thn (ha pc pins s σ H _ I hA) fun us s1 hus => ?_) (star_of h'.1 _ _) (stars_any h'.2)
  obtain ⟨vs, H1, I1, r1, ρ1, G1, ds, ab1, f1, rs, em⟩ := hus
  rw [em] at ok
  dsimp only at ok
  match ds, rs, ok with
  | [], _, ok => exact ok.elim
  | [_], _, ok => exact ok.elim
  | _ :: _ :: _ :: _, _, ok => exact ok.elim
  | [d, e], rs, ok =>
    unfold Reps at rs
    obtain ⟨x, rest, rfl, rx, rs⟩ := rs
    obtain ⟨y, rfl, ry⟩ := reps1 rs
    cases r1 with
    | cons ru rr =>
    rename_i u us'
    obtain ⟨u2, rfl, ru2⟩ := vals1 rr
    dsimp only at ok
    cases q : seqOf G1 d with
    | none => rw [q] at ok; exact ok.elim
    | some sk =>
      cases q2 : seqOf G1 e with
      | none => rw [q, q2] at ok; cases sk <;> exact ok.elim
      | some sk2 =>
        rw [q, q2] at ok
        cases sk with
        | tup zs => exact ok.elim
        | str z => exact ok.elim
        | lst zs =>
          cases sk2 with
          | tup zs => exact ok.elim
          | str z => exact ok.elim
          | lst ws =>
            dsimp only at ok
            obtain ⟨l, ys, rfl, sq, rv⟩ := seqOf_lst (pins := pins) (σ0 := σ) (s := s1) ab1.hp rx q
            obtain ⟨l2, ys2, rfl, sq2, rv2⟩ := seqOf_lst (pins := pins) (σ0 := σ) (s := s1) ab1.hp ry q2
            cases ru
            cases ru2
            obtain ⟨its, vv, pl, hz⟩ := I1.list sq
            obtain ⟨its2, vv2, pl2, hz2⟩ := I1.list sq2
            refine call_zip_2 pl.isList pl2.isList fun h2 b1 b2 b3 b4 b5 hsz kp => ?_
            refine wpAny_pyIter_zip (s := { s1 with heap := h2 }) b1 ?_
            have I2 : Inv X pins σ H1 { s1 with heap := h2 } := I1.kept (t' := s1.toks) kp
            have ll : l < s1.heap.objs.size := by obtain ⟨o, n, e, _⟩ := pl; exact Heap.lt_size e
            have ll2 : l2 < s1.heap.objs.size := by obtain ⟨o, n, e, _⟩ := pl2; exact Heap.lt_size e
            have ll' : (l : Nat) < s1.heap.objs.size := ll
            have ll2' : (l2 : Nat) < s1.heap.objs.size := ll2
            have D : ZipApart (s1.heap.objs.size + 4) (s1.heap.objs.size + 2) (s1.heap.objs.size + 3) s1.heap.objs.size (s1.heap.objs.size + 1) l l2 := by
              constructor <;> (intro q; simp only [Addr] at *; omega)
            refine ⟨s1.heap.objs.size + 4, _, _, Itz X.K l l2, H1, rfl, I2, turn_zip l l2 _ _ _ _ _ D, ⟨b1, b2, ⟨_, _, b3⟩, b4, b5⟩, fun c hc => ?_, ok _ H1 ρ1 f1 ab1 (jv_zip rx ry)⟩
            have hge : s1.heap.objs.size ≤ c := by
              simp only [List.mem_cons, List.not_mem_nil, or_false] at hc
              rcases hc with rfl | rfl | rfl | rfl | rfl <;> omega
            exact I1.fpOk hge (I1.hok.fresh hge)
end
end L3
end
section
set_option Elab.async false
set_option linter.all false
set_option maxRecDepth 100000
namespace L3
open PySem PySem.Spec L2 PyProof.Rows
section
variable {X : Cx} {EE : EXK} {a b e : Expr} {ma mb : DS → M D} {pos : Pos}
theorem op_catL : OpR X (binaryOp .Add) (fun x y H Q => ∃ l b xs zs, x = .ref l ∧ y = .ref b ∧ SqL X.K H l xs ∧ SqL X.K H b zs ∧ xs.length + zs.length ≤ sizeLine ∧ ∀ p, H p = none → Q (.ref p) (upd H p (.lst (xs ++ zs)))) := by
  intro pins s σ H x y v u Q I rx ry h
  obtain ⟨l, b, xs, zs, rfl, rfl, hH, hB, hz, q⟩ := h
  cases rx
  cases ry
  obtain ⟨its, r, ⟨o, n, e, c, dn, d⟩, hl⟩ := I.list hH
  obtain ⟨its2, r2, ⟨o2, n2, e2, c2, dn2, d2⟩, hl2⟩ := I.list hB
  obtain ⟨cls, dd, data, sl⟩ := o
  obtain ⟨cls2, dd2, data2, sl2⟩ := o2
  simp only at c dn d c2 dn2 d2
  subst c dn d c2 dn2 d2
  have hlen := r.length
  have hlen2 := r2.length
  have ea : its.toArray ++ its2.toArray = (its ++ its2).toArray := by simp
  refine concat_meets ⟨_, e, rfl⟩ ⟨_, e2, rfl⟩ noFill_list_add seq_list_add PySem.F.slot_list_add PySem.F.entry_list_add (PySem.F.args_list_add_2 _ _) (list_addW l b its.toArray its2.toArray n n2 _ _ sl sl2 (by simp only [List.size_toArray]; omega)) ⟨e, e2, ?_⟩
  rw [ea]
  exact ⟨.ref _, _, I.lnew (t' := s.toks) (r.append r2) (by rw [List.length_append]; omega), rfl, q _ I.fresh⟩
theorem op_catE : OpR X (binaryOp .Add) (fun x y H Q => ∃ a b ys, x = .ref a ∧ y = .ref b ∧ SqT X.K H a [] ∧ SqT X.K H b ys ∧ Q (.ref b) H) := by
  intro pins s σ H x y v u Q I rx ry h
  obtain ⟨a, b, ys, rfl, rfl, ha, hb, q⟩ := h
  cases rx
  cases ry
  obtain ⟨its, r1, p1, _⟩ := I.tuple ha
  obtain ⟨its2, r2, p2, _⟩ := I.tuple hb
  have e0 : its = [] := by cases r1; rfl
  subst e0
  obtain ⟨⟨cls, dd, data, sl⟩, ho, hc, n, hd⟩ := id p1
  obtain ⟨⟨cls2, dd2, data2, sl2⟩, ho2, hc2, n2, hd2⟩ := id p2
  simp only at hc hd hc2 hd2
  subst hc hd hc2 hd2
  exact concat_meets ⟨_, ho, rfl⟩ ⟨_, ho2, rfl⟩ noFill_tuple_add seq_tuple_add PySem.F.slot_tuple_add PySem.F.entry_tuple_add (PySem.F.args_tuple_add_2 _ _)
      (tuple_addW0 a b _ _ n n2 dd dd2 sl sl2 (by simp)) ⟨ho, ho2, ⟨.ref b, H, I, rfl, q⟩⟩
noncomputable def lsOf (G : DH) : D → Option (List D)
  | .con xs => some xs
  | .obj n => match G[n]? with
    | some (.lst xs) => some xs
    | _ => none
  | _ => none
theorem lsOf_seq {G : DH} {d : D} {xs : List D} (h : lsOf G d = some xs) : seqOf G d = some (.lst xs) := by
  cases d with
  | con ys => cases h; rfl
  | obj n =>
    dsimp only [lsOf] at h
    dsimp only [seqOf]
    cases g : G[n]? with
    | none => rw [g] at h; cases h
    | some o =>
      cases o with
      | dead => rw [g] at h; cases h
      | dct kv => rw [g] at h; cases h
      | lst ys => rw [g] at h; cases h; rfl
  | _ => cases h
noncomputable def dAddX (d e : D) : M D := fun G => match d, e with
  | .int i, .int j => .ok (.int (i + j)) G
  | .str i, .str j => if i.length + j.length ≤ sizeLine then .ok (.str (i ++ j)) G else .stuck
  | .tup [], .tup ys => .ok (.tup ys) G
  | .tup (x :: xs), .tup ys => dTup (x :: xs ++ ys) G
  | d, e => match lsOf G d, lsOf G e with
    | some xs, some ys => dNew (xs ++ ys) G
    | _, _ => .stuck
theorem op_addX : OpR X (binaryOp .Add) (rD X EE dAddX) := by
  intro pins s σ0 H x y v u Q I rx ry ⟨σ, τ, ρ, G, d, e, ab, r1, r2, ok⟩
  have lists : ∀ xs ys, lsOf G d = some xs → lsOf G e = some ys → OkE X.K X.mg EE H σ τ ρ (dNew (xs ++ ys) G) Q → wpAny (model X.prog X.w) X.A (binaryOp .Add v u) (EP X pins σ0 Q) X.xe s := fun xs ys h1 h2 ok => by
    obtain ⟨l, vs, rfl, s1, t1⟩ := seqOf_lst (pins := pins) (σ0 := σ0) (s := s) ab.hp r1 (lsOf_seq h1)
    obtain ⟨l2, ws, rfl, s2, t2⟩ := seqOf_lst (pins := pins) (σ0 := σ0) (s := s) ab.hp r2 (lsOf_seq h2)
    obtain ⟨hl, q1⟩ := new_ok ab (t1.append t2) ok
    rw [List.length_append] at hl
    exact op_catL pins s σ0 H _ _ v u Q I rx ry ⟨l, l2, vs, ws, rfl, rfl, s1, s2, hl, q1⟩
  have rest : (OkE X.K X.mg EE H σ τ ρ (match lsOf G d, lsOf G e with
    | some xs, some ys => dNew (xs ++ ys) G
    | _, _ => .stuck) Q) → wpAny (model X.prog X.w) X.A (binaryOp .Add v u) (EP X pins σ0 Q) X.xe s := fun ok => by
    cases h1 : lsOf G d with
    | none => rw [h1] at ok; exact ok.elim
    | some xs =>
      cases h2 : lsOf G e with
      | none => rw [h1, h2] at ok; exact ok.elim
      | some ys => rw [h1, h2] at ok; exact lists xs ys h1 h2 ok
  cases d with
  | int i =>
    cases e with
    | int j =>
      unfold Rep at r1 r2; subst r1 r2
      exact op_add pins s σ0 H _ _ v u Q I rx ry ⟨i, j, rfl, rfl, ok _ H ρ .refl ab (by unfold Rep; rfl)⟩
    | _ => exact rest ok
  | str i =>
    cases e with
    | str j =>
      unfold Rep at r1 r2; subst r1 r2
      dsimp only [dAddX] at ok
      by_cases h : i.length + j.length ≤ sizeLine
      · rw [if_pos h] at ok
        exact op_add_str pins s σ0 H _ _ v u Q I rx ry ⟨i, j, rfl, rfl, h, ok _ H ρ .refl ab (by unfold Rep; rfl)⟩
      · rw [if_neg h] at ok; exact ok.elim
    | _ => exact rest ok
  | tup xs =>
    cases e with
    | tup ys =>
      have r2' := r2
      unfold Rep at r1 r2
      obtain ⟨p, vs, rfl, s1, t1⟩ := r1
      obtain ⟨q, ws, rfl, s2, t2⟩ := r2
      cases xs with
      | nil =>
        have hv : vs = [] := by have := t1.length; cases vs with | nil => rfl | cons _ _ => simp at this
        subst hv
        exact op_catE pins s σ0 H _ _ v u Q I rx ry ⟨p, q, ws, rfl, rfl, s1, s2, ok _ H ρ .refl ab r2'⟩
      | cons x xs =>
        have ok' : OkE X.K X.mg EE H σ τ ρ (dTup (x :: xs ++ ys) G) Q := ok
        have t12 := t1.append t2
        obtain ⟨hl, q1⟩ := tup_ok ab t12 ok'
        rw [List.length_append] at hl
        have hv : vs ≠ [] := by
          intro z; subst z
          have := t1.length
          simp at this
        refine op_catT pins s σ0 H _ _ v u Q I rx ry ⟨p, q, vs, ws, rfl, rfl, s1, s2, hv, hl, fun z => ?_, fun z p hp => q1 p hp⟩
        subst z
        have hy : ys = [] := by
          have := t2.length
          cases ys with
          | nil => rfl
          | cons _ _ => simp at this
        subst hy
        unfold dTup at ok'
        split at ok'
        · exact ok' _ H ρ .refl ab (by rw [List.append_nil]; unfold Rep; exact ⟨p, vs, rfl, s1, t1⟩)
        · exact ok'.elim
    | _ => cases xs <;> exact rest ok
  | _ => exact rest (by cases e <;> exact ok)
theorem qe_addX (ha : QE X EE a ma) (hb : QE X EE b mb) : QE X EE (.BinOp a .Add b pos) (eOp dAddX ma mb) := qe_op op_addX opD_self ha hb
theorem sp_frz {pins : List (Addr × Obj)} {Dd D' : Ends} {f : Flow} {s : Shared} (h : SP X pins D' f s) (hb : D'.bk = Dd.bk) (hc : D'.ct = Dd.ct) (hr : D'.rt = Dd.rt)
    (hq : ∀ σ H, D'.nx σ H → Dd.nx σ H ∨ ∃ a xs, H a = some (.lst xs) ∧ ∀ o, Dd.nx σ (upd H a (.frz o (.lst xs)))) : SP X pins Dd f s := by
  obtain ⟨nx, bk, ct, rt⟩ := D'
  subst hb hc hr
  cases f with
  | next =>
    obtain ⟨σ', H', I, q⟩ := h
    rcases hq σ' H' q with q | ⟨a, xs, e, q⟩
    · exact ⟨σ', H', I, q⟩
    · obtain ⟨o, I'⟩ := inv_frz I e
      exact ⟨σ', _, I', q o⟩
  | _ => exact h
theorem rs_fn {st : Stmt} {i : Nat} {m : DS → M D} (hs : QS X EE st (sSet i m)) : QS X EE st (sSet i (eFn m)) := by
  intro pins s σ H Dd I ⟨τ, ρ, G, ab, ok⟩
  dsimp only [sSet, sBind, eFn] at ok
  cases q : m τ G with
  | stuck => rw [q] at ok; exact ok.elim
  | exn c G' => rw [q] at ok; exact hs pins s σ H Dd I ⟨τ, ρ, G, ab, by dsimp only [sSet, sBind]; rw [q]; exact ok⟩
  | ok d G' =>
    rw [q] at ok
    by_cases hd : ∃ n, d = .obj n
    · obtain ⟨n, rfl⟩ := hd
      dsimp only at ok
      cases g : G'[n]? with
      | none => rw [g] at ok; exact ok.elim
      | some o =>
        rw [g] at ok
        cases o with
        | dead => exact ok.elim
        | dct kv => exact ok.elim
        | lst ds =>
          dsimp only at ok
          by_cases hc : n = G.length ∧ G'.length = n + 1 ∧ hbeq (G'.take G.length) G = true ∧ closedL ds = true
          · rw [if_pos hc] at ok
            obtain ⟨hn0, hl, hb, hcl⟩ := hc
            refine thn (hs pins s σ H { Dd with nx := fun σ' H' => ∃ a xs, H' a = some (.lst xs) ∧ ∀ o, Dd.nx σ' (upd H' a (.frz o (.lst xs))) } I ⟨τ, ρ, G, ab, ?_⟩) fun u s' h => sp_frz h rfl rfl rfl fun σ' H' q => .inr q
            dsimp only [sSet, sBind]
            rw [q]
            intro σ' H' ρ' f ab'
            obtain ⟨a, xs, e1, e2, rs⟩ := ab'.hp.lst g
            refine ⟨a, xs, e2, fun ob => ?_⟩
            have f2 : Fut X.K H' (upd H' a (.frz ob (.lst xs))) ρ' ρ' := fut_frz e2 ρ'
            have f3 : Fut X.K H (upd H' a (.frz ob (.lst xs))) ρ ρ := ⟨fun b ys w => f2.tup b ys (f.tup b ys w), fun b ys w => f2.con b ys (f.con b ys w), ⟨[], by simp⟩, fun b φ w => f2.ext b φ (f.ext b φ w)⟩
            have hcut : HAb X.K X.mg (upd H' a (.frz ob (.lst xs))) ρ G := ab.hp.cut f.pre (ab'.hp.frz (o := ob) e1 e2) (by
              rw [List.take_set_of_le (by omega)]
              exact hbeq_eq _ _ hb)
            refine ok σ' _ ρ f3 ⟨⟨by rw [ab'.st.1]; simp, fun j dj ej => ?_⟩, hcut⟩
            by_cases hij : i = j
            · subst hij
              by_cases hi : i < τ.length
              · rw [List.getElem?_set, if_pos rfl, if_pos hi] at ej
                cases ej
                obtain ⟨vv, ev, rv⟩ := ab'.st.2 i (.obj n) (by rw [List.getElem?_set, if_pos rfl, if_pos hi])
                unfold Rep at rv
                obtain ⟨a', rfl, hn'⟩ := rv
                rw [e1] at hn'; cases hn'
                refine ⟨_, ev, ?_⟩
                unfold Rep
                exact ⟨a, xs, rfl, .inl ⟨ob, upd_same⟩, closed_reps ds xs hcl (rs.mono f2)⟩
              · rw [List.getElem?_set, if_pos rfl, if_neg hi] at ej; cases ej
            · have ej0 := ej
              rw [List.getElem?_set_ne hij] at ej
              obtain ⟨v', ev', rv'⟩ := ab'.st.2 j dj (by rw [List.getElem?_set_ne hij]; exact ej)
              obtain ⟨v0, ev0, rv0⟩ := ab.st.2 j dj ej
              exact ⟨v', ev', Rep.back f.pre dj v0 v' rv0 (rv'.mono f2)⟩
          · rw [if_neg hc] at ok; exact ok.elim
    · have ok' : OkS X.K X.mg EE H ρ Dd (.nx (τ.set i (some d)) G') := by
        cases d <;> first | exact ok | exact absurd ⟨_, rfl⟩ hd
      exact hs pins s σ H Dd I ⟨τ, ρ, G, ab, by dsimp only [sSet, sBind]; rw [q]; exact ok'⟩
theorem extend_any (l : Addr) (items : Array Value) (n : Nat) (b : Addr) (items2 : Array Value) (n2 : Nat) (sl2 : Array (Option Value)) (hc0 : ¬(!items.isEmpty && Builtin.List.listTooLong (items.size + items2.size)) = true) (hc1 : items.size ≤ sizeLine) (hs2 : items.size + items2.size ≤ sizeLine + 1) :
    Meets (Builtin.«list.extend» ⟨[.ref l, .ref b], []⟩) (fun _ R s => s.heap.get? l = some { cls := .type "list", dict := none, data := .seq items n, slots := #[] } ∧ s.heap.get? b = some { cls := .type "list", dict := none, data := .seq items2 n2, slots := sl2 } ∧ R (.ok (.ret Value.none)) { s with heap := s.heap.update l (Obj.mapSeq fun x => x ++ items2), toks := s.toks }) :=
  .of_wp fun prog w A R s h => by
    obtain ⟨hp, g, d, tk, os⟩ := s; obtain ⟨hl, hb, h⟩ := h; have f1 := AutoSeq1.idx_int; have f2 := AutoSeq1.sub_tuple_tuple; have f3 := AutoSeq1.sub_list_list; have f4 := AutoSeq1.sub_tuple_list; have f5 := AutoSeq1.sub_list_tuple;
    have hz' : (items ++ items2).size ≤ sizeLine + 1 := by rw [Array.size_append]; exact hs2
    wp_walk using (wpAny_updateSeq hl rfl (hz := hc1) (_hz' := hz')), wpAny_loadPart' hl, wpAny_loadPart' hb; exact ⟨_, rfl, h⟩
theorem mt_extendL : MtR X "list.extend" (fun x vs H Q => ∃ l b xs zs, x = .ref l ∧ vs = [.ref b] ∧ H l = some (.lst xs) ∧ SqL X.K H b zs ∧ xs.length + zs.length ≤ sizeLine ∧ Q .non (upd H l (.lst (xs ++ zs)))) := by
  intro pins s σ H x vs v us Q I rx rv h
  obtain ⟨l, b, xs, zs, rfl, rfl, hH, hB, hz, q⟩ := h
  cases rx
  obtain ⟨u, rfl, ru⟩ := rv.one
  cases ru
  obtain ⟨z, its, n, r, hl, e⟩ := I.lstM hH
  obtain ⟨its2, r2, ⟨o2, n2, e2, c2, dn2, d2⟩, _⟩ := I.list hB
  obtain ⟨cls2, dd2, data2, sl2⟩ := o2
  simp only at c2 dn2 d2
  subst c2 dn2 d2
  have hl2 := r2.length
  have hsz : its.toArray.size + its2.toArray.size ≤ sizeLine := by rw [List.size_toArray, List.size_toArray]; omega
  have hlong : ¬ (!its.toArray.isEmpty && Builtin.List.listTooLong (its.toArray.size + its2.toArray.size)) = true := by
    rw [notLongL hsz, Bool.and_false]
    exact Bool.false_ne_true
  refine call_meets F.slot_list_extend ⟨_, e, rfl⟩ F.entry_list_extend (F.args_list_extend_2 _ _)
    (extend_any l its.toArray n b its2.toArray n2 sl2 hlong (by rw [List.size_toArray]; omega) (by omega)) ⟨e, e2, ?_⟩
  refine ⟨.non, _, I.lset (its' := its ++ its2) hH e (by simp) (r.append r2) ?_, rfl, q⟩
  rw [List.length_append]
  omega
noncomputable def dExtX : D → List D → M D
  | .obj n, [y] => fun G => match G[n]?, lsOf G y with
    | some (.lst xs), some ys => if xs.length + ys.length ≤ sizeLine then .ok .non (G.set n (.lst (xs ++ ys))) else .stuck
    | _, _ => .stuck
  | _, _ => M.stop
theorem mt_extX : MtR X "list.extend" (rMD X EE dExtX) := by
  intro pins s σ0 H x xs v us Q I rx rxs ⟨σ, τ, ρ, G, d, ds, ab, rd, rds, ok⟩
  cases d <;> try exact ok.elim
  rename_i n
  match ds, ok with
  | [], ok => exact ok.elim
  | a :: _ :: _, ok => exact ok.elim
  | [y], ok =>
    obtain ⟨yv, rfl, ry⟩ := reps1 rds
    unfold Rep at rd
    obtain ⟨p, rfl, e1⟩ := rd
    dsimp only [dExtX] at ok
    cases g : G[n]? with
    | none => rw [g] at ok; exact ok.elim
    | some o =>
      cases g2 : lsOf G y with
      | none => rw [g, g2] at ok; cases o <;> exact ok.elim
      | some ys =>
        rw [g, g2] at ok
        cases o with
        | dead => exact ok.elim
        | dct kv => exact ok.elim
        | lst zs =>
          dsimp only at ok
          obtain ⟨p', vs, e3, hp, rs⟩ := ab.hp.lst g
          rw [e1] at e3; cases e3
          obtain ⟨p2, ws, rfl, s2, rs2⟩ := seqOf_lst (pins := pins) (σ0 := σ0) (s := s) ab.hp ry (lsOf_seq g2)
          by_cases hz : zs.length + ys.length ≤ sizeLine
          · rw [if_pos hz] at ok
            exact mt_extendL pins s σ0 H _ _ v us Q I rx rxs ⟨p, p2, vs, ws, rfl, rfl, hp, s2, by rw [← rs.length, ← rs2.length]; exact hz, put_ok (xs := zs) ab e1 hp (rs.append rs2) (fun _ _ => by unfold Rep; rfl) ok⟩
          · rw [if_neg hz] at ok; exact ok.elim
theorem re_extX {o : Expr} {apos cpos : Pos} {mo : DS → M D} {m : DS → M (List D)} (ho : QE X EE o mo) (ha : QA X EE [e] m) (hb : nobase o = true := by rfl) (h : nostars [e] = true := by rfl) (hline : (apos.endLine == cpos.line) = true := by rfl) : QE X EE (.Call (.Attribute o "extend" apos) [e] [] cpos) (eMethT "list" dExtX mo m) := by
  have h' : nostar e = true ∧ nostars [] = true := by simpa [nostars] using h
  exact qe_bm F.plainAttrs_list F.slot_list_extend F.type_list_extend mt_extX ho ha (base_of hb _ _) (few_of h (by simp)) hline (star_of h'.1 _ _) (stars_any (es := []) rfl)
end
end L3
end
section
set_option Elab.async false
set_option linter.all false
set_option maxRecDepth 100000
namespace L3
open PySem PySem.Spec L2 PyProof.Rows
noncomputable def Its3 (lo st : Int) (n : Nat) : It := ⟨fun i _ => i < n, fun i H x H' => H' = H ∧ x = .int (lo + (i : Int) * st), fun i _ => n ≤ i⟩
theorem turn_range3 {P : Program} {w : World} {K : PySem.W.Frag} {tg : Expr} (it : Addr) (lo c : Int) (n : Nat) : Turn P w K tg (Its3 lo c n) [it] it (fun i h => IsRangeIter h it (lo + (i : Nat) * c) ((n : Int) - (i : Nat)) c) where
  mem := by simp
  obj := fun i h st b hb => by
    have e : b = it := by simpa using hb
    subst e
    exact ⟨_, st, fun v z => by
      have z' : Data.fields _ = Data.cell v := z
      cases z'⟩
  keep := fun i h h' st k => k it (by simp) _ st
  item := by
    intro X hP hw hK hc i pins s σ H E I hf st hg
    subst hP hw hK
    obtain ⟨f0, f1, f2, f3, f4, f5⟩ := hf it (by simp)
    have W := Walks.range (prog := X.prog) (w := X.w) (I.ok.hd hc) it lo c n
    refine W.item i s _ _ hg st fun v h' tk hv st' kk => ?_
    obtain ⟨t, rfl⟩ := hv
    have I1 : Inv X pins σ H { s with heap := h', toks := tk } := I.turned (fun b o hb e => kk b o (by simpa using hb) e) f0 f1 f3 f4 f5
    exact ⟨_, rfl, go_of (s := { s with heap := h', toks := tk }) (n := "range_iterator") st' rfl rfl (by decide) ⟨.int (lo + i * c), H, I1, ⟨t, rfl⟩, ⟨rfl, rfl⟩, st', fun b hb => (hf b hb).1⟩⟩
  done := by
    intro X hP hw hK hc i pins s σ H E I hf st hg
    subst hP hw hK
    obtain ⟨f0, f1, f2, f3, f4, f5⟩ := hf it (by simp)
    exact wpAny_pyNext_range_end (I.ok.hd hc) st (by have : n ≤ i := hg; omega) fun h' eb => ⟨rfl, I.turned (t' := s.toks) (fun b o hb e => eb b o hb e) f0 f1 f3 f4 f5⟩
  self := fun _ _ _ _ _ st h => wpAny_pyIter_rangeiter st h
noncomputable def rngN (lo hi c : Int) : Nat := if lo < hi then ((hi - lo - 1) / c + 1).toNat else 0
noncomputable def vRng (lo c : Int) (n : Nat) : View := fun _ i => some (if i < n then some (.int (lo + (i : Int) * c)) else none)
noncomputable def ints3 : List D → Option (Int × Int × Int)
  | [.int lo, .int hi, .int c] => some (lo, hi, c)
  | _ => none
theorem ints3_eq {ds : List D} {lo hi c : Int} (h : ints3 ds = some (lo, hi, c)) : ds = [.int lo, .int hi, .int c] := by
  unfold ints3 at h
  split at h
  · cases h; rfl
  · cases h
noncomputable def iRng3 (m : DS → M (List D)) : MI := fun τ => (m τ).bind fun ds => match ints3 ds with
  | some (lo, hi, c) => fun G => if -(2 ^ 30) ≤ lo ∧ lo < 2 ^ 30 ∧ -(2 ^ 30) ≤ hi ∧ hi < 2 ^ 30 ∧ 0 < c ∧ c < 2 ^ 30 then .ok (rngN lo hi c + 1, vRng lo c (rngN lo hi c)) G else .stuck
  | none => M.stop
section
variable {X : Cx} {EE : EXK} {tg iter a b c : Expr} {pos p pc : Pos} {m : DS → M (List D)}
theorem jv_rng {H : Hp} {ρ : List Addr} {lo c : Int} {n : Nat} : JV X.K X.mg (Its3 lo c n) (vRng lo c n) H ρ := by
  intro i H' ρ' G' f hp
  unfold vRng
  by_cases h : i < n
  · rw [if_pos h]
    refine ⟨fun e => (by cases e), fun d e => ⟨h, fun x H2 hy => ?_⟩⟩
    cases e
    obtain ⟨rfl, rfl⟩ := hy
    exact ⟨⟨.refl, fun _ h => h⟩, by unfold Rep; rfl⟩
  · rw [if_neg h]
    exact ⟨fun _ => Nat.le_of_not_lt h, fun d e => (by cases e)⟩
theorem small3 {lo hi c : Int} (h1 : -(2 ^ 30) ≤ lo) (h2 : lo < 2 ^ 30) (h3 : -(2 ^ 30) ≤ hi) (h4 : hi < 2 ^ 30) (h5 : 0 < c) (h6 : c < 2 ^ 30) : Builtin.Range.small lo hi c = true := by
  unfold Builtin.Range.small
  have hs : Builtin.Range.rangeSize lo hi c = if lo < hi then (hi - lo - 1) / c + 1 else 0 := by
    unfold Builtin.Range.rangeSize; rw [if_pos h5]
  rw [hs]
  have hd : 0 ≤ hi - lo - 1 → (hi - lo - 1) / c ≤ hi - lo - 1 := fun h => Int.ediv_le_self _ h
  have hd2 : 0 ≤ hi - lo - 1 → 0 ≤ (hi - lo - 1) / c := fun h => Int.ediv_nonneg h (by omega)
  have hm : (hi - lo - 1) / c * c ≤ hi - lo - 1 := Int.ediv_mul_le _ (by omega)
  simp only [Builtin.Range.rangeFitsLong, Bool.and_eq_true, Bool.or_eq_true, decide_eq_true_eq, beq_iff_eq, show c > 0 from h5, if_true]
  split <;> omega
theorem ri_rng3 (hm : X.mg "range" = none) (hgl : Gl X "range") (ha : QA X EE [a, b, c] m) (h : nostars [a, b, c] = true := by rfl) : QI X EE tg (.Call (.Name "range" p) [a, b, c] [] pc) (iRng3 m) := by
  have h' : nostar a = true ∧ nostars [b, c] = true := by simpa [nostars] using h
  intro pins s σ H R I hq
  obtain ⟨τ, ρ, G, ab, ok⟩ := hq
  dsimp only [iRng3, M.bind] at ok
  refine wpAny_Call_Name_kw (ld_blt I hgl hm boot_range ?_ (by decide) (by decide))
  have hA : liftA X.K X.mg EE m σ H fun vs H1 => ∃ ρ1 G1 ds, Ab X.K X.mg σ H1 τ ρ1 G1 ∧ Fut X.K H H1 ρ ρ1 ∧ Reps X.K X.mg ρ1 H1 ds vs ∧ m τ G = .ok ds G1 := by
    refine ⟨τ, ρ, G, ab, ?_⟩
    cases e : m τ G with
    | stuck => rw [e] at ok; exact ok
    | exn c G' => rw [e] at ok; exact ok
    | ok ds G' => exact fun vs H' ρ' f ab' r => ⟨ρ', G', ds, ab', f, r, rfl⟩
  refine PyProof.Rows.callWith_type1 (thn (ha pc pins s σ H _ I hA) fun us s1 hus => ?_) (star_of h'.1 _ _) (stars_any h'.2)
  obtain ⟨vs, H1, I1, r1, ρ1, G1, ds, ab1, f1, rs, em⟩ := hus
  rw [em] at ok
  dsimp only at ok
  cases q : ints3 ds with
  | none => rw [q] at ok; exact ok.elim
  | some x =>
    obtain ⟨lo, hi, c⟩ := x
    rw [q] at ok
    dsimp only at ok
    have e := ints3_eq q
    subst e
    by_cases hc : -(2 ^ 30) ≤ lo ∧ lo < 2 ^ 30 ∧ -(2 ^ 30) ≤ hi ∧ hi < 2 ^ 30 ∧ 0 < c ∧ c < 2 ^ 30
    · rw [if_pos hc] at ok
      obtain ⟨h1, h2, h3, h4, h5, h6⟩ := hc
      simp only [Reps, Rep] at rs
      obtain ⟨v1, w1, rfl, rfl, v2, w2, rfl, rfl, v3, w3, rfl, rfl, rfl⟩ := rs
      cases r1 with
      | cons u1 r1 =>
      cases r1 with
      | cons u2 r1 =>
      cases r1 with
      | cons u3 r1 =>
      cases r1
      obtain ⟨t1, rfl⟩ := u1
      obtain ⟨t2, rfl⟩ := u2
      obtain ⟨t3, rfl⟩ := u3
      refine call_range_3 (by omega) ?_ (.inl (PyProof.noPylong_small (by omega)))
      refine wpAny_pyIter_range (s := { s1 with heap := s1.heap.push { cls := .type "range", data := .fields #[.int lo t1, .int hi t2, .int c t3] }, toks := s1.toks }) (IsRange.new ..) (small3 h1 h2 h3 h4 h5 h6) ?_
      have I2 : Inv X pins σ H1 { s1 with heap := s1.heap.push { cls := .type "range", data := .fields #[.int lo t1, .int hi t2, .int c t3] }, toks := s1.toks } := I1.kept fun b o e => Heap.get?_push_of_some _ e
      refine ⟨_, [_], _, Its3 lo c (rngN lo hi c), H1, rfl, I2.kept (t' := s1.toks) fun b o e => Heap.get?_push_of_some _ e, turn_range3 _ lo c (rngN lo hi c), ?_, fun b hb => ?_, ok _ H1 ρ1 f1 ab1 jv_rng⟩
      · have e1 : lo + ((0 : Nat) : Int) * c = lo := by simp
        have e2 : ((rngN lo hi c : Nat) : Int) - ((0 : Nat) : Int) = Builtin.Range.rangeSize lo hi c := by
          unfold rngN Builtin.Range.rangeSize
          rw [if_pos h5]
          split
          · have : 0 ≤ (hi - lo - 1) / c := Int.ediv_nonneg (by omega) (by omega)
            omega
          · simp
        show IsRangeIter _ _ (lo + ((0 : Nat) : Int) * c) (((rngN lo hi c : Nat) : Int) - ((0 : Nat) : Int)) c
        rw [e1, e2]
        exact Heap.get?_push_size _ rfl
      · rw [List.mem_singleton.mp hb]
        exact I2.fpOk (Nat.le_refl _) (I2.hok.fresh (Nat.le_refl _))
    · rw [if_neg hc] at ok; exact ok.elim
end
end L3
end
section
set_option Elab.async false
set_option linter.all false
set_option maxRecDepth 100000
namespace L3
open PySem PySem.Spec L2
noncomputable def dKey : D → Option Key
  | .int i => some (Sum.inl i)
  | .str x => some (Sum.inr x)
  | _ => none
noncomputable def dVal (kvs : List (Key × D)) (k : Key) : Option D := (kvs.find? fun kv => decide (kv.1 = k)).map (·.2)
noncomputable def dPutK (kvs : List (Key × D)) (k : Key) (v : D) : List (Key × D) :=
  if (kvs.any fun kv => decide (kv.1 = k)) = true then kvs.map (fun kv => if kv.1 = k then (kv.1, v) else kv) else kvs ++ [(k, v)]
section
variable {K : PySem.W.Frag} {mg : Str → Option Value} {H : Hp} {ρ : List Addr} {G : DH}
theorem dVal_rep (k : Key) : ∀ {kvs : List (Key × D)} {xs : List V}, Reps K mg ρ H (kvs.map (·.2)) xs →
    (dVal kvs k = none ∧ valV ((kvs.map (·.1)).zip xs) k = none) ∨ ∃ d v, dVal kvs k = some d ∧ valV ((kvs.map (·.1)).zip xs) k = some v ∧ Rep K mg ρ H d v
  | [], xs, r => .inl ⟨rfl, rfl⟩
  | p :: q, xs, r => by
    unfold Reps at r
    obtain ⟨v, r', rfl, h1, h2⟩ := r
    by_cases e : p.1 = k
    · exact .inr ⟨p.2, v, by simp [dVal, e], by simp [valV, e], h1⟩
    · have ih := dVal_rep k h2
      have e1 : dVal (p :: q) k = dVal q k := by simp [dVal, e]
      have e2 : valV (((p :: q).map (·.1)).zip (v :: r')) k = valV ((q.map (·.1)).zip r') k := valV_neg (p := (p.1, v)) e
      rw [e1, e2]; exact ih
theorem any_rep (k : Key) : ∀ {kvs : List (Key × D)} {xs : List V}, kvs.length = xs.length → (((kvs.map (·.1)).zip xs).any fun kv => decide (kv.1 = k)) = (kvs.any fun kv => decide (kv.1 = k))
  | [], xs, h => by simp
  | p :: q, [], h => by simp at h
  | p :: q, x :: xs, h => by
    have := any_rep k (kvs := q) (xs := xs) (by simpa using h)
    simp [this]
theorem repl_rep (k : Key) {d : D} {v : V} (rv : Rep K mg ρ H d v) : ∀ {kvs : List (Key × D)} {xs : List V}, Reps K mg ρ H (kvs.map (·.2)) xs →
    ∃ ys, (((kvs.map (·.1)).zip xs).map fun kv => if kv.1 = k then (kv.1, v) else kv) = ((kvs.map fun kv => if kv.1 = k then (kv.1, d) else kv).map (·.1)).zip ys ∧ Reps K mg ρ H ((kvs.map fun kv => if kv.1 = k then (kv.1, d) else kv).map (·.2)) ys
  | [], xs, r => ⟨[], by simp, by simpa using Reps.nil⟩
  | p :: q, xs, r => by
    unfold Reps at r
    obtain ⟨x, r', rfl, h1, h2⟩ := r
    obtain ⟨ys, e, rs⟩ := repl_rep k rv h2
    by_cases hk : p.1 = k
    · refine ⟨v :: ys, ?_, ?_⟩
      · simp only [List.map_cons, List.zip_cons_cons, if_pos hk, e]
      · simp only [List.map_cons, if_pos hk]; exact .cons rv rs
    · refine ⟨x :: ys, ?_, ?_⟩
      · simp only [List.map_cons, List.zip_cons_cons, if_neg hk, e]
      · simp only [List.map_cons, if_neg hk]; exact .cons h1 rs
theorem zip_snoc {α β : Type} : ∀ {a : List α} {b : List β} (x : α) (y : β), a.length = b.length → (a ++ [x]).zip (b ++ [y]) = a.zip b ++ [(x, y)]
  | [], [], x, y, _ => rfl
  | [], _ :: _, _, _, h => by simp at h
  | _ :: _, [], _, _, h => by simp at h
  | p :: a, q :: b, x, y, h => by simp [zip_snoc (a := a) (b := b) x y (by simpa using h)]
theorem dPut_rep (k : Key) {d : D} {v : V} (rv : Rep K mg ρ H d v) {kvs : List (Key × D)} {xs : List V} (r : Reps K mg ρ H (kvs.map (·.2)) xs) :
    ∃ ys, putK ((kvs.map (·.1)).zip xs) k v = ((dPutK kvs k d).map (·.1)).zip ys ∧ Reps K mg ρ H ((dPutK kvs k d).map (·.2)) ys := by
  have hl : kvs.length = xs.length := by simpa using r.length
  unfold putK dPutK
  rw [any_rep k hl]
  by_cases e : (kvs.any fun kv => decide (kv.1 = k)) = true
  · rw [if_pos e, if_pos e]; exact repl_rep k rv r
  · rw [if_neg e, if_neg e]
    refine ⟨xs ++ [v], ?_, ?_⟩
    · rw [List.map_append, List.map_cons, List.map_nil, zip_snoc _ _ (by simpa using hl)]
    · rw [List.map_append]; exact r.append (.cons rv .nil)
theorem HAb.dct {n : Nat} {kvs : List (Key × D)} (h : HAb K mg H ρ G) (e : G[n]? = some (.dct kvs)) : ∃ a xs, ρ[n]? = some a ∧ H a = some (.dK ((kvs.map (·.1)).zip xs)) ∧ Reps K mg ρ H (kvs.map (·.2)) xs := by
  obtain ⟨a, e1, xs, e2, r⟩ := h.ob n _ e
  exact ⟨a, xs, e1, e2, r⟩
theorem fut_setD {p : Addr} {u w : List (Key × V)} (hp : H p = some (.dK u)) (ρ : List Addr) : Fut K H (upd H p (.dK w)) ρ ρ := by
  refine ⟨fun a zs h => ?_, fun a zs h => ?_, ⟨[], by simp⟩, fun a φ h => by rw [upd_ne (ne_of h hp (by intro z; cases z))]; exact h⟩
  · rcases h with (h | ⟨q, h⟩) | h
    · exact .inl (.inl (by rw [upd_ne (ne_of h hp (by intro z; cases z))]; exact h))
    · exact .inl (.inr ⟨q, by rw [upd_ne (ne_of h hp (by intro z; cases z))]; exact h⟩)
    · exact .inr h
  · rcases h with ⟨q, h⟩ | h
    · exact .inl ⟨q, by rw [upd_ne (ne_of h hp (by intro z; cases z))]; exact h⟩
    · exact .inr h
theorem HAb.moreD {p : Addr} (h : HAb K mg H ρ G) (hp : H p = none) : HAb K mg (upd H p (.dK [])) (ρ ++ [p]) (G ++ [.dct []]) := by
  have f : Fut K H (upd H p (.dK [])) ρ (ρ ++ [p]) := (fut_new hp ρ).trans (fut_more ρ p)
  refine ⟨by simp [h.hl], ?_, fun n ob e => ?_⟩
  · rw [List.nodup_append]
    refine ⟨h.nd, by simp, fun a ha b hb => ?_⟩
    have e : b = p := by simpa using hb
    subst e
    rintro rfl
    exact h.not_mem hp ha
  · by_cases hn : n < G.length
    · rw [List.getElem?_append_left hn] at e
      obtain ⟨a, e1, r'⟩ := h.ob n ob e
      exact ⟨a, f.get e1, r'.mono f fun u q => by rw [upd_ne (ne_of_none q hp)]; exact q⟩
    · have hl : n < (G ++ [DO.dct []]).length := (List.getElem?_eq_some_iff.mp e).1
      have hn' : n = G.length := by simp at hl; omega
      subst hn'
      rw [getElem?_concat_self] at e
      cases e
      exact ⟨p, by rw [← h.hl, getElem?_concat_self], [], upd_same, .nil⟩
theorem HAb.putD {n : Nat} {a : Addr} {es : List (Key × D)} {u : List (Key × V)} {ys : List V} (h : HAb K mg H ρ G) (hn : ρ[n]? = some a) (ha : H a = some (.dK u)) (r : Reps K mg ρ H (es.map (·.2)) ys) :
    HAb K mg (upd H a (.dK ((es.map (·.1)).zip ys))) ρ (G.set n (.dct es)) := by
  have f : Fut K H (upd H a (.dK ((es.map (·.1)).zip ys))) ρ ρ := fut_setD ha ρ
  refine ⟨by simp [h.hl], h.nd, fun m ob e => ?_⟩
  by_cases hm : n = m
  · subst hm
    rw [List.getElem?_set, if_pos rfl] at e
    split at e
    · cases e
      exact ⟨a, hn, ys, upd_same, r.mono f⟩
    · cases e
  · rw [List.getElem?_set_ne hm] at e
    obtain ⟨b, e1, r'⟩ := h.ob m ob e
    have hb : b ≠ a := by
      rintro rfl
      obtain ⟨h1, e1'⟩ := List.getElem?_eq_some_iff.mp hn
      obtain ⟨h2, e2'⟩ := List.getElem?_eq_some_iff.mp e1
      exact hm ((List.getElem_inj h.nd).mp (e1'.trans e2'.symm))
    exact ⟨b, e1, r'.mono f fun u q => by rw [upd_ne hb]; exact q⟩
theorem key_rep {d : D} {v : V} {k : Key} (r : Rep K mg ρ H d v) (e : dKey d = some k) : v = kV k := by
  cases d <;> simp [dKey] at e
  · subst e; unfold Rep at r; exact r
  · subst e; unfold Rep at r; exact r
end
section
variable {X : Cx} {EE : EXK} {e f o i a : Expr} {pos apos cpos tpos : Pos} {mo me mf mv mi : DS → M D}
noncomputable def eDNew : DS → M D := fun _ G => .ok (.obj G.length) (G ++ [.dct []])
theorem qe_dnew : QE X EE (.Dict [] [] pos) eDNew := PE.mono pe_dnewK fun σ H Q ⟨τ, ρ, G, ab, ok⟩ => fun p hp => by
  refine ok (.ref p) _ (ρ ++ [p]) ((fut_new hp ρ).trans (fut_more ρ p)) ⟨ab.st.mono ((fut_new hp ρ).trans (fut_more ρ p)), ab.hp.moreD hp⟩ ?_
  unfold Rep
  exact ⟨p, rfl, by rw [← ab.hp.hl, getElem?_concat_self]⟩
noncomputable def isDct (G : DH) : D → Bool
  | .obj n => match G[n]? with
    | some (.dct _) => true
    | _ => false
  | _ => false
noncomputable def dGetD (d k x : D) : M D := fun G => match d, dKey k with
  | .obj n, some y => match G[n]? with
    | some (.dct kvs) => .ok ((dVal kvs y).getD x) G
    | _ => .stuck
  | _, _ => .stuck
noncomputable def eDGet2 (mo me mf : DS → M D) : DS → M D := fun τ => (mo τ).bind fun d G => if isDct G d = true then ((me τ).bind fun k => (mf τ).bind fun x => dGetD d k x) G else .stuck
theorem isDct_of {G : DH} {d : D} (h : isDct G d = true) : ∃ n kvs, d = .obj n ∧ G[n]? = some (.dct kvs) := by
  cases d <;> simp [isDct] at h
  rename_i n
  cases g : G[n]? with
  | none => rw [g] at h; cases h
  | some ob =>
    cases ob with
    | lst _ => rw [g] at h; cases h
    | dead => rw [g] at h; cases h
    | dct kvs => exact ⟨n, kvs, rfl, g⟩
theorem re_dget2 (hu : X.A.units + 600 < cLine) (ho : QE X EE o mo) (he : QE X EE e me) (hf : QE X EE f mf) (hb : nobase o = true := by rfl) (h : nostars [e, f] = true := by rfl) (hline : (apos.endLine == cpos.line) = true := by rfl) :
    QE X EE (.Call (.Attribute o "get" apos) [e, f] [] cpos) (eDGet2 mo me mf) := by
  have h' : nostar e = true ∧ nostar f = true := by simpa [nostars] using h
  refine PE.mono (pe_dget2 (by omega) ho he hf ⟨base_of hb _ _, few_of h (by simp), hline, by rw [star_of h'.1, star_of h'.2]; rfl⟩) fun σ H Q ⟨τ, ρ, G, ab, ok⟩ => ?_
  refine ⟨τ, ρ, G, ab, ?_⟩
  dsimp only [eDGet2, M.bind] at ok
  cases e1 : mo τ G with
  | stuck => rw [e1] at ok; exact ok
  | exn c G' => rw [e1] at ok; exact ok
  | ok d G1 =>
    rw [e1] at ok
    dsimp only at ok
    intro vd H1 ρ1 f1 ab1 r1
    by_cases hd : isDct G1 d = true
    · rw [if_pos hd] at ok
      obtain ⟨n, kvs, rfl, g1⟩ := isDct_of hd
      unfold Rep at r1
      obtain ⟨p, rfl, ep⟩ := r1
      obtain ⟨p', xs, ep', eH, _⟩ := ab1.hp.dct g1
      rw [ep] at ep'; cases ep'
      refine ⟨p, rfl, .inl ⟨_, .inl eH⟩, τ, ρ1, G1, ab1, ?_⟩
      cases e2 : me τ G1 with
      | stuck => rw [e2] at ok; exact ok
      | exn c G' => rw [e2] at ok; exact fun H' ρ' f ab' => ok H' ρ' (f1.trans f) ab'
      | ok k G2 =>
        rw [e2] at ok
        dsimp only at ok
        intro vk H2 ρ2 f2 ab2 r2
        refine ⟨τ, ρ2, G2, ab2, ?_⟩
        cases e3 : mf τ G2 with
        | stuck => rw [e3] at ok; exact ok
        | exn c G' => rw [e3] at ok; exact fun H' ρ' f ab' => ok H' ρ' ((f1.trans f2).trans f) ab'
        | ok x G3 =>
          rw [e3] at ok
          dsimp only [dGetD] at ok
          intro vx H3 ρ3 f3 ab3 r3
          cases ek : dKey k with
          | none => rw [ek] at ok; exact ok.elim
          | some y =>
            rw [ek] at ok
            dsimp only at ok
            cases g : G3[n]? with
            | none => rw [g] at ok; exact ok.elim
            | some ob =>
              cases ob with
              | lst _ => rw [g] at ok; exact ok.elim
              | dead => rw [g] at ok; exact ok.elim
              | dct kvs3 =>
                rw [g] at ok
                dsimp only at ok
                obtain ⟨p3, xs3, ep3, eH3, rs3⟩ := ab3.hp.dct g
                rw [(f2.trans f3).get ep] at ep3; cases ep3
                have ev := key_rep r2 ek
                subst ev
                refine ⟨_, DGet.k eH3, ?_⟩
                refine ok _ H3 ρ3 ((f1.trans f2).trans f3) ab3 ?_
                rcases dVal_rep y rs3 with ⟨z1, z2⟩ | ⟨d, v, z1, z2, z3⟩
                · rw [z1, z2]; exact r3
                · rw [z1, z2]; exact z3
    · rw [if_neg hd] at ok; exact ok.elim
noncomputable def dPutD (v d k : D) : M D := fun G => match d, dKey k with
  | .obj n, some y => match G[n]? with
    | some (.dct kvs) => if kvs.length < sizeLine then .ok .non (G.set n (.dct (dPutK kvs y v))) else .stuck
    | _ => .stuck
  | _, _ => .stuck
noncomputable def sDPut (mv mo mi : DS → M D) : MS := fun τ => sBind ((mv τ).bind fun v => (mo τ).bind fun o => (mi τ).bind fun i => dPutD v o i) (fun _ G => .nx τ G) fun c G => .xn c τ G
theorem rs_dput (hu : X.A.units + 600 < cLine) (hv : QE X EE a mv) (ho : QE X EE o mo) (hi : QE X EE i mi) (h : noswap a = true := by rfl) : QS X EE (.Assign [.Subscript o i tpos] a pos) (sDPut mv mo mi) :=
  PS.mono (ps_dput (by omega) ho hi hv (swap_of h _ _ _)) fun Dd σ H ⟨τ, ρ, G, ab, ok⟩ => by
    refine ⟨τ, ρ, G, ab, ?_⟩
    dsimp only [sDPut, sBind, M.bind] at ok
    cases e1 : mv τ G with
    | stuck => rw [e1] at ok; exact ok
    | exn c G' => rw [e1] at ok; exact fun H' ρ' f ab' => ok σ H' ρ' f ab'
    | ok v G1 =>
      rw [e1] at ok
      intro vv H1 ρ1 f1 ab1 r1
      refine ⟨τ, ρ1, G1, ab1, ?_⟩
      dsimp only at ok
      cases e2 : mo τ G1 with
      | stuck => rw [e2] at ok; exact ok
      | exn c G' => rw [e2] at ok; exact fun H' ρ' f ab' => ok σ H' ρ' (f1.trans f) ab'
      | ok ov G2 =>
        rw [e2] at ok
        intro vo H2 ρ2 f2 ab2 r2
        refine ⟨τ, ρ2, G2, ab2, ?_⟩
        dsimp only at ok
        cases e3 : mi τ G2 with
        | stuck => rw [e3] at ok; exact ok
        | exn c G' => rw [e3] at ok; exact fun H' ρ' f ab' => ok σ H' ρ' ((f1.trans f2).trans f) ab'
        | ok iv G3 =>
          rw [e3] at ok
          intro vi H3 ρ3 f3 ab3 r3
          dsimp only [dPutD] at ok
          cases ov <;> try exact ok.elim
          rename_i n
          cases ek : dKey iv with
          | none => rw [ek] at ok; exact ok.elim
          | some y =>
            rw [ek] at ok
            have r2' := r2.mono f3
            unfold Rep at r2'
            obtain ⟨p, rfl, e4⟩ := r2'
            dsimp only at ok
            cases g : G3[n]? with
            | none => rw [g] at ok; exact ok.elim
            | some ob =>
              cases ob with
              | lst _ => rw [g] at ok; exact ok.elim
              | dead => rw [g] at ok; exact ok.elim
              | dct kvs =>
                rw [g] at ok
                dsimp only at ok
                obtain ⟨p', xs, e5, hp, rs⟩ := ab3.hp.dct g
                rw [e4] at e5; cases e5
                by_cases hl : kvs.length < sizeLine
                · rw [if_pos hl] at ok
                  have ev := key_rep r3 ek
                  subst ev
                  have rv := r1.mono (f2.trans f3)
                  obtain ⟨ys, ey, ry⟩ := dPut_rep y rv rs
                  refine ⟨p, _, rfl, DPut.k hp ?_, ?_⟩
                  · have := rs.length
                    simp at this
                    simp [← this]; exact hl
                  · rw [ey]
                    refine ok σ _ ρ3 (((f1.trans f2).trans f3).trans (fut_setD hp ρ3)) ⟨ab3.st.mono (fut_setD hp ρ3), ab3.hp.putD e4 hp ry⟩
                · rw [if_neg hl] at ok; exact ok.elim
end
end L3
end
section
set_option Elab.async false
set_option linter.all false
set_option maxRecDepth 100000
namespace L3
open PySem PySem.Spec L2 PyProof.Rows
theorem collect_rev {prog : Program} {w : World} {A : Around} {E : Value → Shared → Prop} {s : Shared} {it l : Addr} {items : Array Value} {Q : List Value → Shared → Prop} (hh : A.handled = none) (hit : s.heap.IsRevIter it l ((items.size : Int) - 1)) (hl : s.heap.IsList l items) (hne : l ≠ it) (hz : items.size ≤ sizeLine)
    (hQ : ∀ s' acc, (∀ b o, b ≠ it → s.heap.get? b = some o → s'.heap.get? b = some o) → s'.gens = s.gens → s'.drawn = s.drawn → s'.os = s.os → ItemsOf (fun i v => items[items.size - 1 - i]? = some v) acc items.size → Q acc.toList s') :
    wpAny (model prog w) A (collect (.ref it)) Q E s := by
  have lt1 : l < s.heap.objs.size := by obtain ⟨o, e, _⟩ := hl; exact Heap.lt_size e
  have lt2 : it < s.heap.objs.size := by obtain ⟨o, e, _⟩ := hit; exact Heap.lt_size e
  unfold collect
  refine wpAny_bind (wpAny_runValue (codeAny_builtin F.entry_proto_collect ?_))
  rw [Around.under_plainId F.plain_proto_collect _]
  show wpAny _ A.in1 (newList [] >>= fun l => again (.builtin "list.__iadd__" ⟨[l, .ref it], []⟩)) _ _ s
  refine wpAny_bind (wpAny_newObj_type ?_)
  refine wpAny_pure ⟨plainId_quiet F.plain_list_iadd _, codeAny_builtin F.entry_list_iadd ?_⟩
  rw [Around.under_plainId F.plain_list_iadd _]
  show wpAny _ A.in1 (Builtin.List.listExtendWith (.ref s.heap.objs.size) (.ref it) (.ref s.heap.objs.size)) _ _ _
  have up : ∀ b o, s.heap.get? b = some o → (s.heap.push { cls := .type "list", data := .seq ([] : List Value).toArray }).get? b = some o := fun b o e => Heap.get?_push_of_some _ e
  have fin' : ∀ (s' : Shared) (acc' : Array Value) (c' : Nat), Moved [s.heap.objs.size, it] (fun a b => b = a) { s with heap := s.heap.push { cls := .type "list", data := .seq ([] : List Value).toArray } } s' → s'.heap.get? s.heap.objs.size = some { cls := .type "list", data := .seq acc' c' } →
      ItemsOf (fun i v => items[items.size - 1 - i]? = some v) acc' items.size → wpAny (model prog w) A (match Value.ref s.heap.objs.size with
      | Value.ref a => do
        match (← load a).data with
          | Data.seq xs _ => pure xs.toList
          | _ => unsupported "internal:collect"
      | _ => unsupported "internal:collect") Q E s' := fun s' acc' c' hm hS' hacc => by
    show wpAny _ A (load s.heap.objs.size >>= _) _ _ s'
    refine wpAny_bind (wpAny_load hS' ?_)
    refine wpAny_pure (hQ s' acc' (fun b o hb e => hm.heap b o ?_ (up b o e)) hm.gens hm.drawn hm.os hacc)
    simp [hb, Nat.ne_of_lt (Heap.lt_size e)]
  refine wpAny_mono (extend_rev (A := A) (R := fun r s' => r = .ok (.ret (.ref s.heap.objs.size)) ∧ ∃ acc' c', Moved [s.heap.objs.size, it] (fun a b => b = a) { s with heap := s.heap.push { cls := .type "list", data := .seq ([] : List Value).toArray } } s' ∧ s'.heap.get? s.heap.objs.size = some { cls := .type "list", data := .seq acc' c' } ∧
      ItemsOf (fun i v => items[items.size - 1 - i]? = some v) acc' items.size) (l := l) (items := items) (show A.handled = none from hh) ?_ ?_ hne hz s.heap.objs.size (.ref s.heap.objs.size) 0 ?_ (Nat.ne_of_gt lt1) ?_) (fun fin s' h => ?_) (fun e s' h => ?_)
  · obtain ⟨o, e, r⟩ := hit
    exact ⟨o, up _ _ e, r⟩
  · obtain ⟨o, e, r⟩ := hl
    exact ⟨o, up _ _ e, r⟩
  · exact Heap.get?_push_size _ rfl
  · intro s' acc' c' hm hS' hacc
    exact ⟨rfl, acc', c', hm, hS', hacc⟩
  · cases fin with
    | done f =>
      obtain ⟨e, acc', c', h1, h2, h3⟩ := h
      cases e
      exact fin' s' acc' c' h1 h2 h3
    | again c' => exact ⟨h.1, codeAny_mono h.2 fun r s'' hr => by obtain ⟨rfl, acc', c', h1, h2, h3⟩ := hr; exact fin' s'' acc' c' h1 h2 h3⟩
  · exact absurd h.1 (by simp)
theorem meets_tuple_rev (it l : Addr) (items : Array Value) (hne : l ≠ it) (hz : items.size ≤ sizeLine) :
    Meets (Builtin.«tuple.__new__» ⟨[.type "tuple", .ref it], []⟩)
      (fun A R s => A.handled = none ∧ s.heap.IsRevIter it l ((items.size : Int) - 1) ∧ s.heap.IsList l items ∧ ∀ (s' : Shared) (acc : Array Value), (∀ b o, b ≠ it → s.heap.get? b = some o → s'.heap.get? b = some o) → s'.gens = s.gens → s'.drawn = s.drawn → s'.os = s.os → ItemsOf (fun i v => items[items.size - 1 - i]? = some v) acc items.size →
        R (.ok (.ret (.ref s'.heap.objs.size))) { s' with heap := s'.heap.push { cls := .type "tuple", data := .seq acc } }) :=
  .of_wp fun prog w A R s h => by
    obtain ⟨hh, hit, hl, h⟩ := h
    have hsub := sub_tuple_self
    have hinit := init_tuple_lookup
    have hmh := madeHere_tuple
    have hT : s.TypeIs (.ref it) "list_reverseiterator" := by
      obtain ⟨o, e, c, _⟩ := hit
      exact ⟨o, e, c⟩
    have hh1 : A.in1.handled = none := hh
    wp_walk using wpAny_typeOf hT, collect_rev hh1 hit hl hne hz
    intro s' acc hk hg hd hos hacc
    show wpAny _ _ (Builtin.Tuple.tupleExact acc.toList.toArray >>= fun v => ret v) _ _ _
    unfold Builtin.Tuple.tupleExact
    refine wpAny_bind (wpAny_newObj_type ?_ (show acc.toList.toArray.size ≤ sizeLine by simp only [Array.toArray_toList]; rw [hacc.1]; exact hz))
    refine wpAny_pure ⟨_, rfl, ?_⟩
    have e : acc.toList.toArray = acc := by simp
    rw [e]
    exact h s' acc hk hg hd hos hacc
theorem call_tuple_rev {prog : Program} {w : World} {A : Around} {E : Value → Shared → Prop} {s : Shared} {it l : Addr} {items : Array Value} {Q : Value → Shared → Prop} (hh : A.handled = none) (hit : s.heap.IsRevIter it l ((items.size : Int) - 1)) (hl : s.heap.IsList l items) (hne : l ≠ it) (hz : items.size ≤ sizeLine)
    (hQ : ∀ (h' : Heap) (tk : Nat) (acc : Array Value), (∀ b o, b ≠ it → s.heap.get? b = some o → h'.get? b = some o) → ItemsOf (fun i v => items[items.size - 1 - i]? = some v) acc items.size → Q (.ref h'.objs.size) { s with heap := h'.push { cls := .type "tuple", data := .seq acc }, toks := tk }) :
    wpAny (model prog w) A (call (.type "tuple") [.ref it]) Q E s := by
  refine callType_new F.called_tuple (by decide) (F.typeCall_tuple_1 _) (F.newCall_tuple_1 _) (fun obj => F.args_object_init_2 obj _) F.entry_tuple_new
    (meets_tuple_rev it l items hne hz) ⟨hh, hit, hl, fun s' acc hk hg hd hos hacc => ⟨⟨_, Heap.get?_push_size _ rfl, rfl⟩, ?_⟩⟩
  obtain ⟨h', g', d', tk', os'⟩ := s'
  have e1 : g' = s.gens := hg
  have e2 : d' = s.drawn := hd
  have e3 : os' = s.os := hos
  subst e1 e2 e3
  exact hQ h' tk' acc hk hacc
noncomputable def dRevT : List D → M D
  | [d] => fun G => match seqOf G d with
    | some (.lst xs) => dTup xs.reverse G
    | _ => .stuck
  | _ => M.stop
section
variable {X : Cx} {EE : EXK} {e : Expr} {m : DS → M (List D)} {p p2 pos pos2 : Pos}
theorem re_tupleRev (hc : X.calm = true) (hm1 : X.mg "tuple" = none) (hg1 : Gl X "tuple") (hm2 : X.mg "reversed" = none) (hg2 : Gl X "reversed") (ha : QA X EE [e] m) (h : nostars [e] = true := by rfl) :
    QE X EE (.Call (.Name "tuple" p) [.Call (.Name "reversed" p2) [e] [] pos2] [] pos) (eArgs dRevT m) := by
  have h' : nostar e = true ∧ nostars [] = true := by simpa [nostars] using h
  intro pins s σ H Q I hq
  have hq' := bindAE (k := fun _ ds => dRevT ds) hq
  refine wpAny_Call_Name_kw (ld_blt I hg1 hm1 boot_tuple ?_ (by decide) (by decide))
  refine PyProof.Rows.callWith_type1 ?_ (star_of rfl _ _) (stars_any (es := []) rfl)
  rw [star_of (e := .Call (.Name "reversed" p2) [e] [] pos2) rfl]
  show wpAny _ _ (spliced ((false, eval _ X.env) :: backTo pos (starEach [] X.env))) _ _ s
  refine Calls.spliced_cons ?_
  refine wpAny_Call_Name_kw (ld_blt I hg2 hm2 boot_rev ?_ (by decide) (by decide))
  refine PyProof.Rows.callWith_type1 (thn (ha pos2 pins s σ H _ I hq') fun us s1 hus => ?_) (star_of h'.1 _ _) (stars_any (es := []) rfl)
  obtain ⟨vs, H1, I1, r1, τ, ρ, G, ds, ab, rs, ok⟩ := hus
  match ds, ok with
  | [], ok => exact ok.elim
  | _ :: _ :: _, ok => exact ok.elim
  | [d], ok =>
    obtain ⟨x, rfl, rx⟩ := reps1 rs
    obtain ⟨u, rfl, ru⟩ := vals1 r1
    dsimp only [dRevT] at ok
    cases q : seqOf G d with
    | none => rw [q] at ok; exact ok.elim
    | some sk =>
      rw [q] at ok
      cases sk with
      | tup zs => exact ok.elim
      | str z => exact ok.elim
      | lst zs =>
        dsimp only at ok
        obtain ⟨l, ys, rfl, sq, rv⟩ := seqOf_lst (pins := pins) (σ0 := σ) (s := s1) ab.hp rx q
        cases ru
        obtain ⟨its, vv, pl, hz⟩ := I1.list sq
        have hlen := vv.length
        have hl := pl.isList
        have hlt : l < s1.heap.objs.size := by obtain ⟨_, e, _⟩ := hl; exact Heap.lt_size e
        refine call_reversed_list hl ?_
        refine Calls.spliced_nil ?_
        refine call_tuple_rev (l := l) (items := its.toArray) (show X.A.handled = none from I.ok.hd hc) ⟨_, Heap.get?_push_size _ rfl, rfl, rfl⟩ (hl.push _) (Nat.ne_of_lt hlt) (by simp; omega) fun h' tk acc' kp hacc => ?_
        have ea := items_rev hacc
        subst ea
        obtain ⟨hlr, hn⟩ := tup_ok ab rv.rev ok
        have I2 : Inv X pins σ H1 { s1 with heap := h', toks := tk } := I1.kept (t' := tk) (fun b o e => kp b o (Nat.ne_of_lt (Heap.lt_size e)) (Heap.get?_push_of_some _ e))
        have I3 : Inv X pins σ (upd H1 h'.objs.size (.tup ys.reverse)) { s1 with heap := h'.push { cls := .type "tuple", data := .seq its.reverse.toArray }, toks := tk } :=
          I2.laid (t' := tk) (fun b o e => Heap.get?_push_of_some _ e) (Nat.le_refl _) (show ObjOk X.prog X.w _ _ _ (.tup ys.reverse) from ⟨hlr, its.reverse, Vals.rev vv, IsTup.new _ _⟩)
        exact ⟨.ref h'.objs.size, _, I3, rfl, hn _ (I2.hok.fresh (Nat.le_refl _))⟩
noncomputable def dClear : D → List D → M D
  | .obj n, [] => fun G => match G[n]? with
    | some (.lst _) => .ok .non (G.set n (.lst []))
    | _ => .stuck
  | _, _ => M.stop
theorem mt_clearD : MtR X "list.clear" (rMD X EE dClear) := by
  intro pins s σ0 H x xs v us Q I rx rxs ⟨σ, τ, ρ, G, d, ds, ab, rd, rds, ok⟩
  cases d <;> try exact ok.elim
  rename_i n
  match ds, ok with
  | _ :: _, ok => exact ok.elim
  | [], ok =>
    unfold Reps at rds; subst rds
    unfold Rep at rd
    obtain ⟨p, rfl, e1⟩ := rd
    dsimp only [dClear] at ok
    cases g : G[n]? with
    | none => rw [g] at ok; exact ok.elim
    | some o =>
      cases o with
      | dead => rw [g] at ok; exact ok.elim
      | dct kv => rw [g] at ok; exact ok.elim
      | lst zs =>
        rw [g] at ok
        dsimp only at ok
        obtain ⟨p', vs, e2, hp, rs⟩ := ab.hp.lst g
        rw [e1] at e2; cases e2
        exact mt_clear pins s σ0 H _ _ v us Q I rx rxs ⟨p, vs, rfl, rfl, hp, put_ok (xs := zs) ab e1 hp .nil (fun _ _ => by unfold Rep; rfl) ok⟩
theorem re_clear {o : Expr} {mo : DS → M D} {apos cpos : Pos} (ho : QE X EE o mo) (hb : nobase o = true := by rfl) (hline : (apos.endLine == cpos.line) = true := by rfl) :
    QE X EE (.Call (.Attribute o "clear" apos) [] [] cpos) (eMethT "list" dClear mo aNil) := qe_bm0 PySem.F.plainAttrs_list PySem.F.slot_list_clear PySem.F.type_list_clear mt_clearD ho (base_of hb _ _) hline
end
end L3
end
section
set_option Elab.async false
set_option linter.all false
set_option maxRecDepth 100000
namespace L3
open PySem PySem.Spec L2
section
variable {prog : Program} {w : World} {A : Around} {E : Value → Shared → Prop} {s : Shared}
theorem nextOf_tup_item {it t : Addr} {i : Nat} {items : Array Value} {x : Value} {Q : Value → Shared → Prop} (hit : s.heap.IsTupleIter it t i)
    (ht : s.heap.IsTuple t items) (hx : items[i]? = some x)
    (hQ : ∀ h', h'.IsTupleIter it t (i + 1) → Heap.SameBut it s.heap h' → Q x { s with heap := h' }) :
    wpAny (model prog w) A (Builtin.SmallTypes.nextOf (.ref it)) Q E s := by
  obtain ⟨o, ho, hc, hd⟩ := id hit
  obtain ⟨ol, hol, _, nl, hdl⟩ := ht
  unfold Builtin.SmallTypes.nextOf
  refine wpAny_bind (wpAny_callSpecial?_slot (name := Str.ofString "__next__") hit.typeIs F.slot_tuple_iterator_next
    (wpAny_call_entry F.slot_tuple_iterator_next hit.typeIs F.entry_tuple_iterator_next ?_ (F.args_tuple_iterator_next_1 _)))
  show wpAny _ _ (field (.ref it) 0 >>= _) _ _ s
  refine wpAny_bind (wpAny_field ho hd (x := .ref t) rfl ?_)
  show wpAny _ _ (if (Value.ref t == Value.none) = true then _ else _) _ _ s
  rw [if_neg (show ¬ ((Value.ref t == Value.none) = true) from Bool.false_ne_true)]
  show wpAny _ _ (field (.ref it) 1 >>= _) _ _ s
  refine wpAny_bind (wpAny_field ho hd (x := .int i 0) rfl ?_)
  show wpAny _ _ (seqItems? (.ref t) >>= _) _ _ s
  refine wpAny_bind (wpAny_seqItems hol hdl ?_)
  simp only [Int.toNat_natCast, hx]
  refine wpAny_bind (wpAny_setField ho hd (by simp) (wpAny_pure ⟨x, rfl, wpAny_pure (hQ _ ?_ (Heap.SameBut.update ..))⟩))
  exact ⟨_, Heap.get?_update_self _ ho (Obj.isFreed_of_fields (Obj.data_mapFields hd _)), (Obj.cls_mapFields ..).trans hc, by
    rw [Obj.data_mapFields hd]; simp [rawInt]⟩
theorem nextOf_tup_end {it t : Addr} {i : Nat} {items : Array Value} {Q : Value → Shared → Prop} (hh : A.handled = none)
    (hit : s.heap.IsTupleIter it t i) (ht : s.heap.IsTuple t items) (hx : items[i]? = none)
    (hE : ∀ h' e, Heap.ExtBut it s.heap h' → (∃ o, h'.get? e = some o ∧ o.cls = .type "StopIteration") → E (.ref e) { s with heap := h' }) :
    wpAny (model prog w) A (Builtin.SmallTypes.nextOf (.ref it)) Q E s := by
  obtain ⟨o, ho, hc, hd⟩ := id hit
  obtain ⟨ol, hol, _, nl, hdl⟩ := ht
  unfold Builtin.SmallTypes.nextOf
  refine wpAny_bind (wpAny_callSpecial?_slot (name := Str.ofString "__next__") hit.typeIs F.slot_tuple_iterator_next
    (wpAny_call_entry F.slot_tuple_iterator_next hit.typeIs F.entry_tuple_iterator_next ?_ (F.args_tuple_iterator_next_1 _)))
  show wpAny _ _ (field (.ref it) 0 >>= _) _ _ s
  refine wpAny_bind (wpAny_field ho hd (x := .ref t) rfl ?_)
  show wpAny _ _ (if (Value.ref t == Value.none) = true then _ else _) _ _ s
  rw [if_neg (show ¬ ((Value.ref t == Value.none) = true) from Bool.false_ne_true)]
  show wpAny _ _ (field (.ref it) 1 >>= _) _ _ s
  refine wpAny_bind (wpAny_field ho hd (x := .int i 0) rfl ?_)
  show wpAny _ _ (seqItems? (.ref t) >>= _) _ _ s
  refine wpAny_bind (wpAny_seqItems hol hdl ?_)
  simp only [Int.toNat_natCast, hx]
  refine wpAny_bind (wpAny_rule (wpAny_bind (wpAny_setField ho hd (by simp) ?_)))
  show wpAny _ _ (newExc (.type "StopIteration") [] >>= _) _ _ _
  refine wpAny_bind ?_
  simp only [newExc, newTuple]
  refine wpAny_bind (wpAny_newObj_type ?_ (by size_fits))
  refine wpAny_bind (m := firstArgMember _ _) (wpAny_of_eq (a := Value.none) (by first | rfl | (simp only [firstArgMember]; rfl)) ?_)
  refine wpAny_newObj_type ?_ (by size_fits)
  simp only [raiseNew]
  refine wpAny_bind (wpAny_handled ?_)
  first | rw [show A.in1.handled = none from hh] | rw [hh]
  refine wpAny_bind (wpAny_pure (wpAny_throw ?_))
  exact hE _ _ (((Heap.SameBut.update ..).extBut.push _).push _) ⟨_, Heap.get?_push_size _ rfl, rfl⟩
end
theorem draws_tup {prog : Program} {w : World} {A : Around} (hh : A.handled = none) (it l : Addr) (hne : l ≠ it) (items : Array Value) :
    Draws prog w A it [it, l] items.size (fun i v => items[i]? = some v) (fun i h => h.IsTupleIter it l i ∧ h.IsTuple l items) where
  live := fun _ _ st => let ⟨o, ho, _⟩ := st.1; ⟨o, ho⟩
  frame := fun _ _ _ st hk => ⟨st.1.at fun o e => hk it (by simp) o e, st.2.at fun o e => hk l (by simp) o e⟩
  item := fun i s Q E hi st hQ => by
    refine nextOf_tup_item st.1 st.2 (x := items[i]) (by simp [hi]) fun h' hit' hs' => ?_
    exact hQ _ h' s.toks (by simp [hi]) ⟨hit', st.2.extBut hs'.extBut hne⟩ hs'
  done := fun s Q E st hE => nextOf_tup_end hh st.1 st.2 (by simp) hE
theorem meets_enumT (l : Addr) (items : Array Value) (n : Nat) (dct : Option Addr) (sl : Array (Option Value)) :
    Meets (Builtin.«enumerate.__new__» ⟨[.type "enumerate", .ref l], []⟩) (fun _ R s => s.heap.get? l = some { cls := .type "tuple", dict := dct, data := .seq items n, slots := sl } ∧
      R (.ok (.ret (.ref (s.heap.push { cls := .type "tuple_iterator", data := .fields #[.ref l, .int 0 0] }).objs.size)))
        { s with heap := (s.heap.push { cls := .type "tuple_iterator", data := .fields #[.ref l, .int 0 0] }).push { cls := .type "enumerate", data := .fields #[.none, .bool false, .ref s.heap.objs.size, rawInt 0, .none, .none] } }) :=
  .of_wp fun prog w A R s h => by
    obtain ⟨hp, g, d, tk, os⟩ := s; obtain ⟨hl, h⟩ := h
    have hsub := sub_enumerate
    have hL : Heap.IsTuple (Shared.heap ⟨hp, g, d, tk, os⟩) l items := ⟨_, hl, rfl, n, rfl⟩
    wp_walk using AutoSeq1.wpAny_loadPart' hl
    refine wpAny_stack_any fun st => wpAny_pure ?_
    split
    · rename_i c _ _ _ _ _
      cases (c == Value.type "enumerate")
      · wp_walk using AutoSeq1.wpAny_loadPart' hl, wpAny_pyIter_tuple hL
        exact ⟨_, rfl, h⟩
      · wp_walk using AutoSeq1.wpAny_loadPart' hl, wpAny_pyIter_tuple hL
        exact ⟨_, rfl, h⟩
    · wp_walk using AutoSeq1.wpAny_loadPart' hl, wpAny_pyIter_tuple hL
      exact ⟨_, rfl, h⟩
theorem call_enum_tup {prog : Program} {w : World} {A : Around} {E : Value → Shared → Prop} {s : Shared} {l : Addr} {items : Array Value} {Q : Value → Shared → Prop} (hL : s.heap.IsTuple l items)
    (h : ∀ h', IsEnum h' (s.heap.objs.size + 1) s.heap.objs.size 0 .none → h'.IsTupleIter s.heap.objs.size l 0 → h'.objs.size = s.heap.objs.size + 2 →
      (∀ b o, s.heap.get? b = some o → h'.get? b = some o) → Q (.ref (s.heap.objs.size + 1)) { s with heap := h' }) :
    wpAny (model prog w) A (call (.type "enumerate") [.ref l]) Q E s := by
  obtain ⟨⟨c, dct, dt, sl⟩, hl, hc, n, hd⟩ := hL
  replace hc : c = .type "tuple" := hc
  replace hd : dt = .seq items n := hd
  subst hc hd
  refine callType_new F.called_enumerate (by decide) (F.typeCall_enumerate_1 _) (F.newCall_enumerate_1 _) (fun obj => F.args_object_init_2 obj _) F.entry_enumerate_new
    (meets_enumT l items n dct sl) ⟨hl, ?_⟩
  have hz : (s.heap.push { cls := .type "tuple_iterator", data := .fields #[.ref l, .int 0 0] }).objs.size = s.heap.objs.size + 1 := Heap.size_push ..
  show _ ∧ _
  rw [hz]
  have he : IsEnum ((s.heap.push { cls := .type "tuple_iterator", data := .fields #[.ref l, .int 0 0] }).push
      { cls := .type "enumerate", data := .fields #[.none, .bool false, .ref s.heap.objs.size, rawInt 0, .none, .none] }) (s.heap.objs.size + 1) s.heap.objs.size 0 .none := by
    have := Heap.get?_push_size (s.heap.push { cls := .type "tuple_iterator", data := .fields #[.ref l, .int 0 0] })
      (o := { cls := .type "enumerate", data := .fields #[.none, .bool false, .ref s.heap.objs.size, rawInt 0, .none, .none] }) rfl
    rw [hz] at this; exact this
  refine ⟨⟨_, he, rfl⟩, h _ he ⟨_, Heap.get?_push_of_some _ (Heap.get?_push_size _ rfl), rfl, rfl⟩ (by rw [Heap.size_push, hz]) fun b o x => Heap.get?_push_of_some _ (Heap.get?_push_of_some _ x)⟩
noncomputable def IteT (K : PySem.W.Frag) (a : Addr) : It :=
  ⟨fun i H => ∃ xs x, SqT K H a xs ∧ xs[i]? = some x, fun i H y H' => ∃ x p, (∀ xs, SqT K H a xs → xs[i]? = some x) ∧ H p = none ∧ y = .ref p ∧ H' = upd H p (.tup [.int i, x]), fun i H => ∃ xs, SqT K H a xs ∧ xs.length = i⟩
theorem turn_enumT {P : Program} {w : World} {K : PySem.W.Frag} {es : List Expr} {k : Nat} {pt : Pos} (l e it : Addr) (hne : e ≠ it) (hle : l ≠ e) (hli : l ≠ it) : Turn P w K (.Tuple es k pt) (IteT K l) [e, it] e (fun i h => ∃ old, IsEnum h e it i old ∧ h.IsTupleIter it l i) where
  mem := by simp
  obj := fun i h ⟨old, st1, st2⟩ b hb => by
    rcases List.mem_cons.mp hb with rfl | hb
    · exact ⟨_, st1, fun v z => by cases z⟩
    · have e : b = it := by simpa using hb
      subst e
      obtain ⟨o, e, c, d⟩ := st2
      exact ⟨o, e, fun v z => by rw [d] at z; cases z⟩
  keep := fun i h h' ⟨old, st1, st2⟩ kp => ⟨old, kp e (by simp) _ st1, st2.at fun o q => kp it (by simp) o q⟩
  item := by
    intro X hP hw hK hc i pins s σ H E I hf ⟨old, st1, st2⟩ hg
    subst hP hw hK
    obtain ⟨xs, x, hq, hx⟩ := hg
    obtain ⟨its, rv, p, hz⟩ := I.tuple hq
    obtain ⟨u, hu, ru⟩ := rv.get hx
    have lte : e < s.heap.objs.size := Heap.lt_size st1
    have ltit : it < s.heap.objs.size := by obtain ⟨o, q, _⟩ := st2; exact Heap.lt_size q
    have hlen : i < its.length := (List.getElem?_eq_some_iff.mp hu).1
    refine wpAny_pyNext_enum_itemD (draws_tup (show X.A.in1.handled = none from I.ok.hd hc) it l hli its.toArray) st1 ⟨st2, p⟩ (by simpa using hlen) hne (by simp [hne, Ne.symm hle]) fun x' h' tk hx' hO hst htup hsz kp => ?_
    have hxu : x' = u := by
      have e : its.toArray[i]? = some x' := hx'
      rw [List.getElem?_toArray, hu] at e
      exact (Option.some.inj e).symm
    subst hxu
    have hL := hst.1
    refine ⟨.ref s.heap.objs.size, rfl, ?_⟩
    have I1 : Inv X pins σ (upd H s.heap.objs.size (.tup [.int i, x])) { s with heap := s.heap.push { cls := .type "tuple", data := .seq #[.int i tk, x'] } } :=
      I.laid (t' := s.toks) (fun b o q => Heap.get?_push_of_some _ q) (Nat.le_refl _) ⟨by simp [sizeLine_eq], [.int i tk, x'], .cons ⟨_, rfl⟩ (.cons ru .nil), PyProof.Rows.IsTup.new _ _⟩
    have hfree := I.hok.fresh (Nat.le_refl s.heap.objs.size)
    have hf1 : ∀ b ∈ [e, it], FpOk X pins (upd H s.heap.objs.size (.tup [.int i, x])) b := fun b hb => by
      have hlt : b ≠ s.heap.objs.size := by
        rcases List.mem_cons.mp hb with rfl | hb
        · exact Nat.ne_of_lt lte
        · rw [List.mem_singleton.mp hb]; exact Nat.ne_of_lt ltit
      exact ⟨by rw [upd_ne hlt]; exact (hf b hb).1, (hf b hb).2⟩
    unfold letOwnedTupleGo
    refine wpAny_bind (wpAny_load hO ?_)
    dsimp only
    rw [if_pos (by simp)]
    refine wpAny_bind (wpAny_rule ?_)
    unfold updateField
    refine wpAny_bind (wpAny_load hO ?_)
    dsimp only
    rw [if_pos (by simp)]
    refine wpAny_update hO ?_
    have oth : ∀ b, b ≠ e → (h'.update e (Obj.mapFields fun x => x.setIfInBounds 0 Value.none)).get? b = h'.get? b := fun b hb => Heap.get?_update_other _ _ (Ne.symm hb)
    refine ⟨.ref s.heap.objs.size, _, turnedL (t' := tk + 1) (s := { s with heap := s.heap.push { cls := .type "tuple", data := .seq #[.int i tk, x'] } }) (ch := [e, it]) I1 (fun b o hb q => ?_) hf1, rfl, ⟨x, s.heap.objs.size, fun ys hy => by rw [I.tuple_inj hy hq]; exact hx, hfree, rfl, rfl⟩, ⟨x', ?_, ?_⟩, fun b hb => (hf1 b hb).1⟩
    · have hb1 : b ≠ e := fun z => hb (by simp [z])
      have hb2 : b ≠ it := fun z => hb (by simp [z])
      show (h'.update e _).get? b = some o
      rw [oth b hb1]
      by_cases hbs : b = s.heap.objs.size
      · subst hbs
        have := Heap.get?_push_size (o := { cls := .type "tuple", data := .seq #[.int (i : Int) tk, x'] }) s.heap rfl
        rw [this] at q; cases q
        exact htup
      · have q' : (s.heap.push { cls := .type "tuple", data := .seq #[.int (i : Int) tk, x'] }).get? b = some o := q
        refine kp b o hb1 hb2 ?_
        rwa [Heap.get?_push_ne _ _ _ hbs] at q'
    · show (h'.update e _).get? e = _
      rw [Heap.get?_update_self _ hO rfl]
      rfl
    · exact hL.at fun o q => (oth it (Ne.symm hne)).trans q
  done := by
    intro X hP hw hK hc i pins s σ H E I hf ⟨old, st1, st2⟩ hg
    subst hP hw hK
    obtain ⟨xs, hq, hx⟩ := hg
    obtain ⟨its, rv, p, hz⟩ := I.tuple hq
    obtain ⟨f0, f1, f2, f3, f4, f5⟩ := hf it (by simp)
    have hl := rv.length
    have hi : i = its.toArray.size := by simp; omega
    subst hi
    exact wpAny_pyNext_enum_endD (draws_tup (show X.A.in1.handled = none from I.ok.hd hc) it l hli its.toArray) st1 ⟨st2, p⟩ fun h' eb => ⟨rfl, I.turned (t' := s.toks) (fun b o hb e => eb b o hb e) f0 f1 f3 f4 f5⟩
  self := fun _ _ _ _ _ ⟨old, st1, _⟩ h => wpAny_pyIter_enum st1 h
noncomputable def vEnumT (xs : List D) : View := fun _ i => if i ≤ xs.length then some (xs[i]?.map fun x => .tup [.int i, x]) else none
noncomputable def iEnumX (m : DS → M (List D)) : MI := fun τ => (m τ).bind fun ds => match ds with
  | [d] => fun G => match seqOf G d with
    | some (.lst xs) => .ok (xs.length + 1, vEnum d) G
    | some (.tup xs) => .ok (xs.length + 1, vEnumT xs) G
    | _ => .stuck
  | _ => M.stop
theorem jv_enumT {K : PySem.W.Frag} {mg : Str → Option Value} {H0 : Hp} {ρ0 : List Addr} {zs : List D} {l : Addr} {xs0 : List V} (sq0 : SqT K H0 l xs0) (rs0 : Reps K mg ρ0 H0 zs xs0) : JV K mg (IteT K l) (vEnumT zs) H0 ρ0 := by
  intro i H ρ G f hp
  have sq := f.tup _ _ sq0
  have rs := rs0.mono f
  unfold vEnumT
  constructor
  · intro e
    by_cases hi : i ≤ zs.length
    · rw [if_pos hi] at e
      cases qi : zs[i]? with
      | some z => rw [qi] at e; cases e
      | none =>
        have := List.getElem?_eq_none_iff.mp qi
        exact ⟨xs0, sq, by rw [← rs.length]; omega⟩
    · rw [if_neg hi] at e; cases e
  · intro dd e
    by_cases hi : i ≤ zs.length
    · rw [if_pos hi] at e
      cases qi : zs[i]? with
      | none => rw [qi] at e; cases e
      | some z =>
        rw [qi] at e; cases e
        obtain ⟨v, ev, rv⟩ := rs.get qi
        refine ⟨⟨xs0, v, sq, ev⟩, fun y H' hy => ?_⟩
        obtain ⟨v', p, ev', hp0, rfl, rfl⟩ := hy
        have ev' := ev' xs0 sq
        rw [ev] at ev'; cases ev'
        refine ⟨FutN.new hp0, ?_⟩
        unfold Rep
        refine ⟨p, [.int i, v], rfl, .inl (.inl upd_same), .cons (by unfold Rep; rfl) (.cons (Rep.mono (fut_new hp0 ρ) _ _ rv) .nil)⟩
    · rw [if_neg hi] at e; cases e
section
variable {X : Cx} {EE : EXK} {a : Expr} {p pc : Pos} {m : DS → M (List D)}
theorem ri_enumX {es : List Expr} {k : Nat} {pt : Pos} (hm : X.mg "enumerate" = none) (hgl : Gl X "enumerate") (ha : QA X EE [a] m) (h : nostars [a] = true := by rfl) : QI X EE (.Tuple es k pt) (.Call (.Name "enumerate" p) [a] [] pc) (iEnumX m) := by
  have h' : nostar a = true ∧ nostars [] = true := by simpa [nostars] using h
  intro pins s σ H R I hq
  obtain ⟨τ, ρ, G, ab, ok⟩ := hq
  by_cases hT : ∃ d G1 zs, m τ G = .ok [d] G1 ∧ seqOf G1 d = some (.tup zs)
  · obtain ⟨d, G1, zs, em, q⟩ := hT
    dsimp only [iEnumX, M.bind] at ok
    rw [em] at ok
    dsimp only at ok
    rw [q] at ok
    dsimp only at ok
    refine wpAny_Call_Name_kw (ld_blt I hgl hm boot_enum ?_ (by decide) (by decide))
    have hA : liftA X.K X.mg EE m σ H fun vs H1 => ∃ ρ1, Ab X.K X.mg σ H1 τ ρ1 G1 ∧ Fut X.K H H1 ρ ρ1 ∧ Reps X.K X.mg ρ1 H1 [d] vs := by
      refine ⟨τ, ρ, G, ab, ?_⟩
      rw [em]
      exact fun vs H' ρ' f ab' r => ⟨ρ', ab', f, r⟩
    refine PyProof.Rows.callWith_type1 (thn (ha pc pins s σ H _ I hA) fun us s1 hus => ?_) (star_of h'.1 _ _) (stars_any (es := []) rfl)
    obtain ⟨vs, H1, I1, r1, ρ1, ab1, f1, rs⟩ := hus
    obtain ⟨x, rfl, rx⟩ := reps1 rs
    obtain ⟨u, rfl, ru⟩ := vals1 r1
    obtain ⟨l, ys, rfl, sq, rv⟩ := seqOf_tup rx q
    cases ru
    obtain ⟨its, vv, pl, hz⟩ := I1.tuple sq
    have hlt : l < s1.heap.objs.size := by obtain ⟨_, e, _⟩ := pl; exact Heap.lt_size e
    refine call_enum_tup pl fun h2 hE hL hsz kp => ?_
    refine wpAny_pyIter_enum hE ?_
    have I2 : Inv X pins σ H1 { s1 with heap := h2 } := I1.kept (t' := s1.toks) kp
    refine ⟨s1.heap.objs.size + 1, [s1.heap.objs.size + 1, s1.heap.objs.size], _, IteT X.K l, H1, rfl, I2, turn_enumT l _ _ (Nat.succ_ne_self _) (Nat.ne_of_lt (Nat.lt_succ_of_lt hlt)) (Nat.ne_of_lt hlt), ⟨_, hE, hL⟩, fun b hb => ?_, ok _ H1 ρ1 f1 ab1 (jv_enumT sq rv)⟩
    rcases List.mem_cons.mp hb with rfl | hb
    · exact I1.fpOk (Nat.le_succ _) (I1.hok.fresh (Nat.le_succ _))
    · rw [List.mem_singleton.mp hb]
      exact I1.fpOk (Nat.le_refl _) (I1.hok.fresh (Nat.le_refl _))
  · refine ri_enum hm hgl ha h pins s σ H R I ⟨τ, ρ, G, ab, ?_⟩
    have e : iEnum m τ G = iEnumX m τ G := by
      dsimp only [iEnumX, iEnum, M.bind]
      cases em : m τ G with
      | stuck => rfl
      | exn c G' => rfl
      | ok ds G' =>
        dsimp only
        match ds with
        | [] => rfl
        | _ :: _ :: _ => rfl
        | [d] =>
          dsimp only
          cases q : seqOf G' d with
          | none => rfl
          | some sk =>
            cases sk with
            | lst _ => rfl
            | str _ => rfl
            | tup zs => exact absurd ⟨d, G', zs, em, q⟩ hT
    rw [e]; exact ok
end
end L3
end
section
set_option Elab.async false
set_option linter.all false
set_option maxRecDepth 100000
namespace L3
open PySem PySem.Spec L2
noncomputable def Out.fw (r : Out D) (G : DH) : Out D := match r with
  | .ok (.obj n) G' => match G'[n]? with
    | some (.lst ds) => if n = G.length ∧ G'.length = n + 1 ∧ hbeq (G'.take G.length) G = true ∧ closedL ds = true then .ok (.con ds) G else .stuck
    | _ => .stuck
  | r => r
noncomputable def Out.fz (r : Out D) : Out D := match r with
  | .ok (.obj n) G' => match G'[n]? with
    | some (.lst ds) => .ok (.con ds) (G'.set n .dead)
    | _ => .stuck
  | r => r
section
variable {τ : DS} {G G' A B R : DH} {e ma mb mc : DS → M D} {n i : Nat} {d : D} {c : XD} {ml : DS → M (List D)} {ds xs ys : List D} {m : List D → M D}
theorem eFn_l : eFn e τ G = (e τ G).fw G := Eq.trans rfl rfl
theorem eFz_l : eFz e τ G = (e τ G).fz := Eq.trans rfl rfl
theorem fw_tup : (Out.ok (.tup xs) G').fw G = .ok (.tup xs) G' := Eq.trans rfl rfl
theorem fw_con : (Out.ok (.con xs) G').fw G = .ok (.con xs) G' := Eq.trans rfl rfl
theorem fw_str {z : Str} : (Out.ok (.str z) G').fw G = .ok (.str z) G' := Eq.trans rfl rfl
theorem fw_int {j : Int} : (Out.ok (.int j) G').fw G = .ok (.int j) G' := Eq.trans rfl rfl
theorem fw_new (h : closedL ds = true) : (Out.ok (.obj G.length) (G ++ [.lst ds])).fw G = .ok (.con ds) G := by
  simp [Out.fw, h, hbeq_self]
theorem fw_dNew (hz : ds.length ≤ sizeLine) (h : closedL ds = true) : (dNew ds G).fw G = .ok (.con ds) G := by
  rw [dNew, if_pos hz, fw_new h]
theorem fz_at : (Out.ok (.obj A.length) (A ++ .lst ds :: B)).fz = .ok (.con ds) (A ++ .dead :: B) := by
  simp [Out.fz, gs0]
theorem pure_of {d : D} (h : m ds G = .ok d (G ++ R)) (hc : d.closed = true) : pureM m ds G = .ok d G := by
  simp [pureM, h, hc, hbeq_self]
theorem pure_of0 {d : D} (h : m ds G = .ok d G) (hc : d.closed = true) : pureM m ds G = .ok d G := pure_of (R := []) (by simpa using h) hc
theorem fresh_of (h : m ds G = .ok (.obj G.length) (G ++ [.lst xs])) (hc : closedL xs = true) : freshM m ds G = .ok (.obj G.length) (G ++ [.lst xs]) := by
  simp [freshM, h, hc, hbeq_self]
theorem iRev_l : iRev ml τ G = (ml τ G).bd fun ds => match ds with
  | [d] => fun G => match seqOf G d with
    | some (.lst xs) => .ok (xs.length + 1, vRev d xs.length) G
    | _ => .stuck
  | _ => M.stop := bind_l
theorem iZip_l : iZip ml τ G = (ml τ G).bd fun ds => match ds with
  | [d, e] => fun G => match seqOf G d, seqOf G e with
    | some (.lst xs), some (.lst ys) => .ok (min xs.length ys.length + 1, vZip d e) G
    | _, _ => .stuck
  | _ => M.stop := bind_l
theorem iEnumX_l : iEnumX ml τ G = (ml τ G).bd fun ds => match ds with
  | [d] => fun G => match seqOf G d with
    | some (.lst xs) => .ok (xs.length + 1, vEnum d) G
    | some (.tup xs) => .ok (xs.length + 1, vEnumT xs) G
    | _ => .stuck
  | _ => M.stop := bind_l
theorem iRng3_l : iRng3 ml τ G = (ml τ G).bd fun ds => match ints3 ds with
  | some (lo, hi, c) => fun G => if -(2 ^ 30) ≤ lo ∧ lo < 2 ^ 30 ∧ -(2 ^ 30) ≤ hi ∧ hi < 2 ^ 30 ∧ 0 < c ∧ c < 2 ^ 30 then .ok (rngN lo hi c + 1, vRng lo c (rngN lo hi c)) G else .stuck
  | none => M.stop := bind_l
theorem eDNew_l : eDNew τ G = .ok (.obj G.length) (G ++ [.dct []]) := Eq.trans rfl rfl
theorem eDGet2_l : eDGet2 ma mb mc τ G = (ma τ G).bd fun d G => if isDct G d = true then (mb τ G).bd (fun k => (mc τ).bind fun x => dGetD d k x) else .stuck := by
  unfold eDGet2
  rw [bind_l]
  unfold Out.bd
  cases ma τ G with
  | stuck => rfl
  | exn c G => rfl
  | ok d G' => simp only [bind_l]; rfl
theorem sDPut_l : sDPut ma mb mc τ G = ((ma τ G).bd fun v => (mb τ).bind fun o => (mc τ).bind fun i => dPutD v o i).xp τ := by
  unfold sDPut sBind Out.xp
  rw [bind_l]
  cases ((ma τ G).bd fun v => (mb τ).bind fun o => (mc τ).bind fun i => dPutD v o i) <;> rfl
theorem for_list {g : TgD} {body : MS} {vw : View} (hv : ∀ G i, i ≤ xs.length → vw G i = some xs[i]?) : ∀ (fuel i : Nat) (τ : DS) (G : DH), i ≤ xs.length → xs.length < fuel + i → forV g body vw fuel i τ G = forP g body (xs.drop i) τ G
  | 0, i, τ, G, h1, h2 => by omega
  | fuel + 1, i, τ, G, h1, h2 => by
    rw [forV]
    dsimp only
    rw [hv G i h1]
    by_cases hi : i < xs.length
    · rw [List.getElem?_eq_getElem hi, List.drop_eq_getElem_cons hi, forP]
      dsimp only
      cases g xs[i] τ with
      | none => rfl
      | some τ1 =>
        dsimp only
        cases body τ1 G with
        | nx τ2 G2 => exact for_list hv fuel (i + 1) τ2 G2 (by omega) (by omega)
        | ct τ2 G2 => exact for_list hv fuel (i + 1) τ2 G2 (by omega) (by omega)
        | _ => rfl
    · rw [List.getElem?_eq_none (by omega), List.drop_eq_nil_of_le (by omega), forP]
theorem comp_list {gO : D → Option (List D)} {ks : List Bool} {tt : DS → M Bool} {te : DS → M D} {vw : View} (hv : ∀ G i, i ≤ xs.length → vw G i = some xs[i]?) : ∀ (fuel i : Nat) (τ : DS) (G : DH), i ≤ xs.length → xs.length < fuel + i → compV gO ks tt te n vw fuel i τ G = compP gO ks tt te n (xs.drop i) τ G
  | 0, i, τ, G, h1, h2 => by omega
  | fuel + 1, i, τ, G, h1, h2 => by
    rw [compV]
    rw [hv G i h1]
    by_cases hi : i < xs.length
    · rw [List.getElem?_eq_getElem hi, List.drop_eq_getElem_cons hi, compP]
      dsimp only
      cases compOne gO ks tt te n xs[i] τ G with
      | ok u G2 => exact comp_list hv fuel (i + 1) τ G2 (by omega) (by omega)
      | _ => rfl
    · rw [List.getElem?_eq_none (by omega), List.drop_eq_nil_of_le (by omega), compP]
theorem for_rev {g : TgD} {body : MS} : forV g body (vRev (.con xs) xs.length) (xs.length + 1) 0 τ G = forP g body xs.reverse τ G := by
  have := for_list (g := g) (body := body) (xs := xs.reverse) (vw := vRev (.con xs) xs.length) (fun G i h => by
    simp only [List.length_reverse] at h
    simp only [vRev, seqOf, if_true]
    by_cases hi : i = xs.length
    · rw [if_pos hi, List.getElem?_eq_none (by simp; omega)]
    · rw [if_neg hi, if_pos (by omega), List.getElem?_reverse (by omega)]) (xs.length + 1) 0 τ G (by simp) (by simp)
  simpa using this
theorem for_zip {g : TgD} {body : MS} : forV g body (vZip (.con xs) (.con ys)) (min xs.length ys.length + 1) 0 τ G = forP g body (List.zipWith (fun x y => .tup [x, y]) xs ys) τ G := by
  have := for_list (g := g) (body := body) (xs := List.zipWith (fun x y => D.tup [x, y]) xs ys) (vw := vZip (.con xs) (.con ys)) (fun G i h => by
    simp only [vZip, seqOf, List.getElem?_zipWith]
    cases xs[i]? <;> cases ys[i]? <;> rfl) (min xs.length ys.length + 1) 0 τ G (by simp) (by simp)
  simpa using this
theorem comp_enumT {gO : D → Option (List D)} {ks : List Bool} {tt : DS → M Bool} {te : DS → M D} : compV gO ks tt te n (vEnumT xs) (xs.length + 1) 0 τ G = compP gO ks tt te n (xs.mapIdx fun i x => .tup [.int i, x]) τ G := by
  have := comp_list (n := n) (gO := gO) (ks := ks) (tt := tt) (te := te) (xs := xs.mapIdx fun i x => D.tup [.int i, x]) (vw := vEnumT xs) (fun G i h => by
    simp only [List.length_mapIdx] at h
    simp only [vEnumT, if_pos h, List.getElem?_mapIdx]) (xs.length + 1) 0 τ G (by simp) (by simp)
  simpa using this
theorem comp_rng {gO : D → Option (List D)} {ks : List Bool} {tt : DS → M Bool} {te : DS → M D} {lo c : Int} {k : Nat} : compV gO ks tt te n (vRng lo c k) (k + 1) 0 τ G = compP gO ks tt te n ((List.range k).map fun (i : Nat) => .int (lo + (i : Int) * c)) τ G := by
  have := comp_list (n := n) (gO := gO) (ks := ks) (tt := tt) (te := te) (xs := (List.range k).map fun (i : Nat) => D.int (lo + (i : Int) * c)) (vw := vRng lo c k) (fun G i h => by
    simp only [List.length_map, List.length_range] at h
    simp only [vRng, List.getElem?_map]
    by_cases hi : i < k
    · rw [if_pos hi, List.getElem?_range hi]; rfl
    · rw [if_neg hi, List.getElem?_eq_none (by simp; omega)]; rfl) (k + 1) 0 τ G (by simp) (by simp)
  simpa using this
theorem compOne_ok {gO : D → Option (List D)} {ks : List Bool} {te : DS → M D} {x v : D} {os acc : List D} (h1 : gO x = some os) (h2 : te (os.map some ++ mask ks τ) (G ++ [.lst acc]) = .ok v (G ++ [.lst acc])) (hz : acc.length < sizeLine) :
    compOne gO ks tYes te G.length x τ (G ++ [.lst acc]) = .ok () (G ++ [.lst (acc ++ [v])]) := by
  simp only [compOne, h1, tYes, M.ret, h2, ga0, if_pos hz, gs0]
theorem compP_map {gO : D → Option (List D)} {ks : List Bool} {te : DS → M D} {own : D → List D} {f : D → D} : ∀ (xs acc : List D), acc.length + xs.length ≤ 1000000 → (∀ x ∈ xs, gO x = some (own x)) → (∀ x ∈ xs, ∀ acc, te ((own x).map some ++ mask ks τ) (G ++ [.lst acc]) = .ok (f x) (G ++ [.lst acc])) →
    compP gO ks tYes te G.length xs τ (G ++ [.lst acc]) = .ok (.obj G.length) (G ++ [.lst (acc ++ xs.map f)])
  | [], acc, _, _, _ => by simp [compP]
  | x :: xs, acc, hl, h1, h2 => by
    have hz : acc.length < sizeLine := Nat.lt_of_lt_of_le (by simp at hl; omega) (lz (n := 1000001) (by omega))
    rw [compP, compOne_ok (h1 x (by simp)) (h2 x (by simp) acc) hz]
    dsimp only
    rw [compP_map xs (acc ++ [f x]) (by simp at hl ⊢; omega) (fun y hy => h1 y (by simp [hy])) (fun y hy => h2 y (by simp [hy]))]
    simp
end
theorem closedL_of : ∀ {xs : List D}, (∀ x ∈ xs, x.closed = true) → closedL xs = true
  | [], _ => rfl
  | x :: xs, h => by rw [closedL, h x (by simp), closedL_of fun y hy => h y (by simp [hy])]; rfl
theorem closedL_map {α : Type} {f : α → D} {l : List α} (h : ∀ x, (f x).closed = true) : closedL (l.map f) = true := closedL_of (by
  intro x hx
  obtain ⟨a, _, rfl⟩ := List.mem_map.mp hx
  exact h a)
theorem closed_con {xs : List D} : (D.con xs).closed = closedL xs := by rw [D.closed]
theorem closed_tup {xs : List D} : (D.tup xs).closed = closedL xs := by rw [D.closed]
theorem closed_int {i : Int} : (D.int i).closed = true := by rw [D.closed] <;> simp
theorem closed_str {i : Str} : (D.str i).closed = true := by rw [D.closed] <;> simp
theorem closed_bl {i : Bool} : (D.bl i).closed = true := by rw [D.closed] <;> simp
theorem closedL_nil : closedL [] = true := rfl
theorem closedL_cons {x : D} {xs : List D} : closedL (x :: xs) = (x.closed && closedL xs) := by rw [closedL]
theorem closedL_app : ∀ {xs ys : List D}, closedL (xs ++ ys) = (closedL xs && closedL ys)
  | [], ys => by simp [closedL]
  | x :: xs, ys => by simp [closedL, closedL_app (xs := xs), Bool.and_assoc]
mutual
noncomputable def D.pd : D → PyData
  | .bl b => .bool b
  | .int i => .int i
  | .str x => .str x
  | .tup ds => .tuple (pdL ds)
  | .con ds => .list (pdL ds)
  | _ => .none
noncomputable def pdL : List D → List PyData
  | [] => []
  | d :: r => d.pd :: pdL r
end
mutual
noncomputable def D.plain : D → Bool
  | .tup ds => plainL ds
  | .con ds => plainL ds
  | .str x => PyData.strOk x
  | .obj _ => false
  | .exo _ _ => false
  | .fn _ => false
  | _ => true
noncomputable def plainL : List D → Bool
  | [] => true
  | d :: r => d.plain && plainL r
end
mutual
noncomputable def D.dp : D → Nat
  | .tup ds => dpL ds + 1
  | .con ds => dpL ds + 1
  | _ => 0
noncomputable def dpL : List D → Nat
  | [] => 0
  | d :: r => max d.dp (dpL r)
end
mutual
theorem toP_of (G : DH) : ∀ (d : D) (n : Nat), d.plain = true → d.dp < n → toP G n d = some d.pd
  | .non, n + 1, _, _ => by simp [toP, D.pd]
  | .bl b, n + 1, _, _ => by simp [toP, D.pd]
  | .int b, n + 1, _, _ => by simp [toP, D.pd]
  | .str b, n + 1, _, _ => by simp [toP, D.pd]
  | .tup ds, n + 1, h, hn => by
    rw [toP, toPs_of G ds n (by simpa [D.plain] using h) (by rw [D.dp] at hn; omega), D.pd]; rfl
  | .con ds, n + 1, h, hn => by
    rw [toP, toPs_of G ds n (by simpa [D.plain] using h) (by rw [D.dp] at hn; omega), D.pd]; rfl
  | .obj k, n + 1, h, _ => by simp [D.plain] at h
  | .exo _ _, n + 1, h, _ => by simp [D.plain] at h
  | .fn _, n + 1, h, _ => by simp [D.plain] at h
theorem toPs_of (G : DH) : ∀ (ds : List D) (n : Nat), plainL ds = true → dpL ds < n → optMap (toP G n) ds = some (pdL ds)
  | [], n, _, _ => by simp [optMap, pdL]
  | d :: ds, n, h, hn => by
    have h' : d.plain = true ∧ plainL ds = true := by simpa [plainL] using h
    rw [dpL] at hn
    rw [optMap, toP_of G d n h'.1 (by omega), toPs_of G ds n h'.2 (by omega), pdL]
end
mutual
theorem lay_of : ∀ (d : D), d.plain = true → d.pd.canLay0 = true
  | .non, _ => by simp [D.pd, PyData.canLay0]
  | .bl b, _ => by simp [D.pd, PyData.canLay0]
  | .int b, _ => by simp [D.pd, PyData.canLay0]
  | .str b, h => by simpa [D.pd, PyData.canLay0, D.plain] using h
  | .tup ds, h => by
    rw [D.pd, PyData.canLay0]; exact lays_of ds (by simpa [D.plain] using h)
  | .con ds, h => by
    rw [D.pd, PyData.canLay0]; exact lays_of ds (by simpa [D.plain] using h)
  | .obj k, h => by simp [D.plain] at h
  | .exo _ _, h => by simp [D.plain] at h
  | .fn _, h => by simp [D.plain] at h
theorem lays_of : ∀ (ds : List D), plainL ds = true → PyData.canLayAll0 (pdL ds) = true
  | [], _ => by simp [pdL, PyData.canLayAll0]
  | d :: ds, h => by
    have h' : d.plain = true ∧ plainL ds = true := by simpa [plainL] using h
    rw [pdL, PyData.canLayAll0, lay_of d h'.1, lays_of ds h'.2]; rfl
end
mutual
theorem dp_of : ∀ (d : D), d.pd.depth ≤ d.dp
  | .non => by simp [D.pd, PyData.depth]
  | .bl b => by simp [D.pd, PyData.depth]
  | .int b => by simp [D.pd, PyData.depth]
  | .str b => by simp [D.pd, PyData.depth]
  | .tup ds => by rw [D.pd, PyData.depth, D.dp]; exact Nat.succ_le_succ (dps_of ds)
  | .con ds => by rw [D.pd, PyData.depth, D.dp]; exact Nat.succ_le_succ (dps_of ds)
  | .obj k => by simp [D.pd, PyData.depth]
  | .exo _ _ => by simp [D.pd, PyData.depth]
  | .fn _ => by simp [D.pd, PyData.depth]
theorem dps_of : ∀ (ds : List D), PyData.depthAll (pdL ds) ≤ dpL ds
  | [] => by simp [pdL, PyData.depthAll]
  | d :: ds => by
    rw [pdL, PyData.depthAll, dpL]
    have := dp_of d
    have := dps_of ds
    omega
end
mutual
theorem eqv_self : ∀ (d : D), PyData.eqv d.pd d.pd = true
  | .non => by simp [D.pd, PyData.eqv]
  | .bl b => by simp [D.pd, PyData.eqv]
  | .int b => by simp [D.pd, PyData.eqv]
  | .str b => by simp [D.pd, PyData.eqv]
  | .tup ds => by rw [D.pd, PyData.eqv]; exact eqvs_self ds
  | .con ds => by rw [D.pd, PyData.eqv]; exact eqvs_self ds
  | .obj k => by simp [D.pd, PyData.eqv]
  | .exo _ _ => by simp [D.pd, PyData.eqv]
  | .fn _ => by simp [D.pd, PyData.eqv]
theorem eqvs_self : ∀ (ds : List D), PyData.eqvAll (pdL ds) (pdL ds) = true
  | [] => by simp [pdL, PyData.eqvAll]
  | d :: ds => by rw [pdL, PyData.eqvAll, eqv_self d, eqvs_self ds]; rfl
end
theorem dEq_self (g : Bool) (d : D) (G : DH) (h : d.plain = true) (hn : d.dp ≤ 580) : dEq g d d G = .ok (.bl (g ^^ true)) G := by
  have hd := dp_of d
  unfold dEq dEqB
  rw [toP_of G d deep h (by show d.dp < 600; omega)]
  dsimp only
  rw [if_pos (by rw [lay_of d h]; simp; omega), eqv_self]
theorem dEq_obj (g : Bool) (ds : List D) (k : Nat) (G : DH) (hk : G[k]? = some (.lst ds)) (h : plainL ds = true) (hn : dpL ds ≤ 570) : dEq g (.obj k) (.con ds) G = .ok (.bl (g ^^ true)) G := by
  have hd := dps_of ds
  have e1 : toP G deep (.obj k) = some (D.con ds).pd := by
    show (match G[k]? with
      | some (.lst ds) => (optMap (toP G 599) ds).map PyData.list
      | _ => none) = _
    rw [hk]
    dsimp only
    rw [toPs_of G ds 599 h (by omega), D.pd]; rfl
  have hp : (D.con ds).plain = true := by rw [D.plain]; exact h
  have hdp : (D.con ds).dp ≤ 580 := by rw [D.dp]; omega
  have := dp_of (.con ds)
  unfold dEq dEqB
  rw [e1, toP_of G (.con ds) deep hp (by show (D.con ds).dp < 600; omega)]
  dsimp only
  rw [if_pos (by rw [lay_of _ hp]; simp; omega), eqv_self]
theorem plainL_of : ∀ {xs : List D}, (∀ x ∈ xs, x.plain = true) → plainL xs = true
  | [], _ => rfl
  | x :: xs, h => by rw [plainL, h x (by simp), plainL_of fun y hy => h y (by simp [hy])]; rfl
theorem dpL_of {n : Nat} : ∀ {xs : List D}, (∀ x ∈ xs, x.dp ≤ n) → dpL xs ≤ n
  | [], _ => Nat.zero_le _
  | x :: xs, h => by
    rw [dpL]
    have := h x (by simp)
    have := dpL_of (xs := xs) fun y hy => h y (by simp [hy])
    omega
end L3
end
section
set_option Elab.async false
set_option linter.all false
set_option maxRecDepth 100000
set_option maxHeartbeats 4000000
namespace K31
open PySem PySem.Spec L2 L3
noncomputable def top (i : Nat) : Stmt := PySem.Challenge.pw_pathshape_k31_places.main.body.getD i (.Pass ⟨0, 0, 0, 0⟩)
noncomputable abbrev s_all_within : Stmt := top 1
noncomputable abbrev s_all_places : Stmt := top 3
noncomputable abbrev s_tree_at : Stmt := top 4
noncomputable abbrev s_placed_trees : Stmt := top 5
noncomputable abbrev s_placed_parts : Stmt := top 6
noncomputable abbrev s__law_mix : Stmt := top 8
noncomputable abbrev s__law_cells : Stmt := top 9
noncomputable abbrev s__law_names : Stmt := top 10
noncomputable abbrev s__law_rows : Stmt := top 11
noncomputable abbrev s__law_trees : Stmt := top 12
noncomputable abbrev s__law_spots : Stmt := top 13
noncomputable abbrev s__law_same : Stmt := top 14
noncomputable abbrev s__law_most : Stmt := top 15
noncomputable abbrev s_law : Stmt := top 16
noncomputable abbrev N_tree_at : List Str := ["tree", "place", "k"]
noncomputable abbrev kk_tree_at : Nat := 1
noncomputable def L0_tree_at : MS := sSet 0 (eOp dIx (eOp dIx (eVar 0) (eC (.int 1))) (eVar 2))
noncomputable def b_tree_at : MS := sSeq (sForIn (gN 2) (eVar 1) L0_tree_at) (sRet (eVar 0))
noncomputable def m_tree_at (ds : List D) : M D := pureM (fun ds => runB 3 b_tree_at ds) ds
noncomputable abbrev N_placed_parts : List Str := ["placed"]
noncomputable def b_placed_parts : MS := sRet (eFn (eCompV (oT 2) [true] (iEnumX (aCons (eOp dIx (eOp dIx (eVar 0) (eC (.int 1))) (eC (.int 1))) (aNil))) (tYes) (eArgs dTup (aCons (eOp dAddX (eOp dIx (eVar 2) (eC (.int 0))) (eArgs dTup (aCons (eVar 0) (aNil)))) (aCons (eVar 1) (aNil))))))
noncomputable def m_placed_parts (ds : List D) : M D := pureM (fun ds => runB 1 b_placed_parts ds) ds
noncomputable abbrev N__law_mix : List Str := ["_law_cell", "_law_k", "_law_digit", "_law_j", "_law_number"]
noncomputable abbrev kk__law_mix : Nat := 1
noncomputable def L0__law_mix : MS := sSet 2 (eOp dFdiv (eVar 2) (eC (.int 840)))
noncomputable def I0__law_mix : MS := sSeq (sSet 2 (eVar 0)) (sForRng rng1 (gN 3) (aCons (eOp dMod (eVar 1) (eC (.int 46))) (aNil)) L0__law_mix)
noncomputable def b__law_mix : MS := sSeq (sSet 2 (eC (.int 0))) (sSeq (sIf (tBl (eOp dGe (eVar 0) (eOp dPow (eC (.int 10)) (eC (.int 9))))) (I0__law_mix) (sSkip)) (sSeq (sIf (tBl (eOp dGt (eVar 2) (eC (.int 0)))) (sRet (eOp dMod (eVar 2) (eC (.int 840)))) (sSkip)) (sSeq (sSet 4 (eOp dAddX (eOp dAddX (eOp dMod (eVar 0) (eC (.int 1000000007))) (eOp dMul (eC (.int 7919)) (eVar 1))) (eC (.int 13)))) (sSeq (sSet 4 (eOp dMod (eOp dMul (eVar 4) (eVar 4)) (eC (.int 998244353)))) (sRet (eOp dFdiv (eOp dMod (eOp dMul (eVar 4) (eOp dAddX (eOp dAddX (eVar 4) (eOp dMul (eC (.int 16807)) (eVar 1))) (eC (.int 1)))) (eC (.int 1000000007))) (eC (.int 3))))))))
noncomputable def m__law_mix (ds : List D) : M D := pureM (fun ds => runB 5 b__law_mix ds) ds
noncomputable abbrev N__law_trees : List Str := ["_law_rows_here", "_law_held", "_law_trees_here", "_law_deep", "_law_kind", "_law_parts", "_law_tree"]
noncomputable abbrev kk__law_trees : Nat := 1
noncomputable def L0__law_trees : MS := sSeq (sSet 5 (eDGet2 (eVar 1) (eOp dAddX (eVar 3) (eC (.int 1))) (eFn (eArgs dNew (aNil))))) (sSeq (sDPut (eFn (eArgs dNew (aNil))) (eVar 1) (eOp dAddX (eVar 3) (eC (.int 1)))) (sSeq (sSet 6 (eArgs dTup (aCons (eVar 4) (aCons (eArgs dRevT (aCons (eVar 5) (aNil))) (aNil))))) (sSeq (sDPut (eFn (eOp dAddX (eDGet2 (eVar 1) (eVar 3) (eFn (eArgs dNew (aNil)))) (eFn (eArgs dNew (aCons (eVar 6) (aNil)))))) (eVar 1) (eVar 3)) (sExpr (eMethT "list" dAppend (eVar 2) (aCons (eVar 6) (aNil)))))))
noncomputable def b__law_trees : MS := sSeq (sSet 1 (eDNew)) (sSeq (sSet 2 (eArgs dNew (aNil))) (sSeq (sForV (gP 3 4) (iRev (aCons (eVar 0) (aNil))) L0__law_trees) (sRet (eFn (eArgs dRevL (aCons (eVar 2) (aNil)))))))
noncomputable def m__law_trees (ds : List D) : M D := pureM (fun ds => runB 7 b__law_trees ds) ds
noncomputable abbrev N__law_spots : List Str := ["_law_rows_here", "_law_spots_here", "_law_deep", "_law_kind", "_law_last"]
noncomputable abbrev kk__law_spots : Nat := 1
noncomputable def L0__law_spots : MS := sSeq (sSet 4 (eOp dIx (eVar 1) (eNeg (eC (.int 1))))) (sIf (tBl (eOp dGt (eVar 2) (eArgs dLen (aCons (eVar 4) (aNil))))) (sExpr (eMethT "list" dAppend (eVar 1) (aCons (eOp dAddX (eVar 4) (eArgs dTup (aCons (eC (.int 0)) (aNil)))) (aNil)))) (sExpr (eMethT "list" dAppend (eVar 1) (aCons (eOp dAddX (eFn (eSl (eVar 4) (oNone) (oSome (eOp dSub (eVar 2) (eC (.int 1)))))) (eArgs dTup (aCons (eOp dAddX (eOp dIx (eVar 4) (eOp dSub (eVar 2) (eC (.int 1)))) (eC (.int 1))) (aNil)))) (aNil)))))
noncomputable def b__law_spots : MS := sSeq (sSet 1 (eArgs dNew (aCons (eArgs dTup (aNil)) (aNil)))) (sSeq (sForIn (gP 2 3) (eFn (eSl (eVar 0) (oSome (eC (.int 1))) (oNone))) L0__law_spots) (sRet (eFz (eVar 1))))
noncomputable def m__law_spots (ds : List D) : M D := pureM (fun ds => runB 5 b__law_spots ds) ds
noncomputable abbrev N__law_same : List Str := ["_law_told", "_law_spots_here", "_law_place"]
noncomputable abbrev kk__law_same : Nat := 1
noncomputable def L0__law_same : MS := sIf (tOrD (tNotD (tTruth dTru (eIsi .tup (eVar 2)))) (tTruth dTru (eArgs (dAll true) (aCons (eFn (eComp oN [] (eVar 2) (tYes) (eIsi .bl (eVar 0)))) (aNil))))) (sRet (eC (.bl false))) (sSkip)
noncomputable def b__law_same : MS := sSeq (sIf (tOrD (tNotD (tTruth dTru (eIsi .lst (eVar 0)))) (tBl (eOp (dEq true) (eVar 0) (eVar 1)))) (sRet (eC (.bl false))) (sSkip)) (sSeq (sForIn (gN 2) (eVar 0) L0__law_same) (sRet (eC (.bl true))))
noncomputable def m__law_same (ds : List D) : M D := pureM (fun ds => runB 3 b__law_same ds) ds
noncomputable abbrev N_all_within : List Str := ["top", "parts_of", "found", "waiting", "one"]
noncomputable abbrev kk_all_within : Nat := 2
noncomputable def L0_all_within : MS := sSeq (sSet 4 (eMethT "list" dPop (eVar 3) aNil)) (sSeq (sExpr (eMethT "list" dAppend (eVar 2) (aCons (eVar 4) (aNil)))) (sExpr (eMethT "list" dExtX (eVar 3) (aCons (eFn (eArgs dRevL (aCons (eCallV 1 1 (fun y => List.lookup y [("placed_parts", m_placed_parts)]) (aCons (eVar 4) (aNil))) (aNil)))) (aNil)))))
noncomputable def b_all_within : MS := sSeq (sSet 2 (eArgs dNew (aNil))) (sSeq (sSet 3 (eArgs dNew (aCons (eVar 0) (aNil)))) (sSeq (sWhile (tBl (eOp dGt (eArgs dLen (aCons (eVar 3) (aNil))) (eC (.int 0)))) L0_all_within fuel) (sRet (eFz (eVar 2)))))
noncomputable def m_all_within (ds : List D) : M D := pureM (fun ds => runB 5 b_all_within ds) ds
noncomputable abbrev N__law_cells : List Str := ["_law_script", "_law_start", "_law_cells_here"]
noncomputable abbrev kk__law_cells : Nat := 2
noncomputable def b__law_cells : MS := sSeq (sSet 2 (eFn (eCompV oN [true] (iRng3 (aCons (eVar 1) (aCons (eArgs (dInt2L fun i j => if j < i then j else i) (aCons (eArgs dLen (aCons (eVar 0) (aNil))) (aCons (eC (.int 64)) (aNil)))) (aCons (eC (.int 2)) (aNil))))) (tYes) (eOp dIx (eVar 1) (eVar 0))))) (sRet (eFn (eOp dAddX (eVar 2) (eFn (eCompR rng1 oN [true, true] (aCons (eOp dSub (eC (.int 6)) (eArgs dLen (aCons (eVar 2) (aNil)))) (aNil)) (tYes) (eCall 2 m__law_mix (aCons (eArgs dLen (aCons (eVar 1) (aNil))) (aCons (eOp dAddX (eOp dAddX (eC (.int 40)) (eVar 2)) (eVar 0)) (aNil)))))))))
noncomputable def m__law_cells (ds : List D) : M D := pureM (fun ds => runB 3 b__law_cells ds) ds
noncomputable abbrev N__law_names : List Str := ["_law_cell", "_law_names_here", "_law_word", "_law_j", "_law_wide", "_law_place", "_law_k", "_law_name"]
noncomputable abbrev kk__law_names : Nat := 2
noncomputable def L0__law_names : MS := sSet 2 (eOp dAddX (eVar 2) (eOp dIx (eC (.str "abcdefghijklmnopqrstuvwxyz")) (eOp dMod (eCall 2 m__law_mix (aCons (eVar 0) (aCons (eOp dAddX (eC (.int 32)) (eVar 3)) (aNil)))) (eC (.int 26)))))
noncomputable def I0__law_names : MS := sSeq (sSet 2 (eC (.str "q"))) (sSeq (sForRng rng1 (gN 3) (aCons (eC (.int 7)) (aNil)) L0__law_names) (sRet (eFn (eCompR rng1 oN [true, false, true] (aCons (eC (.int 5)) (aNil)) (tYes) (eFn (eSl (eVar 3) (oNone) (oSome (eOp dAddX (eOp dAddX (eC (.int 1)) (eOp dMod (eCall 2 m__law_mix (aCons (eVar 1) (aCons (eC (.int 43)) (aNil)))) (eC (.int 4)))) (eVar 0)))))))))
noncomputable def L2__law_names : MS := sSet 7 (eOp dAddX (eVar 7) (eOp dIx (eC (.str "abcdefghijklmnopqrstuvwxyz")) (eOp dMod (eOp dAddX (eCall 2 m__law_mix (aCons (eVar 0) (aCons (eOp dAddX (eC (.int 32)) (eVar 3)) (aNil)))) (eOp dMul (eVar 6) (eArgs dInt1 (aCons (eOp (dEq false) (eVar 3) (eVar 5)) (aNil))))) (eC (.int 26)))))
noncomputable def T0__law_names : MS := sSeq (sIf (tBl (eOp (dIn false) (eVar 7) (eFn (eArgs dNew (aCons (eC (.str "start")) (aCons (eC (.str "rule")) (aCons (eC (.str "row")) (aCons (eC (.str "mix")) (aCons (eC (.str "many")) (aCons (eC (.str "any")) (aCons (eC (.str "kind")) (aCons (eC (.str "not")) (aCons (eC (.str "both")) (aCons (eC (.str "either")) (aCons (eC (.str "way")) (aCons (eC (.str "mark")) (aNil))))))))))))))))) (sSet 7 (eOp dAddX (eVar 7) (eC (.str "z")))) (sSkip)) (sExpr (eMethT "list" dAppend (eVar 1) (aCons (eVar 7) (aNil))))
noncomputable def L1__law_names : MS := sSeq (sSet 7 (eC (.str ""))) (sSeq (sForRng rng1 (gN 3) (aCons (eVar 4) (aNil)) L2__law_names) (T0__law_names))
noncomputable def b__law_names : MS := sSeq (sSet 1 (eArgs dNew (aNil))) (sSeq (sIf (tBl (eOp (dEq false) (eOp dMod (eCall 2 m__law_mix (aCons (eVar 0) (aCons (eC (.int 40)) (aNil)))) (eC (.int 3))) (eC (.int 0)))) (I0__law_names) (sSkip)) (sSeq (sSet 4 (eOp dAddX (eC (.int 1)) (eOp dMod (eCall 2 m__law_mix (aCons (eVar 0) (aCons (eC (.int 41)) (aNil)))) (eC (.int 8))))) (sSeq (sSet 5 (eOp dMod (eCall 2 m__law_mix (aCons (eVar 0) (aCons (eC (.int 42)) (aNil)))) (eVar 4))) (sSeq (sForRng rng1 (gN 6) (aCons (eC (.int 5)) (aNil)) L1__law_names) (sRet (eFz (eVar 1)))))))
noncomputable def m__law_names (ds : List D) : M D := pureM (fun ds => runB 8 b__law_names ds) ds
noncomputable abbrev N__law_rows : List Str := ["_law_cells_here", "_law_names_here", "_law_most_here", "_law_rows_here", "_law_cell", "_law_many", "_law_k", "_law_deep"]
noncomputable abbrev kk__law_rows : Nat := 2
noncomputable def L1__law_rows : MS := sSeq (sSet 7 (eOp dAddX (eC (.int 1)) (eOp dMod (eCall 2 m__law_mix (aCons (eVar 4) (aCons (eC (.int 4)) (aNil)))) (eOp dAddX (eOp dIx (eOp dIx (eVar 3) (eNeg (eC (.int 1)))) (eC (.int 0))) (eC (.int 1)))))) (sSeq (sIf (tBl (eOp dGt (eVar 6) (eC (.int 0)))) (sSet 7 (eOp dAddX (eOp dIx (eOp dIx (eVar 3) (eNeg (eC (.int 1)))) (eC (.int 0))) (eOp dMod (eCall 2 m__law_mix (aCons (eVar 4) (aCons (eC (.int 6)) (aNil)))) (eC (.int 2))))) (sSkip)) (sIf (tBl (eOp dLt (eArgs dLen (aCons (eVar 3) (aNil))) (eVar 2))) (sExpr (eMethT "list" dAppend (eVar 3) (aCons (eArgs dTup (aCons (eVar 7) (aCons (eOp dIx (eVar 1) (eOp dMod (eCall 2 m__law_mix (aCons (eVar 4) (aCons (eOp dAddX (eC (.int 7)) (eVar 6)) (aNil)))) (eC (.int 4)))) (aNil)))) (aNil)))) (sSkip)))
noncomputable def L0__law_rows : MS := sSeq (sSet 5 (eC (.int 1))) (sSeq (sIf (tBl (eOp (dEq false) (eOp dMod (eCall 2 m__law_mix (aCons (eVar 4) (aCons (eC (.int 2)) (aNil)))) (eC (.int 12))) (eC (.int 5)))) (sSet 5 (eOp dAddX (eC (.int 1)) (eOp dMod (eCall 2 m__law_mix (aCons (eVar 4) (aCons (eC (.int 3)) (aNil)))) (eC (.int 24))))) (sSkip)) (sForRng rng1 (gN 6) (aCons (eVar 5) (aNil)) L1__law_rows))
noncomputable def b__law_rows : MS := sSeq (sSet 3 (eArgs dNew (aCons (eArgs dTup (aCons (eC (.int 0)) (aCons (eOp dIx (eVar 1) (eOp dMod (eCall 2 m__law_mix (aCons (eOp dIx (eVar 0) (eC (.int 0))) (aCons (eC (.int 1)) (aNil)))) (eC (.int 4)))) (aNil)))) (aNil)))) (sSeq (sForIn (gN 4) (eVar 0) L0__law_rows) (sRet (eFz (eVar 3))))
noncomputable def m__law_rows (ds : List D) : M D := pureM (fun ds => runB 8 b__law_rows ds) ds
noncomputable abbrev N__law_most : List Str := ["_law_script", "_law_most_here", "_law_head"]
noncomputable abbrev kk__law_most : Nat := 2
noncomputable def b__law_most : MS := sSeq (sSet 2 (eCall 2 m__law_mix (aCons (eArgs dSum (aCons (eFn (eSl (eVar 0) (oNone) (oSome (eC (.int 1))))) (aNil))) (aCons (eC (.int 44)) (aNil))))) (sSeq (sIf (tBl (eOp (dEq false) (eOp dMod (eVar 2) (eC (.int 4))) (eC (.int 1)))) (sRet (eOp dAddX (eC (.int 1)) (eOp dMod (eOp dFdiv (eVar 2) (eC (.int 4))) (eC (.int 6))))) (sSkip)) (sRet (eVar 1)))
noncomputable def m__law_most (ds : List D) : M D := pureM (fun ds => runB 3 b__law_most ds) ds
noncomputable abbrev N_placed_trees : List Str := ["tree"]
noncomputable abbrev kk_placed_trees : Nat := 3
noncomputable def b_placed_trees : MS := sRet (eCall 2 m_all_within (aCons (eArgs dTup (aCons (eArgs dTup (aNil)) (aCons (eVar 0) (aNil)))) (aCons (eC (.fn "placed_parts")) (aNil))))
noncomputable def m_placed_trees (ds : List D) : M D := pureM (fun ds => runB 1 b_placed_trees ds) ds
noncomputable abbrev N_all_places : List Str := ["tree"]
noncomputable abbrev kk_all_places : Nat := 4
noncomputable def b_all_places : MS := sRet (eFn (eComp (oT 2) [] (eCall 1 m_placed_trees (aCons (eVar 0) (aNil))) (tYes) (eVar 0)))
noncomputable def m_all_places (ds : List D) : M D := pureM (fun ds => runB 1 b_all_places ds) ds
noncomputable abbrev kk_all_places_o : Nat := 4
noncomputable def b_all_places_o : MS := sRet (eComp (oT 2) [] (eCall 1 m_placed_trees (aCons (eVar 0) (aNil))) (tYes) (eVar 0))
noncomputable def m_all_places_o (ds : List D) : M D := freshM (fun ds => runB 1 b_all_places_o ds) ds
noncomputable abbrev N_law : List Str := ["_law_script", "_law_names_here", "_law_rows_here", "_law_trees_here", "_law_spots_here", "_law_told", "_law_place", "_law_tree"]
noncomputable def L0_law : MS := sIf (tBl (eOp (dEq true) (eCall 2 m_tree_at (aCons (eOp dIx (eVar 3) (eC (.int 0))) (aCons (eVar 6) (aNil)))) (eVar 7))) (sRet (eC (.bl false))) (sSkip)
noncomputable def T0_law : MS := sSeq (sExpr (eMethT "list" dClear (eVar 5) aNil)) (sSeq (sExpr (eMethT "list" dAppend (eVar 5) (aCons (eArgs dTup (aNil)) (aNil)))) (sRet (eAnd (eCall 2 m__law_same (aCons (eCall 1 m_all_places (aCons (eOp dIx (eVar 3) (eC (.int 0))) (aNil))) (aCons (eVar 4) (aNil)))) (eOp (dEq false) (eVar 3) (eCall 1 m__law_trees (aCons (eVar 2) (aNil)))))))
noncomputable def b_law : MS := sSeq (sSet 1 (eCall 1 m__law_names (aCons (eArgs dSum (aCons (eFn (eSl (eVar 0) (oNone) (oSome (eC (.int 1))))) (aNil))) (aNil)))) (sSeq (sSet 2 (eCall 3 m__law_rows (aCons (eFn (eOp dAddX (eCall 2 m__law_cells (aCons (eVar 0) (aCons (eC (.int 0)) (aNil)))) (eCall 2 m__law_cells (aCons (eVar 0) (aCons (eC (.int 1)) (aNil)))))) (aCons (eVar 1) (aCons (eCall 2 m__law_most (aCons (eVar 0) (aCons (eC (.int 100)) (aNil)))) (aNil)))))) (sSeq (sSet 3 (eCall 1 m__law_trees (aCons (eVar 2) (aNil)))) (sSeq (sSet 4 (eCall 1 m__law_spots (aCons (eVar 2) (aNil)))) (sSeq (sSet 5 (eCall 1 m_all_places_o (aCons (eOp dIx (eVar 3) (eC (.int 0))) (aNil)))) (sSeq (sIf (tNotD (tTruth dTru (eCall 2 m__law_same (aCons (eVar 5) (aCons (eVar 4) (aNil)))))) (sRet (eC (.bl false))) (sSkip)) (sSeq (sForV (gP 6 7) (iZip (aCons (eVar 4) (aCons (eVar 3) (aNil)))) L0_law) (T0_law)))))))
noncomputable def m_law (ds : List D) : M D := pureM (fun ds => runB 8 b_law ds) ds
structure Adr where
  f : Nat → Addr
  d : Nat → FuncData
  c : Nat → Addr
structure Txt (K : PySem.W.Frag) (mg : Str → Option Value) (t : Adr) : Prop where
  F_all_within : Fun K "all_within" "all_within" s_all_within (t.f 0) (t.d 0)
  B_all_within : Binds K (t.d 0) ["top", "parts_of"] []
  M_all_within : mg "all_within" = some (.ref (t.f 0))
  F_all_places : Fun K "all_places" "all_places" s_all_places (t.f 1) (t.d 1)
  B_all_places : Binds K (t.d 1) ["tree"] []
  M_all_places : mg "all_places" = some (.ref (t.f 1))
  F_tree_at : Fun K "tree_at" "tree_at" s_tree_at (t.f 2) (t.d 2)
  B_tree_at : Binds K (t.d 2) ["tree", "place"] []
  M_tree_at : mg "tree_at" = some (.ref (t.f 2))
  F_placed_trees : Fun K "placed_trees" "placed_trees" s_placed_trees (t.f 3) (t.d 3)
  B_placed_trees : Binds K (t.d 3) ["tree"] []
  M_placed_trees : mg "placed_trees" = some (.ref (t.f 3))
  F_placed_parts : Fun K "placed_parts" "placed_parts" s_placed_parts (t.f 4) (t.d 4)
  B_placed_parts : Binds K (t.d 4) ["placed"] []
  M_placed_parts : mg "placed_parts" = some (.ref (t.f 4))
  F__law_mix : Fun K "_law_mix" "_law_mix" s__law_mix (t.f 5) (t.d 5)
  B__law_mix : Binds K (t.d 5) ["_law_cell", "_law_k"] []
  M__law_mix : mg "_law_mix" = some (.ref (t.f 5))
  F__law_cells : Fun K "_law_cells" "_law_cells" s__law_cells (t.f 6) (t.d 6)
  B__law_cells : Binds K (t.d 6) ["_law_script", "_law_start"] []
  M__law_cells : mg "_law_cells" = some (.ref (t.f 6))
  F__law_names : Fun K "_law_names" "_law_names" s__law_names (t.f 7) (t.d 7)
  B__law_names : Binds K (t.d 7) ["_law_cell"] []
  M__law_names : mg "_law_names" = some (.ref (t.f 7))
  F__law_rows : Fun K "_law_rows" "_law_rows" s__law_rows (t.f 8) (t.d 8)
  B__law_rows : Binds K (t.d 8) ["_law_cells_here", "_law_names_here", "_law_most_here"] []
  M__law_rows : mg "_law_rows" = some (.ref (t.f 8))
  F__law_trees : Fun K "_law_trees" "_law_trees" s__law_trees (t.f 9) (t.d 9)
  B__law_trees : Binds K (t.d 9) ["_law_rows_here"] []
  M__law_trees : mg "_law_trees" = some (.ref (t.f 9))
  F__law_spots : Fun K "_law_spots" "_law_spots" s__law_spots (t.f 10) (t.d 10)
  B__law_spots : Binds K (t.d 10) ["_law_rows_here"] []
  M__law_spots : mg "_law_spots" = some (.ref (t.f 10))
  F__law_same : Fun K "_law_same" "_law_same" s__law_same (t.f 11) (t.d 11)
  B__law_same : Binds K (t.d 11) ["_law_told", "_law_spots_here"] []
  M__law_same : mg "_law_same" = some (.ref (t.f 11))
  F__law_most : Fun K "_law_most" "_law_most" s__law_most (t.f 12) (t.d 12)
  B__law_most : Binds K (t.d 12) ["_law_script", "_law_most_here"] []
  M__law_most : mg "_law_most" = some (.ref (t.f 12))
  F_law : Fun K "law" "law" s_law (t.f 13) (t.d 13)
  B_law : Binds K (t.d 13) ["_law_script"] []
  M_law : mg "law" = some (.ref (t.f 13))
  N_any : mg "any" = none
  N_bool : mg "bool" = none
  N_enumerate : mg "enumerate" = none
  N_int : mg "int" = none
  N_isinstance : mg "isinstance" = none
  N_len : mg "len" = none
  N_list : mg "list" = none
  N_min : mg "min" = none
  N_range : mg "range" = none
  N_reversed : mg "reversed" = none
  N_sum : mg "sum" = none
  N_tuple : mg "tuple" = none
  N_zip : mg "zip" = none
theorem dn__law_cell : (("_law_cell" : Str) == ("__debug__" : Str)) = false ∧ (("_law_cell" : Str) == ("__classdict__" : Str)) = false := by decide +kernel
theorem dn__law_cells : (("_law_cells" : Str) == ("__debug__" : Str)) = false ∧ (("_law_cells" : Str) == ("__classdict__" : Str)) = false := by decide +kernel
theorem dn__law_cells_here : (("_law_cells_here" : Str) == ("__debug__" : Str)) = false ∧ (("_law_cells_here" : Str) == ("__classdict__" : Str)) = false := by decide +kernel
theorem dn__law_deep : (("_law_deep" : Str) == ("__debug__" : Str)) = false ∧ (("_law_deep" : Str) == ("__classdict__" : Str)) = false := by decide +kernel
theorem dn__law_digit : (("_law_digit" : Str) == ("__debug__" : Str)) = false ∧ (("_law_digit" : Str) == ("__classdict__" : Str)) = false := by decide +kernel
theorem dn__law_head : (("_law_head" : Str) == ("__debug__" : Str)) = false ∧ (("_law_head" : Str) == ("__classdict__" : Str)) = false := by decide +kernel
theorem dn__law_held : (("_law_held" : Str) == ("__debug__" : Str)) = false ∧ (("_law_held" : Str) == ("__classdict__" : Str)) = false := by decide +kernel
theorem dn__law_j : (("_law_j" : Str) == ("__debug__" : Str)) = false ∧ (("_law_j" : Str) == ("__classdict__" : Str)) = false := by decide +kernel
theorem dn__law_k : (("_law_k" : Str) == ("__debug__" : Str)) = false ∧ (("_law_k" : Str) == ("__classdict__" : Str)) = false := by decide +kernel
theorem dn__law_kind : (("_law_kind" : Str) == ("__debug__" : Str)) = false ∧ (("_law_kind" : Str) == ("__classdict__" : Str)) = false := by decide +kernel
theorem dn__law_last : (("_law_last" : Str) == ("__debug__" : Str)) = false ∧ (("_law_last" : Str) == ("__classdict__" : Str)) = false := by decide +kernel
theorem dn__law_many : (("_law_many" : Str) == ("__debug__" : Str)) = false ∧ (("_law_many" : Str) == ("__classdict__" : Str)) = false := by decide +kernel
theorem dn__law_mix : (("_law_mix" : Str) == ("__debug__" : Str)) = false ∧ (("_law_mix" : Str) == ("__classdict__" : Str)) = false := by decide +kernel
theorem dn__law_most : (("_law_most" : Str) == ("__debug__" : Str)) = false ∧ (("_law_most" : Str) == ("__classdict__" : Str)) = false := by decide +kernel
theorem dn__law_most_here : (("_law_most_here" : Str) == ("__debug__" : Str)) = false ∧ (("_law_most_here" : Str) == ("__classdict__" : Str)) = false := by decide +kernel
theorem dn__law_name : (("_law_name" : Str) == ("__debug__" : Str)) = false ∧ (("_law_name" : Str) == ("__classdict__" : Str)) = false := by decide +kernel
theorem dn__law_names : (("_law_names" : Str) == ("__debug__" : Str)) = false ∧ (("_law_names" : Str) == ("__classdict__" : Str)) = false := by decide +kernel
theorem dn__law_names_here : (("_law_names_here" : Str) == ("__debug__" : Str)) = false ∧ (("_law_names_here" : Str) == ("__classdict__" : Str)) = false := by decide +kernel
theorem dn__law_number : (("_law_number" : Str) == ("__debug__" : Str)) = false ∧ (("_law_number" : Str) == ("__classdict__" : Str)) = false := by decide +kernel
theorem dn__law_parts : (("_law_parts" : Str) == ("__debug__" : Str)) = false ∧ (("_law_parts" : Str) == ("__classdict__" : Str)) = false := by decide +kernel
theorem dn__law_place : (("_law_place" : Str) == ("__debug__" : Str)) = false ∧ (("_law_place" : Str) == ("__classdict__" : Str)) = false := by decide +kernel
theorem dn__law_rows : (("_law_rows" : Str) == ("__debug__" : Str)) = false ∧ (("_law_rows" : Str) == ("__classdict__" : Str)) = false := by decide +kernel
theorem dn__law_rows_here : (("_law_rows_here" : Str) == ("__debug__" : Str)) = false ∧ (("_law_rows_here" : Str) == ("__classdict__" : Str)) = false := by decide +kernel
theorem dn__law_same : (("_law_same" : Str) == ("__debug__" : Str)) = false ∧ (("_law_same" : Str) == ("__classdict__" : Str)) = false := by decide +kernel
theorem dn__law_script : (("_law_script" : Str) == ("__debug__" : Str)) = false ∧ (("_law_script" : Str) == ("__classdict__" : Str)) = false := by decide +kernel
theorem dn__law_spots : (("_law_spots" : Str) == ("__debug__" : Str)) = false ∧ (("_law_spots" : Str) == ("__classdict__" : Str)) = false := by decide +kernel
theorem dn__law_spots_here : (("_law_spots_here" : Str) == ("__debug__" : Str)) = false ∧ (("_law_spots_here" : Str) == ("__classdict__" : Str)) = false := by decide +kernel
theorem dn__law_start : (("_law_start" : Str) == ("__debug__" : Str)) = false ∧ (("_law_start" : Str) == ("__classdict__" : Str)) = false := by decide +kernel
theorem dn__law_told : (("_law_told" : Str) == ("__debug__" : Str)) = false ∧ (("_law_told" : Str) == ("__classdict__" : Str)) = false := by decide +kernel
theorem dn__law_tree : (("_law_tree" : Str) == ("__debug__" : Str)) = false ∧ (("_law_tree" : Str) == ("__classdict__" : Str)) = false := by decide +kernel
theorem dn__law_trees : (("_law_trees" : Str) == ("__debug__" : Str)) = false ∧ (("_law_trees" : Str) == ("__classdict__" : Str)) = false := by decide +kernel
theorem dn__law_trees_here : (("_law_trees_here" : Str) == ("__debug__" : Str)) = false ∧ (("_law_trees_here" : Str) == ("__classdict__" : Str)) = false := by decide +kernel
theorem dn__law_wide : (("_law_wide" : Str) == ("__debug__" : Str)) = false ∧ (("_law_wide" : Str) == ("__classdict__" : Str)) = false := by decide +kernel
theorem dn__law_word : (("_law_word" : Str) == ("__debug__" : Str)) = false ∧ (("_law_word" : Str) == ("__classdict__" : Str)) = false := by decide +kernel
theorem dn_all_places : (("all_places" : Str) == ("__debug__" : Str)) = false ∧ (("all_places" : Str) == ("__classdict__" : Str)) = false := by decide +kernel
theorem dn_all_within : (("all_within" : Str) == ("__debug__" : Str)) = false ∧ (("all_within" : Str) == ("__classdict__" : Str)) = false := by decide +kernel
theorem dn_bool : (("bool" : Str) == ("__debug__" : Str)) = false ∧ (("bool" : Str) == ("__classdict__" : Str)) = false := by decide +kernel
theorem dn_found : (("found" : Str) == ("__debug__" : Str)) = false ∧ (("found" : Str) == ("__classdict__" : Str)) = false := by decide +kernel
theorem dn_k : (("k" : Str) == ("__debug__" : Str)) = false ∧ (("k" : Str) == ("__classdict__" : Str)) = false := by decide +kernel
theorem dn_list : (("list" : Str) == ("__debug__" : Str)) = false ∧ (("list" : Str) == ("__classdict__" : Str)) = false := by decide +kernel
theorem dn_one : (("one" : Str) == ("__debug__" : Str)) = false ∧ (("one" : Str) == ("__classdict__" : Str)) = false := by decide +kernel
theorem dn_part : (("part" : Str) == ("__debug__" : Str)) = false ∧ (("part" : Str) == ("__classdict__" : Str)) = false := by decide +kernel
theorem dn_parts_of : (("parts_of" : Str) == ("__debug__" : Str)) = false ∧ (("parts_of" : Str) == ("__classdict__" : Str)) = false := by decide +kernel
theorem dn_place : (("place" : Str) == ("__debug__" : Str)) = false ∧ (("place" : Str) == ("__classdict__" : Str)) = false := by decide +kernel
theorem dn_placed : (("placed" : Str) == ("__debug__" : Str)) = false ∧ (("placed" : Str) == ("__classdict__" : Str)) = false := by decide +kernel
theorem dn_placed_parts : (("placed_parts" : Str) == ("__debug__" : Str)) = false ∧ (("placed_parts" : Str) == ("__classdict__" : Str)) = false := by decide +kernel
theorem dn_placed_trees : (("placed_trees" : Str) == ("__debug__" : Str)) = false ∧ (("placed_trees" : Str) == ("__classdict__" : Str)) = false := by decide +kernel
theorem dn_top : (("top" : Str) == ("__debug__" : Str)) = false ∧ (("top" : Str) == ("__classdict__" : Str)) = false := by decide +kernel
theorem dn_tree : (("tree" : Str) == ("__debug__" : Str)) = false ∧ (("tree" : Str) == ("__classdict__" : Str)) = false := by decide +kernel
theorem dn_tree_at : (("tree_at" : Str) == ("__debug__" : Str)) = false ∧ (("tree_at" : Str) == ("__classdict__" : Str)) = false := by decide +kernel
theorem dn_tuple : (("tuple" : Str) == ("__debug__" : Str)) = false ∧ (("tuple" : Str) == ("__classdict__" : Str)) = false := by decide +kernel
theorem dn_waiting : (("waiting" : Str) == ("__debug__" : Str)) = false ∧ (("waiting" : Str) == ("__classdict__" : Str)) = false := by decide +kernel
theorem bt_bool : bootBuiltins "bool" = some (.type (Ty.nm .bl)) := by decide +kernel
theorem nn_bool : ("bool" : Str) ≠ "__name__" := by decide +kernel
theorem bt_list : bootBuiltins "list" = some (.type (Ty.nm .lst)) := by decide +kernel
theorem nn_list : ("list" : Str) ≠ "__name__" := by decide +kernel
theorem bt_tuple : bootBuiltins "tuple" = some (.type (Ty.nm .tup)) := by decide +kernel
theorem nn_tuple : ("tuple" : Str) ≠ "__name__" := by decide +kernel
noncomputable def cs_all_places_0 : Scope := {
                      kind := PySem.ScopeKind.function,
                      names := [
                        (PySem.Str.ofString ".0", PySem.NameKind.local),
                        (PySem.Str.ofString "place", PySem.NameKind.local),
                        (PySem.Str.ofString "part", PySem.NameKind.local)],
                      isGenerator := false,
                      isCoroutine := false,
                      more := [] : PySem.Scope }
theorem S_cs_all_places_0 : CompSc (defScope s_all_places) N_all_places cs_all_places_0 ["place", "part"] [] := ⟨by decide +kernel, rfl, by decide +kernel, by decide +kernel, by decide +kernel, by decide +kernel, by decide +kernel⟩
noncomputable def cs_placed_parts_0 : Scope := {
                      kind := PySem.ScopeKind.function,
                      names := [
                        (PySem.Str.ofString ".0", PySem.NameKind.local),
                        (PySem.Str.ofString "k", PySem.NameKind.local),
                        (PySem.Str.ofString "part", PySem.NameKind.local),
                        (PySem.Str.ofString "placed", PySem.NameKind.free)],
                      isGenerator := false,
                      isCoroutine := false,
                      more := [] : PySem.Scope }
theorem S_cs_placed_parts_0 : CompSc (defScope s_placed_parts) N_placed_parts cs_placed_parts_0 ["k", "part"] [true] := ⟨by decide +kernel, rfl, by decide +kernel, by decide +kernel, by decide +kernel, by decide +kernel, by decide +kernel⟩
noncomputable def cs__law_cells_0 : Scope := {
                    kind := PySem.ScopeKind.function,
                    names := [
                      (PySem.Str.ofString ".0", PySem.NameKind.local),
                      (PySem.Str.ofString "_law_k", PySem.NameKind.local),
                      (PySem.Str.ofString "_law_script", PySem.NameKind.free)],
                    isGenerator := false,
                    isCoroutine := false,
                    more := [] : PySem.Scope }
theorem S_cs__law_cells_0 : CompSc (defScope s__law_cells) N__law_cells cs__law_cells_0 ["_law_k"] [true] := ⟨by decide +kernel, rfl, by decide +kernel, by decide +kernel, by decide +kernel, by decide +kernel, by decide +kernel⟩
noncomputable def cs__law_cells_1 : Scope := {
                        kind := PySem.ScopeKind.function,
                        names := [
                          (PySem.Str.ofString ".0", PySem.NameKind.local),
                          (PySem.Str.ofString "_law_k", PySem.NameKind.local),
                          (PySem.Str.ofString "_law_mix", PySem.NameKind.globalImplicit),
                          (PySem.Str.ofString "len", PySem.NameKind.globalImplicit),
                          (PySem.Str.ofString "_law_script", PySem.NameKind.free),
                          (PySem.Str.ofString "_law_start", PySem.NameKind.free)],
                        isGenerator := false,
                        isCoroutine := false,
                        more := [] : PySem.Scope }
theorem S_cs__law_cells_1 : CompSc (defScope s__law_cells) N__law_cells cs__law_cells_1 ["_law_k"] [true, true] := ⟨by decide +kernel, rfl, by decide +kernel, by decide +kernel, by decide +kernel, by decide +kernel, by decide +kernel⟩
noncomputable def cs__law_names_0 : Scope := {
                          kind := PySem.ScopeKind.function,
                          names := [
                            (PySem.Str.ofString ".0", PySem.NameKind.local),
                            (PySem.Str.ofString "_law_k", PySem.NameKind.local),
                            (PySem.Str.ofString "_law_mix", PySem.NameKind.globalImplicit),
                            (PySem.Str.ofString "_law_cell", PySem.NameKind.free),
                            (PySem.Str.ofString "_law_word", PySem.NameKind.free)],
                          isGenerator := false,
                          isCoroutine := false,
                          more := [] : PySem.Scope }
theorem S_cs__law_names_0 : CompSc (defScope s__law_names) N__law_names cs__law_names_0 ["_law_k"] [true, false, true] := ⟨by decide +kernel, rfl, by decide +kernel, by decide +kernel, by decide +kernel, by decide +kernel, by decide +kernel⟩
noncomputable def cs__law_same_0 : Scope := {
                                kind := PySem.ScopeKind.function,
                                names := [
                                  (PySem.Str.ofString ".0", PySem.NameKind.local),
                                  (PySem.Str.ofString "_law_k", PySem.NameKind.local),
                                  (PySem.Str.ofString "isinstance", PySem.NameKind.globalImplicit),
                                  (PySem.Str.ofString "bool", PySem.NameKind.globalImplicit)],
                                isGenerator := false,
                                isCoroutine := false,
                                more := [] : PySem.Scope }
theorem S_cs__law_same_0 : CompSc (defScope s__law_same) N__law_same cs__law_same_0 ["_law_k"] [] := ⟨by decide +kernel, rfl, by decide +kernel, by decide +kernel, by decide +kernel, by decide +kernel, by decide +kernel⟩
noncomputable def cs_all_places_o_0 : Scope := {
                      kind := PySem.ScopeKind.function,
                      names := [
                        (PySem.Str.ofString ".0", PySem.NameKind.local),
                        (PySem.Str.ofString "place", PySem.NameKind.local),
                        (PySem.Str.ofString "part", PySem.NameKind.local)],
                      isGenerator := false,
                      isCoroutine := false,
                      more := [] : PySem.Scope }
theorem S_cs_all_places_o_0 : CompSc (defScope s_all_places) N_all_places cs_all_places_o_0 ["place", "part"] [] := ⟨by decide +kernel, rfl, by decide +kernel, by decide +kernel, by decide +kernel, by decide +kernel, by decide +kernel⟩
theorem lk__law_cells__law_cells_here : (defScope s__law_cells).names.lookup ("_law_cells_here" : Str) = some .local := by decide +kernel
theorem lk__law_cells__law_script : (defScope s__law_cells).names.lookup ("_law_script" : Str) = some .cell := by decide +kernel
theorem lk__law_cells__law_start : (defScope s__law_cells).names.lookup ("_law_start" : Str) = some .cell := by decide +kernel
theorem lk__law_cells_len : (defScope s__law_cells).names.lookup ("len" : Str) = some .globalImplicit := by decide +kernel
theorem lk__law_cells_min : (defScope s__law_cells).names.lookup ("min" : Str) = some .globalImplicit := by decide +kernel
theorem lk__law_cells_range : (defScope s__law_cells).names.lookup ("range" : Str) = some .globalImplicit := by decide +kernel
theorem lk__law_mix__law_cell : (defScope s__law_mix).names.lookup ("_law_cell" : Str) = some .local := by decide +kernel
theorem lk__law_mix__law_digit : (defScope s__law_mix).names.lookup ("_law_digit" : Str) = some .local := by decide +kernel
theorem lk__law_mix__law_j : (defScope s__law_mix).names.lookup ("_law_j" : Str) = some .local := by decide +kernel
theorem lk__law_mix__law_k : (defScope s__law_mix).names.lookup ("_law_k" : Str) = some .local := by decide +kernel
theorem lk__law_mix__law_number : (defScope s__law_mix).names.lookup ("_law_number" : Str) = some .local := by decide +kernel
theorem lk__law_mix_range : (defScope s__law_mix).names.lookup ("range" : Str) = some .globalImplicit := by decide +kernel
theorem lk__law_most__law_head : (defScope s__law_most).names.lookup ("_law_head" : Str) = some .local := by decide +kernel
theorem lk__law_most__law_mix : (defScope s__law_most).names.lookup ("_law_mix" : Str) = some .globalImplicit := by decide +kernel
theorem lk__law_most__law_most_here : (defScope s__law_most).names.lookup ("_law_most_here" : Str) = some .local := by decide +kernel
theorem lk__law_most__law_script : (defScope s__law_most).names.lookup ("_law_script" : Str) = some .local := by decide +kernel
theorem lk__law_most_sum : (defScope s__law_most).names.lookup ("sum" : Str) = some .globalImplicit := by decide +kernel
theorem lk__law_names__law_cell : (defScope s__law_names).names.lookup ("_law_cell" : Str) = some .cell := by decide +kernel
theorem lk__law_names__law_j : (defScope s__law_names).names.lookup ("_law_j" : Str) = some .local := by decide +kernel
theorem lk__law_names__law_k : (defScope s__law_names).names.lookup ("_law_k" : Str) = some .local := by decide +kernel
theorem lk__law_names__law_mix : (defScope s__law_names).names.lookup ("_law_mix" : Str) = some .globalImplicit := by decide +kernel
theorem lk__law_names__law_name : (defScope s__law_names).names.lookup ("_law_name" : Str) = some .local := by decide +kernel
theorem lk__law_names__law_names_here : (defScope s__law_names).names.lookup ("_law_names_here" : Str) = some .local := by decide +kernel
theorem lk__law_names__law_place : (defScope s__law_names).names.lookup ("_law_place" : Str) = some .local := by decide +kernel
theorem lk__law_names__law_wide : (defScope s__law_names).names.lookup ("_law_wide" : Str) = some .local := by decide +kernel
theorem lk__law_names__law_word : (defScope s__law_names).names.lookup ("_law_word" : Str) = some .cell := by decide +kernel
theorem lk__law_names_int : (defScope s__law_names).names.lookup ("int" : Str) = some .globalImplicit := by decide +kernel
theorem lk__law_names_range : (defScope s__law_names).names.lookup ("range" : Str) = some .globalImplicit := by decide +kernel
theorem lk__law_rows__law_cell : (defScope s__law_rows).names.lookup ("_law_cell" : Str) = some .local := by decide +kernel
theorem lk__law_rows__law_cells_here : (defScope s__law_rows).names.lookup ("_law_cells_here" : Str) = some .local := by decide +kernel
theorem lk__law_rows__law_deep : (defScope s__law_rows).names.lookup ("_law_deep" : Str) = some .local := by decide +kernel
theorem lk__law_rows__law_k : (defScope s__law_rows).names.lookup ("_law_k" : Str) = some .local := by decide +kernel
theorem lk__law_rows__law_many : (defScope s__law_rows).names.lookup ("_law_many" : Str) = some .local := by decide +kernel
theorem lk__law_rows__law_mix : (defScope s__law_rows).names.lookup ("_law_mix" : Str) = some .globalImplicit := by decide +kernel
theorem lk__law_rows__law_most_here : (defScope s__law_rows).names.lookup ("_law_most_here" : Str) = some .local := by decide +kernel
theorem lk__law_rows__law_names_here : (defScope s__law_rows).names.lookup ("_law_names_here" : Str) = some .local := by decide +kernel
theorem lk__law_rows__law_rows_here : (defScope s__law_rows).names.lookup ("_law_rows_here" : Str) = some .local := by decide +kernel
theorem lk__law_rows_len : (defScope s__law_rows).names.lookup ("len" : Str) = some .globalImplicit := by decide +kernel
theorem lk__law_rows_range : (defScope s__law_rows).names.lookup ("range" : Str) = some .globalImplicit := by decide +kernel
theorem lk__law_same__law_place : (defScope s__law_same).names.lookup ("_law_place" : Str) = some .local := by decide +kernel
theorem lk__law_same__law_spots_here : (defScope s__law_same).names.lookup ("_law_spots_here" : Str) = some .local := by decide +kernel
theorem lk__law_same__law_told : (defScope s__law_same).names.lookup ("_law_told" : Str) = some .local := by decide +kernel
theorem lk__law_same_any : (defScope s__law_same).names.lookup ("any" : Str) = some .globalImplicit := by decide +kernel
theorem lk__law_same_isinstance : (defScope s__law_same).names.lookup ("isinstance" : Str) = some .globalImplicit := by decide +kernel
theorem lk__law_same_list : (defScope s__law_same).names.lookup ("list" : Str) = some .globalImplicit := by decide +kernel
theorem lk__law_same_tuple : (defScope s__law_same).names.lookup ("tuple" : Str) = some .globalImplicit := by decide +kernel
theorem lk__law_spots__law_deep : (defScope s__law_spots).names.lookup ("_law_deep" : Str) = some .local := by decide +kernel
theorem lk__law_spots__law_kind : (defScope s__law_spots).names.lookup ("_law_kind" : Str) = some .local := by decide +kernel
theorem lk__law_spots__law_last : (defScope s__law_spots).names.lookup ("_law_last" : Str) = some .local := by decide +kernel
theorem lk__law_spots__law_rows_here : (defScope s__law_spots).names.lookup ("_law_rows_here" : Str) = some .local := by decide +kernel
theorem lk__law_spots__law_spots_here : (defScope s__law_spots).names.lookup ("_law_spots_here" : Str) = some .local := by decide +kernel
theorem lk__law_spots_len : (defScope s__law_spots).names.lookup ("len" : Str) = some .globalImplicit := by decide +kernel
theorem lk__law_trees__law_deep : (defScope s__law_trees).names.lookup ("_law_deep" : Str) = some .local := by decide +kernel
theorem lk__law_trees__law_held : (defScope s__law_trees).names.lookup ("_law_held" : Str) = some .local := by decide +kernel
theorem lk__law_trees__law_kind : (defScope s__law_trees).names.lookup ("_law_kind" : Str) = some .local := by decide +kernel
theorem lk__law_trees__law_parts : (defScope s__law_trees).names.lookup ("_law_parts" : Str) = some .local := by decide +kernel
theorem lk__law_trees__law_rows_here : (defScope s__law_trees).names.lookup ("_law_rows_here" : Str) = some .local := by decide +kernel
theorem lk__law_trees__law_tree : (defScope s__law_trees).names.lookup ("_law_tree" : Str) = some .local := by decide +kernel
theorem lk__law_trees__law_trees_here : (defScope s__law_trees).names.lookup ("_law_trees_here" : Str) = some .local := by decide +kernel
theorem lk__law_trees_list : (defScope s__law_trees).names.lookup ("list" : Str) = some .globalImplicit := by decide +kernel
theorem lk__law_trees_reversed : (defScope s__law_trees).names.lookup ("reversed" : Str) = some .globalImplicit := by decide +kernel
theorem lk__law_trees_tuple : (defScope s__law_trees).names.lookup ("tuple" : Str) = some .globalImplicit := by decide +kernel
theorem lk_all_places_placed_trees : (defScope s_all_places).names.lookup ("placed_trees" : Str) = some .globalImplicit := by decide +kernel
theorem lk_all_places_tree : (defScope s_all_places).names.lookup ("tree" : Str) = some .local := by decide +kernel
theorem lk_all_within_found : (defScope s_all_within).names.lookup ("found" : Str) = some .local := by decide +kernel
theorem lk_all_within_len : (defScope s_all_within).names.lookup ("len" : Str) = some .globalImplicit := by decide +kernel
theorem lk_all_within_list : (defScope s_all_within).names.lookup ("list" : Str) = some .globalImplicit := by decide +kernel
theorem lk_all_within_one : (defScope s_all_within).names.lookup ("one" : Str) = some .local := by decide +kernel
theorem lk_all_within_parts_of : (defScope s_all_within).names.lookup ("parts_of" : Str) = some .local := by decide +kernel
theorem lk_all_within_reversed : (defScope s_all_within).names.lookup ("reversed" : Str) = some .globalImplicit := by decide +kernel
theorem lk_all_within_top : (defScope s_all_within).names.lookup ("top" : Str) = some .local := by decide +kernel
theorem lk_all_within_waiting : (defScope s_all_within).names.lookup ("waiting" : Str) = some .local := by decide +kernel
theorem lk_cs__law_cells_0__law_script : (cs__law_cells_0).names.lookup ("_law_script" : Str) = some .free := by decide +kernel
theorem lk_cs__law_cells_1__law_mix : (cs__law_cells_1).names.lookup ("_law_mix" : Str) = some .globalImplicit := by decide +kernel
theorem lk_cs__law_cells_1__law_script : (cs__law_cells_1).names.lookup ("_law_script" : Str) = some .free := by decide +kernel
theorem lk_cs__law_cells_1__law_start : (cs__law_cells_1).names.lookup ("_law_start" : Str) = some .free := by decide +kernel
theorem lk_cs__law_cells_1_len : (cs__law_cells_1).names.lookup ("len" : Str) = some .globalImplicit := by decide +kernel
theorem lk_cs__law_names_0__law_cell : (cs__law_names_0).names.lookup ("_law_cell" : Str) = some .free := by decide +kernel
theorem lk_cs__law_names_0__law_mix : (cs__law_names_0).names.lookup ("_law_mix" : Str) = some .globalImplicit := by decide +kernel
theorem lk_cs__law_names_0__law_word : (cs__law_names_0).names.lookup ("_law_word" : Str) = some .free := by decide +kernel
theorem lk_cs__law_same_0_bool : (cs__law_same_0).names.lookup ("bool" : Str) = some .globalImplicit := by decide +kernel
theorem lk_cs__law_same_0_isinstance : (cs__law_same_0).names.lookup ("isinstance" : Str) = some .globalImplicit := by decide +kernel
theorem lk_cs_placed_parts_0_placed : (cs_placed_parts_0).names.lookup ("placed" : Str) = some .free := by decide +kernel
theorem lk_law__law_cells : (defScope s_law).names.lookup ("_law_cells" : Str) = some .globalImplicit := by decide +kernel
theorem lk_law__law_most : (defScope s_law).names.lookup ("_law_most" : Str) = some .globalImplicit := by decide +kernel
theorem lk_law__law_names : (defScope s_law).names.lookup ("_law_names" : Str) = some .globalImplicit := by decide +kernel
theorem lk_law__law_names_here : (defScope s_law).names.lookup ("_law_names_here" : Str) = some .local := by decide +kernel
theorem lk_law__law_place : (defScope s_law).names.lookup ("_law_place" : Str) = some .local := by decide +kernel
theorem lk_law__law_rows : (defScope s_law).names.lookup ("_law_rows" : Str) = some .globalImplicit := by decide +kernel
theorem lk_law__law_rows_here : (defScope s_law).names.lookup ("_law_rows_here" : Str) = some .local := by decide +kernel
theorem lk_law__law_same : (defScope s_law).names.lookup ("_law_same" : Str) = some .globalImplicit := by decide +kernel
theorem lk_law__law_script : (defScope s_law).names.lookup ("_law_script" : Str) = some .local := by decide +kernel
theorem lk_law__law_spots : (defScope s_law).names.lookup ("_law_spots" : Str) = some .globalImplicit := by decide +kernel
theorem lk_law__law_spots_here : (defScope s_law).names.lookup ("_law_spots_here" : Str) = some .local := by decide +kernel
theorem lk_law__law_told : (defScope s_law).names.lookup ("_law_told" : Str) = some .local := by decide +kernel
theorem lk_law__law_tree : (defScope s_law).names.lookup ("_law_tree" : Str) = some .local := by decide +kernel
theorem lk_law__law_trees : (defScope s_law).names.lookup ("_law_trees" : Str) = some .globalImplicit := by decide +kernel
theorem lk_law__law_trees_here : (defScope s_law).names.lookup ("_law_trees_here" : Str) = some .local := by decide +kernel
theorem lk_law_all_places : (defScope s_law).names.lookup ("all_places" : Str) = some .globalImplicit := by decide +kernel
theorem lk_law_sum : (defScope s_law).names.lookup ("sum" : Str) = some .globalImplicit := by decide +kernel
theorem lk_law_tree_at : (defScope s_law).names.lookup ("tree_at" : Str) = some .globalImplicit := by decide +kernel
theorem lk_law_zip : (defScope s_law).names.lookup ("zip" : Str) = some .globalImplicit := by decide +kernel
theorem lk_placed_parts_enumerate : (defScope s_placed_parts).names.lookup ("enumerate" : Str) = some .globalImplicit := by decide +kernel
theorem lk_placed_parts_placed : (defScope s_placed_parts).names.lookup ("placed" : Str) = some .cell := by decide +kernel
theorem lk_placed_trees_all_within : (defScope s_placed_trees).names.lookup ("all_within" : Str) = some .globalImplicit := by decide +kernel
theorem lk_placed_trees_placed_parts : (defScope s_placed_trees).names.lookup ("placed_parts" : Str) = some .globalImplicit := by decide +kernel
theorem lk_placed_trees_tree : (defScope s_placed_trees).names.lookup ("tree" : Str) = some .local := by decide +kernel
theorem lk_tree_at_k : (defScope s_tree_at).names.lookup ("k" : Str) = some .local := by decide +kernel
theorem lk_tree_at_place : (defScope s_tree_at).names.lookup ("place" : Str) = some .local := by decide +kernel
theorem lk_tree_at_tree : (defScope s_tree_at).names.lookup ("tree" : Str) = some .local := by decide +kernel
section
variable {P : Program} {w : World} {K : PySem.W.Frag} {mg : Str → Option Value} {base : Heap} {t : Adr}
theorem sc_tree_at : FnScope N_tree_at ["tree", "place"] (defScope s_tree_at) := ⟨rfl, rfl, rfl, by decide +kernel, rfl, by decide +kernel, by decide +kernel⟩
theorem ok_tree_at (T : Txt K mg t) : FnOk P w K mg base (CX1 P w) 1 (t.f 2) (t.d 2) ["tree", "place"] (spOf K mg 2 m_tree_at) := by
  refine FnOk.imp (sp := spOf K mg 2 (fun ds => runB 3 b_tree_at ds)) ?_ pure_sp
  refine fnx (k := 0) (ms := b_tree_at) T.F_tree_at sc_tree_at (by decide) (by decide) (fun _ => rfl) ?_
  intro X EE cdv A outer s H E hX hr hx hpo
  subst hX
  have hu := room200 hr
  have nd := sc_tree_at.nd
  have hfr : HasFr (cxOf (CX1 P w) P w K mg base N_tree_at "tree_at" (defScope s_tree_at) (t.f 2) cdv A outer s H E) := ⟨_, outer, s.heap.objs.size, rfl, rfl, rfl⟩
  refine qss_cons ?_ ?_
  · refine rs_for ?_ ?_ ?_ ?_ ?_ ?_
    · exact hpo
    · exact rfl
    · refine re_var 1 ?_ ?_ ?_
      · exact (Or.inl lk_tree_at_place)
      · exact dn_place
      exact rfl
    · refine rg_name (i := 2) ?_ ?_ ?_ ?_
      · exact nd
      · exact (Or.inl lk_tree_at_k)
      · exact Or.inl rfl
      exact rfl
    · refine qss_one ?_
      refine rs_set (i := 0) ?_ ?_ ?_ ?_ ?_ ?_
      · exact nd
      · exact (Or.inl lk_tree_at_tree)
      · refine re_index ?_ ?_ ?_
        · refine re_index ?_ ?_ ?_
          · refine re_var 0 ?_ ?_ ?_
            · exact (Or.inl lk_tree_at_tree)
            · exact dn_tree
            exact rfl
          · exact qe_int
          decide +kernel
        · refine re_var 2 ?_ ?_ ?_
          · exact (Or.inl lk_tree_at_k)
          · exact dn_k
          exact rfl
        decide +kernel
      · exact Or.inl rfl
      · exact rfl
      decide +kernel
    decide +kernel
  refine qss_one ?_
  refine qs_ret ?_
  refine re_var 0 ?_ ?_ ?_
  · exact (Or.inl lk_tree_at_tree)
  · exact dn_tree
  exact rfl
theorem sc_placed_parts : FnScope N_placed_parts ["placed"] (defScope s_placed_parts) := ⟨rfl, rfl, rfl, by decide +kernel, rfl, by decide +kernel, by decide +kernel⟩
theorem ok_placed_parts (T : Txt K mg t) : FnOk P w K mg base (CX1 P w) 1 (t.f 4) (t.d 4) ["placed"] (spOf K mg 1 m_placed_parts) := by
  refine FnOk.imp (sp := spOf K mg 1 (fun ds => runB 1 b_placed_parts ds)) ?_ pure_sp
  refine fnx (k := 0) (ms := b_placed_parts) T.F_placed_parts sc_placed_parts (by decide) (by decide) (fun _ => rfl) ?_
  intro X EE cdv A outer s H E hX hr hx hpo
  subst hX
  have hu := room200 hr
  have nd := sc_placed_parts.nd
  have hfr : HasFr (cxOf (CX1 P w) P w K mg base N_placed_parts "placed_parts" (defScope s_placed_parts) (t.f 4) cdv A outer s H E) := ⟨_, outer, s.heap.objs.size, rfl, rfl, rfl⟩
  refine qss_one ?_
  refine qs_ret ?_
  refine qe_fnw ?_
  refine re_compV (xs := ["k", "part"]) (ow := ownT K 2) ?_ ?_ ?_ ?_ ?_ ?_ ?_ ?_ ?_
  · exact hx
  · exact hfr
  · exact S_cs_placed_parts_0
  · exact own_pair rfl S_cs_placed_parts_0
  · exact ownD_tup
  · exact rfl
  · refine ri_enumX ?_ ?_ ?_ ?_
    · exact T.N_enumerate
    · exact lk_placed_parts_enumerate
    · refine ra_c ?_ ?_ ?_
      · refine re_index ?_ ?_ ?_
        · refine re_index ?_ ?_ ?_
          · refine re_var 0 ?_ ?_ ?_
            · exact (Or.inr (Or.inl lk_placed_parts_placed))
            · exact dn_placed
            exact rfl
          · exact qe_int
          decide +kernel
        · exact qe_int
        decide +kernel
      · decide +kernel
      exact qa_nil
    decide +kernel
  · refine compB_nil fun cl C pins s0 H0 fp E1 EE1 hx => ?_
    refine qe_tup ?_
    refine ra_c ?_ ?_ ?_
    · refine qe_addX ?_ ?_
      · refine re_index ?_ ?_ ?_
        · refine re_var 2 ?_ ?_ ?_
          · exact (cv_free S_cs_placed_parts_0 lk_cs_placed_parts_0_placed)
          · exact dn_placed
          exact rfl
        · exact qe_int
        decide +kernel
      refine qe_tup ?_
      refine ra_c ?_ ?_ ?_
      · refine re_var 0 ?_ ?_ ?_
        · exact (cv_loc S_cs_placed_parts_0 (by simp))
        · exact dn_k
        exact rfl
      · decide +kernel
      exact qa_nil
    · decide +kernel
    refine ra_c ?_ ?_ ?_
    · refine re_var 1 ?_ ?_ ?_
      · exact (cv_loc S_cs_placed_parts_0 (by simp))
      · exact dn_part
      exact rfl
    · decide +kernel
    exact qa_nil
  decide +kernel
theorem sc__law_mix : FnScope N__law_mix ["_law_cell", "_law_k"] (defScope s__law_mix) := ⟨rfl, rfl, rfl, by decide +kernel, rfl, by decide +kernel, by decide +kernel⟩
theorem ok__law_mix (T : Txt K mg t) : FnOk P w K mg base (CX1 P w) 1 (t.f 5) (t.d 5) ["_law_cell", "_law_k"] (spOf K mg 2 m__law_mix) := by
  refine FnOk.imp (sp := spOf K mg 2 (fun ds => runB 5 b__law_mix ds)) ?_ pure_sp
  refine fnx (k := 0) (ms := b__law_mix) T.F__law_mix sc__law_mix (by decide) (by decide) (fun _ => rfl) ?_
  intro X EE cdv A outer s H E hX hr hx hpo
  subst hX
  have hu := room200 hr
  have nd := sc__law_mix.nd
  have hfr : HasFr (cxOf (CX1 P w) P w K mg base N__law_mix "_law_mix" (defScope s__law_mix) (t.f 5) cdv A outer s H E) := ⟨_, outer, s.heap.objs.size, rfl, rfl, rfl⟩
  refine qss_cons ?_ ?_
  · refine rs_set (i := 2) ?_ ?_ ?_ ?_ ?_ ?_
    · exact nd
    · exact (Or.inl lk__law_mix__law_digit)
    · exact qe_int
    · exact Or.inl rfl
    · exact rfl
    decide +kernel
  refine qss_cons ?_ ?_
  · refine qs_if ?_ ?_ ?_
    · refine rt_cmp ?_ ?_ ?_ ?_
      · exact op_geD
      · refine re_var 0 ?_ ?_ ?_
        · exact (Or.inl lk__law_mix__law_cell)
        · exact dn__law_cell
        exact rfl
      · refine qe_pow ?_ ?_
        · exact qe_int
        exact qe_int
      decide +kernel
    · refine qss_cons ?_ ?_
      · refine rs_set (i := 2) ?_ ?_ ?_ ?_ ?_ ?_
        · exact nd
        · exact (Or.inl lk__law_mix__law_digit)
        · refine re_var 0 ?_ ?_ ?_
          · exact (Or.inl lk__law_mix__law_cell)
          · exact dn__law_cell
          exact rfl
        · exact Or.inl rfl
        · exact rfl
        decide +kernel
      refine qss_one ?_
      refine rs_forR1 ?_ ?_ ?_ ?_ ?_ ?_ ?_ ?_
      · exact hpo
      · exact rfl
      · exact T.N_range
      · exact lk__law_mix_range
      · refine ra_c ?_ ?_ ?_
        · refine qe_mod ?_ ?_
          · refine re_var 1 ?_ ?_ ?_
            · exact (Or.inl lk__law_mix__law_k)
            · exact dn__law_k
            exact rfl
          exact qe_int
        · decide +kernel
        exact qa_nil
      · refine rg_name (i := 3) ?_ ?_ ?_ ?_
        · exact nd
        · exact (Or.inl lk__law_mix__law_j)
        · exact Or.inl rfl
        exact rfl
      · refine qss_one ?_
        refine rs_set (i := 2) ?_ ?_ ?_ ?_ ?_ ?_
        · exact nd
        · exact (Or.inl lk__law_mix__law_digit)
        · refine qe_fdiv ?_ ?_
          · refine re_var 2 ?_ ?_ ?_
            · exact (Or.inl lk__law_mix__law_digit)
            · exact dn__law_digit
            exact rfl
          exact qe_int
        · exact Or.inl rfl
        · exact rfl
        decide +kernel
      decide +kernel
    exact qss_nil
  refine qss_cons ?_ ?_
  · refine qs_if ?_ ?_ ?_
    · refine rt_cmp ?_ ?_ ?_ ?_
      · exact op_gtD
      · refine re_var 2 ?_ ?_ ?_
        · exact (Or.inl lk__law_mix__law_digit)
        · exact dn__law_digit
        exact rfl
      · exact qe_int
      decide +kernel
    · refine qss_one ?_
      refine qs_ret ?_
      refine qe_mod ?_ ?_
      · refine re_var 2 ?_ ?_ ?_
        · exact (Or.inl lk__law_mix__law_digit)
        · exact dn__law_digit
        exact rfl
      exact qe_int
    exact qss_nil
  refine qss_cons ?_ ?_
  · refine rs_set (i := 4) ?_ ?_ ?_ ?_ ?_ ?_
    · exact nd
    · exact (Or.inl lk__law_mix__law_number)
    · refine qe_addX ?_ ?_
      · refine qe_addX ?_ ?_
        · refine qe_mod ?_ ?_
          · refine re_var 0 ?_ ?_ ?_
            · exact (Or.inl lk__law_mix__law_cell)
            · exact dn__law_cell
            exact rfl
          exact qe_int
        refine qe_mul ?_ ?_
        · exact qe_int
        refine re_var 1 ?_ ?_ ?_
        · exact (Or.inl lk__law_mix__law_k)
        · exact dn__law_k
        exact rfl
      exact qe_int
    · exact Or.inl rfl
    · exact rfl
    decide +kernel
  refine qss_cons ?_ ?_
  · refine rs_set (i := 4) ?_ ?_ ?_ ?_ ?_ ?_
    · exact nd
    · exact (Or.inl lk__law_mix__law_number)
    · refine qe_mod ?_ ?_
      · refine qe_mul ?_ ?_
        · refine re_var 4 ?_ ?_ ?_
          · exact (Or.inl lk__law_mix__law_number)
          · exact dn__law_number
          exact rfl
        refine re_var 4 ?_ ?_ ?_
        · exact (Or.inl lk__law_mix__law_number)
        · exact dn__law_number
        exact rfl
      exact qe_int
    · exact Or.inl rfl
    · exact rfl
    decide +kernel
  refine qss_one ?_
  refine qs_ret ?_
  refine qe_fdiv ?_ ?_
  · refine qe_mod ?_ ?_
    · refine qe_mul ?_ ?_
      · refine re_var 4 ?_ ?_ ?_
        · exact (Or.inl lk__law_mix__law_number)
        · exact dn__law_number
        exact rfl
      refine qe_addX ?_ ?_
      · refine qe_addX ?_ ?_
        · refine re_var 4 ?_ ?_ ?_
          · exact (Or.inl lk__law_mix__law_number)
          · exact dn__law_number
          exact rfl
        refine qe_mul ?_ ?_
        · exact qe_int
        refine re_var 1 ?_ ?_ ?_
        · exact (Or.inl lk__law_mix__law_k)
        · exact dn__law_k
        exact rfl
      exact qe_int
    exact qe_int
  exact qe_int
theorem sc__law_trees : FnScope N__law_trees ["_law_rows_here"] (defScope s__law_trees) := ⟨rfl, rfl, rfl, by decide +kernel, rfl, by decide +kernel, by decide +kernel⟩
theorem ok__law_trees (T : Txt K mg t) : FnOk P w K mg base (CX1 P w) 1 (t.f 9) (t.d 9) ["_law_rows_here"] (spOf K mg 1 m__law_trees) := by
  refine FnOk.imp (sp := spOf K mg 1 (fun ds => runB 7 b__law_trees ds)) ?_ pure_sp
  refine fnx (k := 0) (ms := b__law_trees) T.F__law_trees sc__law_trees (by decide) (by decide) (fun _ => rfl) ?_
  intro X EE cdv A outer s H E hX hr hx hpo
  subst hX
  have hu := room200 hr
  have nd := sc__law_trees.nd
  have hfr : HasFr (cxOf (CX1 P w) P w K mg base N__law_trees "_law_trees" (defScope s__law_trees) (t.f 9) cdv A outer s H E) := ⟨_, outer, s.heap.objs.size, rfl, rfl, rfl⟩
  refine qss_cons ?_ ?_
  · refine rs_set (i := 1) ?_ ?_ ?_ ?_ ?_ ?_
    · exact nd
    · exact (Or.inl lk__law_trees__law_held)
    · exact qe_dnew
    · exact Or.inl rfl
    · exact rfl
    decide +kernel
  refine qss_cons ?_ ?_
  · refine rs_set (i := 2) ?_ ?_ ?_ ?_ ?_ ?_
    · exact nd
    · exact (Or.inl lk__law_trees__law_trees_here)
    · refine qe_lst ?_
      exact qa_nil
    · exact Or.inl rfl
    · exact rfl
    decide +kernel
  refine qss_cons ?_ ?_
  · refine rs_forV ?_ ?_ ?_ ?_ ?_ ?_
    · exact hpo
    · exact rfl
    · refine ri_rev ?_ ?_ ?_ ?_
      · exact T.N_reversed
      · exact lk__law_trees_reversed
      · refine ra_c ?_ ?_ ?_
        · refine re_var 0 ?_ ?_ ?_
          · exact (Or.inl lk__law_trees__law_rows_here)
          · exact dn__law_rows_here
          exact rfl
        · decide +kernel
        exact qa_nil
      decide +kernel
    · refine rg_pair (i := 3) (j := 4) ?_ ?_ ?_ ?_ ?_ ?_ ?_ ?_
      · exact rfl
      · exact nd
      · exact (Or.inl lk__law_trees__law_deep)
      · exact (Or.inl lk__law_trees__law_kind)
      · exact Or.inl rfl
      · exact Or.inl rfl
      · exact rfl
      exact rfl
    · refine qss_cons ?_ ?_
      · refine rs_set (i := 5) ?_ ?_ ?_ ?_ ?_ ?_
        · exact nd
        · exact (Or.inl lk__law_trees__law_parts)
        · refine re_dget2 ?_ ?_ ?_ ?_ ?_ ?_ ?_
          · exact hu
          · refine re_var 1 ?_ ?_ ?_
            · exact (Or.inl lk__law_trees__law_held)
            · exact dn__law_held
            exact rfl
          · refine qe_addX ?_ ?_
            · refine re_var 3 ?_ ?_ ?_
              · exact (Or.inl lk__law_trees__law_deep)
              · exact dn__law_deep
              exact rfl
            exact qe_int
          · refine qe_fnw ?_
            refine qe_lst ?_
            exact qa_nil
          · decide +kernel
          · decide +kernel
          exact rfl
        · exact Or.inl rfl
        · exact rfl
        decide +kernel
      refine qss_cons ?_ ?_
      · refine rs_dput ?_ ?_ ?_ ?_ ?_
        · exact hu
        · refine qe_fnw ?_
          refine qe_lst ?_
          exact qa_nil
        · refine re_var 1 ?_ ?_ ?_
          · exact (Or.inl lk__law_trees__law_held)
          · exact dn__law_held
          exact rfl
        · refine qe_addX ?_ ?_
          · refine re_var 3 ?_ ?_ ?_
            · exact (Or.inl lk__law_trees__law_deep)
            · exact dn__law_deep
            exact rfl
          exact qe_int
        decide +kernel
      refine qss_cons ?_ ?_
      · refine rs_set (i := 6) ?_ ?_ ?_ ?_ ?_ ?_
        · exact nd
        · exact (Or.inl lk__law_trees__law_tree)
        · refine qe_tup ?_
          refine ra_c ?_ ?_ ?_
          · refine re_var 4 ?_ ?_ ?_
            · exact (Or.inl lk__law_trees__law_kind)
            · exact dn__law_kind
            exact rfl
          · decide +kernel
          refine ra_c ?_ ?_ ?_
          · refine re_tupleRev ?_ ?_ ?_ ?_ ?_ ?_ ?_
            · exact rfl
            · exact T.N_tuple
            · exact lk__law_trees_tuple
            · exact T.N_reversed
            · exact lk__law_trees_reversed
            · refine ra_c ?_ ?_ ?_
              · refine re_var 5 ?_ ?_ ?_
                · exact (Or.inl lk__law_trees__law_parts)
                · exact dn__law_parts
                exact rfl
              · decide +kernel
              exact qa_nil
            decide +kernel
          · decide +kernel
          exact qa_nil
        · exact Or.inl rfl
        · exact rfl
        decide +kernel
      refine qss_cons ?_ ?_
      · refine rs_dput ?_ ?_ ?_ ?_ ?_
        · exact hu
        · refine qe_fnw ?_
          refine qe_addX ?_ ?_
          · refine re_dget2 ?_ ?_ ?_ ?_ ?_ ?_ ?_
            · exact hu
            · refine re_var 1 ?_ ?_ ?_
              · exact (Or.inl lk__law_trees__law_held)
              · exact dn__law_held
              exact rfl
            · refine re_var 3 ?_ ?_ ?_
              · exact (Or.inl lk__law_trees__law_deep)
              · exact dn__law_deep
              exact rfl
            · refine qe_fnw ?_
              refine qe_lst ?_
              exact qa_nil
            · decide +kernel
            · decide +kernel
            exact rfl
          refine qe_fnw ?_
          refine qe_lst ?_
          refine ra_c ?_ ?_ ?_
          · refine re_var 6 ?_ ?_ ?_
            · exact (Or.inl lk__law_trees__law_tree)
            · exact dn__law_tree
            exact rfl
          · decide +kernel
          exact qa_nil
        · refine re_var 1 ?_ ?_ ?_
          · exact (Or.inl lk__law_trees__law_held)
          · exact dn__law_held
          exact rfl
        · refine re_var 3 ?_ ?_ ?_
          · exact (Or.inl lk__law_trees__law_deep)
          · exact dn__law_deep
          exact rfl
        decide +kernel
      refine qss_one ?_
      refine rs_expr ?_ ?_
      · refine re_append ?_ ?_ ?_ ?_ ?_
        · refine re_var 2 ?_ ?_ ?_
          · exact (Or.inl lk__law_trees__law_trees_here)
          · exact dn__law_trees_here
          exact rfl
        · refine ra_c ?_ ?_ ?_
          · refine re_var 6 ?_ ?_ ?_
            · exact (Or.inl lk__law_trees__law_tree)
            · exact dn__law_tree
            exact rfl
          · decide +kernel
          exact qa_nil
        · decide +kernel
        · decide +kernel
        exact rfl
      decide +kernel
    decide +kernel
  refine qss_one ?_
  refine qs_ret ?_
  refine qe_fnw ?_
  refine re_listRev ?_ ?_ ?_ ?_ ?_ ?_ ?_
  · exact rfl
  · exact T.N_list
  · exact lk__law_trees_list
  · exact T.N_reversed
  · exact lk__law_trees_reversed
  · refine ra_c ?_ ?_ ?_
    · refine re_var 2 ?_ ?_ ?_
      · exact (Or.inl lk__law_trees__law_trees_here)
      · exact dn__law_trees_here
      exact rfl
    · decide +kernel
    exact qa_nil
  decide +kernel
theorem sc__law_spots : FnScope N__law_spots ["_law_rows_here"] (defScope s__law_spots) := ⟨rfl, rfl, rfl, by decide +kernel, rfl, by decide +kernel, by decide +kernel⟩
theorem ok__law_spots (T : Txt K mg t) : FnOk P w K mg base (CX1 P w) 1 (t.f 10) (t.d 10) ["_law_rows_here"] (spOf K mg 1 m__law_spots) := by
  refine FnOk.imp (sp := spOf K mg 1 (fun ds => runB 5 b__law_spots ds)) ?_ pure_sp
  refine fnx (k := 0) (ms := b__law_spots) T.F__law_spots sc__law_spots (by decide) (by decide) (fun _ => rfl) ?_
  intro X EE cdv A outer s H E hX hr hx hpo
  subst hX
  have hu := room200 hr
  have nd := sc__law_spots.nd
  have hfr : HasFr (cxOf (CX1 P w) P w K mg base N__law_spots "_law_spots" (defScope s__law_spots) (t.f 10) cdv A outer s H E) := ⟨_, outer, s.heap.objs.size, rfl, rfl, rfl⟩
  refine qss_cons ?_ ?_
  · refine rs_set (i := 1) ?_ ?_ ?_ ?_ ?_ ?_
    · exact nd
    · exact (Or.inl lk__law_spots__law_spots_here)
    · refine qe_lst ?_
      refine ra_c ?_ ?_ ?_
      · refine qe_tup ?_
        exact qa_nil
      · decide +kernel
      exact qa_nil
    · exact Or.inl rfl
    · exact rfl
    decide +kernel
  refine qss_cons ?_ ?_
  · refine rs_for ?_ ?_ ?_ ?_ ?_ ?_
    · exact hpo
    · exact rfl
    · refine qe_fnw ?_
      refine qe_slice ?_ ?_ ?_
      · refine re_var 0 ?_ ?_ ?_
        · exact (Or.inl lk__law_spots__law_rows_here)
        · exact dn__law_rows_here
        exact rfl
      · refine qo_some ?_
        exact qe_int
      exact qo_none
    · refine rg_pair (i := 2) (j := 3) ?_ ?_ ?_ ?_ ?_ ?_ ?_ ?_
      · exact rfl
      · exact nd
      · exact (Or.inl lk__law_spots__law_deep)
      · exact (Or.inl lk__law_spots__law_kind)
      · exact Or.inl rfl
      · exact Or.inl rfl
      · exact rfl
      exact rfl
    · refine qss_cons ?_ ?_
      · refine rs_set (i := 4) ?_ ?_ ?_ ?_ ?_ ?_
        · exact nd
        · exact (Or.inl lk__law_spots__law_last)
        · refine re_index ?_ ?_ ?_
          · refine re_var 1 ?_ ?_ ?_
            · exact (Or.inl lk__law_spots__law_spots_here)
            · exact dn__law_spots_here
            exact rfl
          · refine qe_neg ?_
            exact qe_int
          decide +kernel
        · exact Or.inl rfl
        · exact rfl
        decide +kernel
      refine qss_one ?_
      refine qs_if ?_ ?_ ?_
      · refine rt_cmp ?_ ?_ ?_ ?_
        · exact op_gtD
        · refine re_var 2 ?_ ?_ ?_
          · exact (Or.inl lk__law_spots__law_deep)
          · exact dn__law_deep
          exact rfl
        · refine re_len ?_ ?_ ?_ ?_
          · exact T.N_len
          · exact lk__law_spots_len
          · refine ra_c ?_ ?_ ?_
            · refine re_var 4 ?_ ?_ ?_
              · exact (Or.inl lk__law_spots__law_last)
              · exact dn__law_last
              exact rfl
            · decide +kernel
            exact qa_nil
          decide +kernel
        decide +kernel
      · refine qss_one ?_
        refine rs_expr ?_ ?_
        · refine re_append ?_ ?_ ?_ ?_ ?_
          · refine re_var 1 ?_ ?_ ?_
            · exact (Or.inl lk__law_spots__law_spots_here)
            · exact dn__law_spots_here
            exact rfl
          · refine ra_c ?_ ?_ ?_
            · refine qe_addX ?_ ?_
              · refine re_var 4 ?_ ?_ ?_
                · exact (Or.inl lk__law_spots__law_last)
                · exact dn__law_last
                exact rfl
              refine qe_tup ?_
              refine ra_i ?_
              exact qa_nil
            · decide +kernel
            exact qa_nil
          · decide +kernel
          · decide +kernel
          exact rfl
        decide +kernel
      refine qss_one ?_
      refine rs_expr ?_ ?_
      · refine re_append ?_ ?_ ?_ ?_ ?_
        · refine re_var 1 ?_ ?_ ?_
          · exact (Or.inl lk__law_spots__law_spots_here)
          · exact dn__law_spots_here
          exact rfl
        · refine ra_c ?_ ?_ ?_
          · refine qe_addX ?_ ?_
            · refine qe_fnw ?_
              refine qe_slice ?_ ?_ ?_
              · refine re_var 4 ?_ ?_ ?_
                · exact (Or.inl lk__law_spots__law_last)
                · exact dn__law_last
                exact rfl
              · exact qo_none
              refine qo_some ?_
              refine qe_sub ?_ ?_
              · refine re_var 2 ?_ ?_ ?_
                · exact (Or.inl lk__law_spots__law_deep)
                · exact dn__law_deep
                exact rfl
              exact qe_int
            refine qe_tup ?_
            refine ra_c ?_ ?_ ?_
            · refine qe_addX ?_ ?_
              · refine re_index ?_ ?_ ?_
                · refine re_var 4 ?_ ?_ ?_
                  · exact (Or.inl lk__law_spots__law_last)
                  · exact dn__law_last
                  exact rfl
                · refine qe_sub ?_ ?_
                  · refine re_var 2 ?_ ?_ ?_
                    · exact (Or.inl lk__law_spots__law_deep)
                    · exact dn__law_deep
                    exact rfl
                  exact qe_int
                decide +kernel
              exact qe_int
            · decide +kernel
            exact qa_nil
          · decide +kernel
          exact qa_nil
        · decide +kernel
        · decide +kernel
        exact rfl
      decide +kernel
    decide +kernel
  refine qss_one ?_
  refine qs_ret ?_
  refine qe_fz ?_
  refine re_var 1 ?_ ?_ ?_
  · exact (Or.inl lk__law_spots__law_spots_here)
  · exact dn__law_spots_here
  exact rfl
theorem sc__law_same : FnScope N__law_same ["_law_told", "_law_spots_here"] (defScope s__law_same) := ⟨rfl, rfl, rfl, by decide +kernel, rfl, by decide +kernel, by decide +kernel⟩
theorem ok__law_same (T : Txt K mg t) : FnOk P w K mg base (CX1 P w) 1 (t.f 11) (t.d 11) ["_law_told", "_law_spots_here"] (spOf K mg 2 m__law_same) := by
  refine FnOk.imp (sp := spOf K mg 2 (fun ds => runB 3 b__law_same ds)) ?_ pure_sp
  refine fnx (k := 0) (ms := b__law_same) T.F__law_same sc__law_same (by decide) (by decide) (fun _ => rfl) ?_
  intro X EE cdv A outer s H E hX hr hx hpo
  subst hX
  have hu := room200 hr
  have nd := sc__law_same.nd
  have hfr : HasFr (cxOf (CX1 P w) P w K mg base N__law_same "_law_same" (defScope s__law_same) (t.f 11) cdv A outer s H E) := ⟨_, outer, s.heap.objs.size, rfl, rfl, rfl⟩
  refine qss_cons ?_ ?_
  · refine qs_if ?_ ?_ ?_
    · refine qt_w ?_
      refine qw_or ?_ ?_
      · refine qt_not ?_
        refine rt_tru ?_ ?_
        · refine re_isi .lst ?_ ?_ ?_ ?_ ?_ ?_ ?_ ?_ ?_ ?_
          · decide
          · exact T.N_isinstance
          · exact T.N_list
          · exact lk__law_same_isinstance
          · exact lk__law_same_list
          · refine re_var 0 ?_ ?_ ?_
            · exact (Or.inl lk__law_same__law_told)
            · exact dn__law_told
            exact rfl
          · exact bt_list
          · exact nn_list
          · exact dn_list.1
          decide +kernel
        decide +kernel
      refine qw_or1 ?_
      refine rt_cmp ?_ ?_ ?_ ?_
      · exact (op_neD hu)
      · refine re_var 0 ?_ ?_ ?_
        · exact (Or.inl lk__law_same__law_told)
        · exact dn__law_told
        exact rfl
      · refine re_var 1 ?_ ?_ ?_
        · exact (Or.inl lk__law_same__law_spots_here)
        · exact dn__law_spots_here
        exact rfl
      decide +kernel
    · refine qss_one ?_
      refine qs_ret ?_
      exact qe_bl
    exact qss_nil
  refine qss_cons ?_ ?_
  · refine rs_for ?_ ?_ ?_ ?_ ?_ ?_
    · exact hpo
    · exact rfl
    · refine re_var 0 ?_ ?_ ?_
      · exact (Or.inl lk__law_same__law_told)
      · exact dn__law_told
      exact rfl
    · refine rg_name (i := 2) ?_ ?_ ?_ ?_
      · exact nd
      · exact (Or.inl lk__law_same__law_place)
      · exact Or.inl rfl
      exact rfl
    · refine qss_one ?_
      refine qs_if ?_ ?_ ?_
      · refine qt_w ?_
        refine qw_or ?_ ?_
        · refine qt_not ?_
          refine rt_tru ?_ ?_
          · refine re_isi .tup ?_ ?_ ?_ ?_ ?_ ?_ ?_ ?_ ?_ ?_
            · decide
            · exact T.N_isinstance
            · exact T.N_tuple
            · exact lk__law_same_isinstance
            · exact lk__law_same_tuple
            · refine re_var 2 ?_ ?_ ?_
              · exact (Or.inl lk__law_same__law_place)
              · exact dn__law_place
              exact rfl
            · exact bt_tuple
            · exact nn_tuple
            · exact dn_tuple.1
            decide +kernel
          decide +kernel
        refine qw_or1 ?_
        refine rt_tru ?_ ?_
        · refine re_any ?_ ?_ ?_ ?_ ?_
          · exact rfl
          · exact T.N_any
          · exact lk__law_same_any
          · refine ra_c ?_ ?_ ?_
            · refine qe_fnw ?_
              refine re_comp (xs := ["_law_k"]) (ow := ownN) ?_ ?_ ?_ ?_ ?_ ?_ ?_ ?_ ?_
              · exact hx
              · exact hfr
              · exact S_cs__law_same_0
              · exact own_name S_cs__law_same_0
              · exact ownD_name
              · exact rfl
              · refine re_var 2 ?_ ?_ ?_
                · exact (Or.inl lk__law_same__law_place)
                · exact dn__law_place
                exact rfl
              · refine compB_nil fun cl C pins s0 H0 fp E1 EE1 hx => ?_
                refine re_isi .bl ?_ ?_ ?_ ?_ ?_ ?_ ?_ ?_ ?_ ?_
                · decide
                · exact T.N_isinstance
                · exact T.N_bool
                · exact (cv_glob lk_cs__law_same_0_isinstance)
                · exact (cv_glob lk_cs__law_same_0_bool)
                · refine re_var 0 ?_ ?_ ?_
                  · exact (cv_loc S_cs__law_same_0 (by simp))
                  · exact dn__law_k
                  exact rfl
                · exact bt_bool
                · exact nn_bool
                · exact dn_bool.1
                decide +kernel
              decide +kernel
            · decide +kernel
            exact qa_nil
          decide +kernel
        decide +kernel
      · refine qss_one ?_
        refine qs_ret ?_
        exact qe_bl
      exact qss_nil
    decide +kernel
  refine qss_one ?_
  refine qs_ret ?_
  exact qe_bl
theorem sc_all_within : FnScope N_all_within ["top", "parts_of"] (defScope s_all_within) := ⟨rfl, rfl, rfl, by decide +kernel, rfl, by decide +kernel, by decide +kernel⟩
theorem ok_all_within (T : Txt K mg t) (C_placed_parts : FnOk P w K mg base (CX1 P w) 1 (t.f 4) (t.d 4) ["placed"] (spOf K mg 1 m_placed_parts)) : FnOk P w K mg base (CX1 P w) 2 (t.f 0) (t.d 0) ["top", "parts_of"] (spOf K mg 2 m_all_within) := by
  refine FnOk.imp (sp := spOf K mg 2 (fun ds => runB 5 b_all_within ds)) ?_ pure_sp
  refine fnx (k := 1) (ms := b_all_within) T.F_all_within sc_all_within (by decide) (by decide) (fun _ => rfl) ?_
  intro X EE cdv A outer s H E hX hr hx hpo
  subst hX
  have hu := room200 hr
  have nd := sc_all_within.nd
  have hfr : HasFr (cxOf (CX1 P w) P w K mg base N_all_within "all_within" (defScope s_all_within) (t.f 0) cdv A outer s H E) := ⟨_, outer, s.heap.objs.size, rfl, rfl, rfl⟩
  refine qss_cons ?_ ?_
  · refine rs_set (i := 2) ?_ ?_ ?_ ?_ ?_ ?_
    · exact nd
    · exact (Or.inl lk_all_within_found)
    · refine qe_lst ?_
      exact qa_nil
    · exact Or.inl rfl
    · exact rfl
    decide +kernel
  refine qss_cons ?_ ?_
  · refine rs_set (i := 3) ?_ ?_ ?_ ?_ ?_ ?_
    · exact nd
    · exact (Or.inl lk_all_within_waiting)
    · refine qe_lst ?_
      refine ra_c ?_ ?_ ?_
      · refine re_var 0 ?_ ?_ ?_
        · exact (Or.inl lk_all_within_top)
        · exact dn_top
        exact rfl
      · decide +kernel
      exact qa_nil
    · exact Or.inl rfl
    · exact rfl
    decide +kernel
  refine qss_cons ?_ ?_
  · refine qs_while ?_ ?_ ?_
    · exact hpo
    · refine rt_cmp ?_ ?_ ?_ ?_
      · exact op_gtD
      · refine re_len ?_ ?_ ?_ ?_
        · exact T.N_len
        · exact lk_all_within_len
        · refine ra_c ?_ ?_ ?_
          · refine re_var 3 ?_ ?_ ?_
            · exact (Or.inl lk_all_within_waiting)
            · exact dn_waiting
            exact rfl
          · decide +kernel
          exact qa_nil
        decide +kernel
      · exact qe_int
      decide +kernel
    refine qss_cons ?_ ?_
    · refine rs_set (i := 4) ?_ ?_ ?_ ?_ ?_ ?_
      · exact nd
      · exact (Or.inl lk_all_within_one)
      · refine re_pop ?_ ?_ ?_
        · refine re_var 3 ?_ ?_ ?_
          · exact (Or.inl lk_all_within_waiting)
          · exact dn_waiting
          exact rfl
        · decide +kernel
        exact rfl
      · exact Or.inl rfl
      · exact rfl
      decide +kernel
    refine qss_cons ?_ ?_
    · refine rs_expr ?_ ?_
      · refine re_append ?_ ?_ ?_ ?_ ?_
        · refine re_var 2 ?_ ?_ ?_
          · exact (Or.inl lk_all_within_found)
          · exact dn_found
          exact rfl
        · refine ra_c ?_ ?_ ?_
          · refine re_var 4 ?_ ?_ ?_
            · exact (Or.inl lk_all_within_one)
            · exact dn_one
            exact rfl
          · decide +kernel
          exact qa_nil
        · decide +kernel
        · decide +kernel
        exact rfl
      decide +kernel
    refine qss_one ?_
    refine rs_expr ?_ ?_
    · refine re_extX ?_ ?_ ?_ ?_ ?_
      · refine re_var 3 ?_ ?_ ?_
        · exact (Or.inl lk_all_within_waiting)
        · exact dn_waiting
        exact rfl
      · refine ra_c ?_ ?_ ?_
        · refine qe_fnw ?_
          refine re_listRev ?_ ?_ ?_ ?_ ?_ ?_ ?_
          · exact rfl
          · exact T.N_list
          · exact lk_all_within_list
          · exact T.N_reversed
          · exact lk_all_within_reversed
          · refine ra_c ?_ ?_ ?_
            · refine re_callV (CX := CX1 P w) ?_ ?_ ?_ ?_ ?_ ?_ ?_
              · exact rfl
              · exact (Or.inl lk_all_within_parts_of)
              · exact dn_parts_of
              · exact allF ⟨⟨_, _, _, _, C_placed_parts, hr.mono (by decide), T.M_placed_parts, T.F_placed_parts.kp, T.B_placed_parts⟩, trivial⟩
              · exact lnk1 hx
              · refine ra_c ?_ ?_ ?_
                · refine re_var 4 ?_ ?_ ?_
                  · exact (Or.inl lk_all_within_one)
                  · exact dn_one
                  exact rfl
                · decide +kernel
                exact qa_nil
              decide +kernel
            · decide +kernel
            exact qa_nil
          decide +kernel
        · decide +kernel
        exact qa_nil
      · decide +kernel
      · decide +kernel
      exact rfl
    decide +kernel
  refine qss_one ?_
  refine qs_ret ?_
  refine qe_fz ?_
  refine re_var 2 ?_ ?_ ?_
  · exact (Or.inl lk_all_within_found)
  · exact dn_found
  exact rfl
theorem sc__law_cells : FnScope N__law_cells ["_law_script", "_law_start"] (defScope s__law_cells) := ⟨rfl, rfl, rfl, by decide +kernel, rfl, by decide +kernel, by decide +kernel⟩
theorem ok__law_cells (T : Txt K mg t) (C__law_mix : FnOk P w K mg base (CX1 P w) 1 (t.f 5) (t.d 5) ["_law_cell", "_law_k"] (spOf K mg 2 m__law_mix)) : FnOk P w K mg base (CX1 P w) 2 (t.f 6) (t.d 6) ["_law_script", "_law_start"] (spOf K mg 2 m__law_cells) := by
  refine FnOk.imp (sp := spOf K mg 2 (fun ds => runB 3 b__law_cells ds)) ?_ pure_sp
  refine fnx (k := 1) (ms := b__law_cells) T.F__law_cells sc__law_cells (by decide) (by decide) (fun _ => rfl) ?_
  intro X EE cdv A outer s H E hX hr hx hpo
  subst hX
  have hu := room200 hr
  have nd := sc__law_cells.nd
  have hfr : HasFr (cxOf (CX1 P w) P w K mg base N__law_cells "_law_cells" (defScope s__law_cells) (t.f 6) cdv A outer s H E) := ⟨_, outer, s.heap.objs.size, rfl, rfl, rfl⟩
  refine qss_cons ?_ ?_
  · refine rs_fn ?_
    refine rs_compV (i := 2) (xs := ["_law_k"]) (ow := ownN) ?_ ?_ ?_ ?_ ?_ ?_ ?_ ?_ ?_ ?_ ?_ ?_ ?_
    · exact hx
    · exact hfr
    · exact S_cs__law_cells_0
    · exact own_name S_cs__law_cells_0
    · exact ownD_name
    · exact rfl
    · exact nd
    · exact lk__law_cells__law_cells_here
    · refine ri_rng3 ?_ ?_ ?_ ?_
      · exact T.N_range
      · exact lk__law_cells_range
      · refine ra_c ?_ ?_ ?_
        · refine re_var 1 ?_ ?_ ?_
          · exact (Or.inr (Or.inl lk__law_cells__law_start))
          · exact dn__law_start
          exact rfl
        · decide +kernel
        refine ra_c ?_ ?_ ?_
        · refine re_min2 ?_ ?_ ?_ ?_ ?_
          · exact rfl
          · exact T.N_min
          · exact lk__law_cells_min
          · refine ra_c ?_ ?_ ?_
            · refine re_len ?_ ?_ ?_ ?_
              · exact T.N_len
              · exact lk__law_cells_len
              · refine ra_c ?_ ?_ ?_
                · refine re_var 0 ?_ ?_ ?_
                  · exact (Or.inr (Or.inl lk__law_cells__law_script))
                  · exact dn__law_script
                  exact rfl
                · decide +kernel
                exact qa_nil
              decide +kernel
            · decide +kernel
            refine ra_i ?_
            exact qa_nil
          decide +kernel
        · decide +kernel
        refine ra_i ?_
        exact qa_nil
      decide +kernel
    · refine compB_nil fun cl C pins s0 H0 fp E1 EE1 hx => ?_
      refine re_index ?_ ?_ ?_
      · refine re_var 1 ?_ ?_ ?_
        · exact (cv_free S_cs__law_cells_0 lk_cs__law_cells_0__law_script)
        · exact dn__law_script
        exact rfl
      · refine re_var 0 ?_ ?_ ?_
        · exact (cv_loc S_cs__law_cells_0 (by simp))
        · exact dn__law_k
        exact rfl
      decide +kernel
    · refine swap_comp ?_ ?_ ?_ ?_
      · exact rfl
      · exact lk__law_cells__law_cells_here
      · exact rfl
      decide +kernel
    · exact rfl
    decide +kernel
  refine qss_one ?_
  refine qs_ret ?_
  refine qe_fnw ?_
  refine qe_addX ?_ ?_
  · refine re_var 2 ?_ ?_ ?_
    · exact (Or.inl lk__law_cells__law_cells_here)
    · exact dn__law_cells_here
    exact rfl
  refine qe_fnw ?_
  refine re_compR1 (xs := ["_law_k"]) (ow := ownN) ?_ ?_ ?_ ?_ ?_ ?_ ?_ ?_ ?_ ?_ ?_
  · exact hx
  · exact hfr
  · exact S_cs__law_cells_1
  · exact own_name S_cs__law_cells_1
  · exact ownD_name
  · exact rfl
  · exact T.N_range
  · exact lk__law_cells_range
  · refine ra_c ?_ ?_ ?_
    · refine qe_sub ?_ ?_
      · exact qe_int
      refine re_len ?_ ?_ ?_ ?_
      · exact T.N_len
      · exact lk__law_cells_len
      · refine ra_c ?_ ?_ ?_
        · refine re_var 2 ?_ ?_ ?_
          · exact (Or.inl lk__law_cells__law_cells_here)
          · exact dn__law_cells_here
          exact rfl
        · decide +kernel
        exact qa_nil
      decide +kernel
    · decide +kernel
    exact qa_nil
  · refine compB_nil fun cl C pins s0 H0 fp E1 EE1 hx => ?_
    refine re_call (CX := CX1 P w) (k := kk__law_mix) (f := (t.f 5)) (fd := (t.d 5)) (ps := ["_law_cell", "_law_k"]) ?_ ?_ ?_ ?_ ?_ ?_ ?_ ?_ ?_ ?_
    · exact C__law_mix
    · exact hr.mono (by decide)
    · exact T.M__law_mix
    · exact T.F__law_mix.kp
    · exact T.B__law_mix
    · exact lnk1 hx
    · exact (cv_glob lk_cs__law_cells_1__law_mix)
    · exact dn__law_mix
    · refine ra_c ?_ ?_ ?_
      · refine re_len ?_ ?_ ?_ ?_
        · exact T.N_len
        · exact (cv_glob lk_cs__law_cells_1_len)
        · refine ra_c ?_ ?_ ?_
          · refine re_var 1 ?_ ?_ ?_
            · exact (cv_free S_cs__law_cells_1 lk_cs__law_cells_1__law_script)
            · exact dn__law_script
            exact rfl
          · decide +kernel
          exact qa_nil
        decide +kernel
      · decide +kernel
      refine ra_c ?_ ?_ ?_
      · refine qe_addX ?_ ?_
        · refine qe_addX ?_ ?_
          · exact qe_int
          refine re_var 2 ?_ ?_ ?_
          · exact (cv_free S_cs__law_cells_1 lk_cs__law_cells_1__law_start)
          · exact dn__law_start
          exact rfl
        refine re_var 0 ?_ ?_ ?_
        · exact (cv_loc S_cs__law_cells_1 (by simp))
        · exact dn__law_k
        exact rfl
      · decide +kernel
      exact qa_nil
    decide +kernel
  decide +kernel
theorem sc__law_names : FnScope N__law_names ["_law_cell"] (defScope s__law_names) := ⟨rfl, rfl, rfl, by decide +kernel, rfl, by decide +kernel, by decide +kernel⟩
theorem ok__law_names (T : Txt K mg t) (C__law_mix : FnOk P w K mg base (CX1 P w) 1 (t.f 5) (t.d 5) ["_law_cell", "_law_k"] (spOf K mg 2 m__law_mix)) : FnOk P w K mg base (CX1 P w) 2 (t.f 7) (t.d 7) ["_law_cell"] (spOf K mg 1 m__law_names) := by
  refine FnOk.imp (sp := spOf K mg 1 (fun ds => runB 8 b__law_names ds)) ?_ pure_sp
  refine fnx (k := 1) (ms := b__law_names) T.F__law_names sc__law_names (by decide) (by decide) (fun _ => rfl) ?_
  intro X EE cdv A outer s H E hX hr hx hpo
  subst hX
  have hu := room200 hr
  have nd := sc__law_names.nd
  have hfr : HasFr (cxOf (CX1 P w) P w K mg base N__law_names "_law_names" (defScope s__law_names) (t.f 7) cdv A outer s H E) := ⟨_, outer, s.heap.objs.size, rfl, rfl, rfl⟩
  refine qss_cons ?_ ?_
  · refine rs_set (i := 1) ?_ ?_ ?_ ?_ ?_ ?_
    · exact nd
    · exact (Or.inl lk__law_names__law_names_here)
    · refine qe_lst ?_
      exact qa_nil
    · exact Or.inl rfl
    · exact rfl
    decide +kernel
  refine qss_cons ?_ ?_
  · refine qs_if ?_ ?_ ?_
    · refine rt_cmp ?_ ?_ ?_ ?_
      · exact (op_eqD hu)
      · refine qe_mod ?_ ?_
        · refine re_call (CX := CX1 P w) (k := kk__law_mix) (f := (t.f 5)) (fd := (t.d 5)) (ps := ["_law_cell", "_law_k"]) ?_ ?_ ?_ ?_ ?_ ?_ ?_ ?_ ?_ ?_
          · exact C__law_mix
          · exact hr.mono (by decide)
          · exact T.M__law_mix
          · exact T.F__law_mix.kp
          · exact T.B__law_mix
          · exact lnk1 hx
          · exact lk__law_names__law_mix
          · exact dn__law_mix
          · refine ra_c ?_ ?_ ?_
            · refine re_var 0 ?_ ?_ ?_
              · exact (Or.inr (Or.inl lk__law_names__law_cell))
              · exact dn__law_cell
              exact rfl
            · decide +kernel
            refine ra_i ?_
            exact qa_nil
          decide +kernel
        exact qe_int
      · exact qe_int
      decide +kernel
    · refine qss_cons ?_ ?_
      · refine rs_set (i := 2) ?_ ?_ ?_ ?_ ?_ ?_
        · exact nd
        · exact (Or.inr lk__law_names__law_word)
        · exact qe_str
        · exact Or.inl rfl
        · exact rfl
        decide +kernel
      refine qss_cons ?_ ?_
      · refine rs_forR1 ?_ ?_ ?_ ?_ ?_ ?_ ?_ ?_
        · exact hpo
        · exact rfl
        · exact T.N_range
        · exact lk__law_names_range
        · refine ra_i ?_
          exact qa_nil
        · refine rg_name (i := 3) ?_ ?_ ?_ ?_
          · exact nd
          · exact (Or.inl lk__law_names__law_j)
          · exact Or.inl rfl
          exact rfl
        · refine qss_one ?_
          refine rs_set (i := 2) ?_ ?_ ?_ ?_ ?_ ?_
          · exact nd
          · exact (Or.inr lk__law_names__law_word)
          · refine qe_addX ?_ ?_
            · refine re_var 2 ?_ ?_ ?_
              · exact (Or.inr (Or.inl lk__law_names__law_word))
              · exact dn__law_word
              exact rfl
            refine re_index ?_ ?_ ?_
            · exact qe_str
            · refine qe_mod ?_ ?_
              · refine re_call (CX := CX1 P w) (k := kk__law_mix) (f := (t.f 5)) (fd := (t.d 5)) (ps := ["_law_cell", "_law_k"]) ?_ ?_ ?_ ?_ ?_ ?_ ?_ ?_ ?_ ?_
                · exact C__law_mix
                · exact hr.mono (by decide)
                · exact T.M__law_mix
                · exact T.F__law_mix.kp
                · exact T.B__law_mix
                · exact lnk1 hx
                · exact lk__law_names__law_mix
                · exact dn__law_mix
                · refine ra_c ?_ ?_ ?_
                  · refine re_var 0 ?_ ?_ ?_
                    · exact (Or.inr (Or.inl lk__law_names__law_cell))
                    · exact dn__law_cell
                    exact rfl
                  · decide +kernel
                  refine ra_c ?_ ?_ ?_
                  · refine qe_addX ?_ ?_
                    · exact qe_int
                    refine re_var 3 ?_ ?_ ?_
                    · exact (Or.inl lk__law_names__law_j)
                    · exact dn__law_j
                    exact rfl
                  · decide +kernel
                  exact qa_nil
                decide +kernel
              exact qe_int
            decide +kernel
          · exact Or.inl rfl
          · exact rfl
          decide +kernel
        decide +kernel
      refine qss_one ?_
      refine qs_ret ?_
      refine qe_fnw ?_
      refine re_compR1 (xs := ["_law_k"]) (ow := ownN) ?_ ?_ ?_ ?_ ?_ ?_ ?_ ?_ ?_ ?_ ?_
      · exact hx
      · exact hfr
      · exact S_cs__law_names_0
      · exact own_name S_cs__law_names_0
      · exact ownD_name
      · exact rfl
      · exact T.N_range
      · exact lk__law_names_range
      · refine ra_i ?_
        exact qa_nil
      · refine compB_nil fun cl C pins s0 H0 fp E1 EE1 hx => ?_
        refine qe_fnw ?_
        refine qe_slice ?_ ?_ ?_
        · refine re_var 3 ?_ ?_ ?_
          · exact (cv_free S_cs__law_names_0 lk_cs__law_names_0__law_word)
          · exact dn__law_word
          exact rfl
        · exact qo_none
        refine qo_some ?_
        refine qe_addX ?_ ?_
        · refine qe_addX ?_ ?_
          · exact qe_int
          refine qe_mod ?_ ?_
          · refine re_call (CX := CX1 P w) (k := kk__law_mix) (f := (t.f 5)) (fd := (t.d 5)) (ps := ["_law_cell", "_law_k"]) ?_ ?_ ?_ ?_ ?_ ?_ ?_ ?_ ?_ ?_
            · exact C__law_mix
            · exact hr.mono (by decide)
            · exact T.M__law_mix
            · exact T.F__law_mix.kp
            · exact T.B__law_mix
            · exact lnk1 hx
            · exact (cv_glob lk_cs__law_names_0__law_mix)
            · exact dn__law_mix
            · refine ra_c ?_ ?_ ?_
              · refine re_var 1 ?_ ?_ ?_
                · exact (cv_free S_cs__law_names_0 lk_cs__law_names_0__law_cell)
                · exact dn__law_cell
                exact rfl
              · decide +kernel
              refine ra_i ?_
              exact qa_nil
            decide +kernel
          exact qe_int
        refine re_var 0 ?_ ?_ ?_
        · exact (cv_loc S_cs__law_names_0 (by simp))
        · exact dn__law_k
        exact rfl
      decide +kernel
    exact qss_nil
  refine qss_cons ?_ ?_
  · refine rs_set (i := 4) ?_ ?_ ?_ ?_ ?_ ?_
    · exact nd
    · exact (Or.inl lk__law_names__law_wide)
    · refine qe_addX ?_ ?_
      · exact qe_int
      refine qe_mod ?_ ?_
      · refine re_call (CX := CX1 P w) (k := kk__law_mix) (f := (t.f 5)) (fd := (t.d 5)) (ps := ["_law_cell", "_law_k"]) ?_ ?_ ?_ ?_ ?_ ?_ ?_ ?_ ?_ ?_
        · exact C__law_mix
        · exact hr.mono (by decide)
        · exact T.M__law_mix
        · exact T.F__law_mix.kp
        · exact T.B__law_mix
        · exact lnk1 hx
        · exact lk__law_names__law_mix
        · exact dn__law_mix
        · refine ra_c ?_ ?_ ?_
          · refine re_var 0 ?_ ?_ ?_
            · exact (Or.inr (Or.inl lk__law_names__law_cell))
            · exact dn__law_cell
            exact rfl
          · decide +kernel
          refine ra_i ?_
          exact qa_nil
        decide +kernel
      exact qe_int
    · exact Or.inl rfl
    · exact rfl
    decide +kernel
  refine qss_cons ?_ ?_
  · refine rs_set (i := 5) ?_ ?_ ?_ ?_ ?_ ?_
    · exact nd
    · exact (Or.inl lk__law_names__law_place)
    · refine qe_mod ?_ ?_
      · refine re_call (CX := CX1 P w) (k := kk__law_mix) (f := (t.f 5)) (fd := (t.d 5)) (ps := ["_law_cell", "_law_k"]) ?_ ?_ ?_ ?_ ?_ ?_ ?_ ?_ ?_ ?_
        · exact C__law_mix
        · exact hr.mono (by decide)
        · exact T.M__law_mix
        · exact T.F__law_mix.kp
        · exact T.B__law_mix
        · exact lnk1 hx
        · exact lk__law_names__law_mix
        · exact dn__law_mix
        · refine ra_c ?_ ?_ ?_
          · refine re_var 0 ?_ ?_ ?_
            · exact (Or.inr (Or.inl lk__law_names__law_cell))
            · exact dn__law_cell
            exact rfl
          · decide +kernel
          refine ra_i ?_
          exact qa_nil
        decide +kernel
      refine re_var 4 ?_ ?_ ?_
      · exact (Or.inl lk__law_names__law_wide)
      · exact dn__law_wide
      exact rfl
    · exact Or.inl rfl
    · exact rfl
    decide +kernel
  refine qss_cons ?_ ?_
  · refine rs_forR1 ?_ ?_ ?_ ?_ ?_ ?_ ?_ ?_
    · exact hpo
    · exact rfl
    · exact T.N_range
    · exact lk__law_names_range
    · refine ra_i ?_
      exact qa_nil
    · refine rg_name (i := 6) ?_ ?_ ?_ ?_
      · exact nd
      · exact (Or.inl lk__law_names__law_k)
      · exact Or.inl rfl
      exact rfl
    · refine qss_cons ?_ ?_
      · refine rs_set (i := 7) ?_ ?_ ?_ ?_ ?_ ?_
        · exact nd
        · exact (Or.inl lk__law_names__law_name)
        · exact qe_str
        · exact Or.inl rfl
        · exact rfl
        decide +kernel
      refine qss_cons ?_ ?_
      · refine rs_forR1 ?_ ?_ ?_ ?_ ?_ ?_ ?_ ?_
        · exact hpo
        · exact rfl
        · exact T.N_range
        · exact lk__law_names_range
        · refine ra_c ?_ ?_ ?_
          · refine re_var 4 ?_ ?_ ?_
            · exact (Or.inl lk__law_names__law_wide)
            · exact dn__law_wide
            exact rfl
          · decide +kernel
          exact qa_nil
        · refine rg_name (i := 3) ?_ ?_ ?_ ?_
          · exact nd
          · exact (Or.inl lk__law_names__law_j)
          · exact Or.inl rfl
          exact rfl
        · refine qss_one ?_
          refine rs_set (i := 7) ?_ ?_ ?_ ?_ ?_ ?_
          · exact nd
          · exact (Or.inl lk__law_names__law_name)
          · refine qe_addX ?_ ?_
            · refine re_var 7 ?_ ?_ ?_
              · exact (Or.inl lk__law_names__law_name)
              · exact dn__law_name
              exact rfl
            refine re_index ?_ ?_ ?_
            · exact qe_str
            · refine qe_mod ?_ ?_
              · refine qe_addX ?_ ?_
                · refine re_call (CX := CX1 P w) (k := kk__law_mix) (f := (t.f 5)) (fd := (t.d 5)) (ps := ["_law_cell", "_law_k"]) ?_ ?_ ?_ ?_ ?_ ?_ ?_ ?_ ?_ ?_
                  · exact C__law_mix
                  · exact hr.mono (by decide)
                  · exact T.M__law_mix
                  · exact T.F__law_mix.kp
                  · exact T.B__law_mix
                  · exact lnk1 hx
                  · exact lk__law_names__law_mix
                  · exact dn__law_mix
                  · refine ra_c ?_ ?_ ?_
                    · refine re_var 0 ?_ ?_ ?_
                      · exact (Or.inr (Or.inl lk__law_names__law_cell))
                      · exact dn__law_cell
                      exact rfl
                    · decide +kernel
                    refine ra_c ?_ ?_ ?_
                    · refine qe_addX ?_ ?_
                      · exact qe_int
                      refine re_var 3 ?_ ?_ ?_
                      · exact (Or.inl lk__law_names__law_j)
                      · exact dn__law_j
                      exact rfl
                    · decide +kernel
                    exact qa_nil
                  decide +kernel
                refine qe_mul ?_ ?_
                · refine re_var 6 ?_ ?_ ?_
                  · exact (Or.inl lk__law_names__law_k)
                  · exact dn__law_k
                  exact rfl
                refine re_int ?_ ?_ ?_ ?_
                · exact T.N_int
                · exact lk__law_names_int
                · refine ra_c ?_ ?_ ?_
                  · refine qe_eq ?_ ?_ ?_
                    · exact hu
                    · refine re_var 3 ?_ ?_ ?_
                      · exact (Or.inl lk__law_names__law_j)
                      · exact dn__law_j
                      exact rfl
                    refine re_var 5 ?_ ?_ ?_
                    · exact (Or.inl lk__law_names__law_place)
                    · exact dn__law_place
                    exact rfl
                  · decide +kernel
                  exact qa_nil
                decide +kernel
              exact qe_int
            decide +kernel
          · exact Or.inl rfl
          · exact rfl
          decide +kernel
        decide +kernel
      refine qss_cons ?_ ?_
      · refine qs_if ?_ ?_ ?_
        · refine rt_cmp ?_ ?_ ?_ ?_
          · exact (op_inD hu)
          · refine re_var 7 ?_ ?_ ?_
            · exact (Or.inl lk__law_names__law_name)
            · exact dn__law_name
            exact rfl
          · refine qe_fnw ?_
            refine qe_lst ?_
            refine ra_s ?_
            refine ra_s ?_
            refine ra_s ?_
            refine ra_s ?_
            refine ra_s ?_
            refine ra_s ?_
            refine ra_s ?_
            refine ra_s ?_
            refine ra_s ?_
            refine ra_s ?_
            refine ra_s ?_
            refine ra_s ?_
            exact qa_nil
          decide +kernel
        · refine qss_one ?_
          refine rs_set (i := 7) ?_ ?_ ?_ ?_ ?_ ?_
          · exact nd
          · exact (Or.inl lk__law_names__law_name)
          · refine qe_addX ?_ ?_
            · refine re_var 7 ?_ ?_ ?_
              · exact (Or.inl lk__law_names__law_name)
              · exact dn__law_name
              exact rfl
            exact qe_str
          · exact Or.inl rfl
          · exact rfl
          decide +kernel
        exact qss_nil
      refine qss_one ?_
      refine rs_expr ?_ ?_
      · refine re_append ?_ ?_ ?_ ?_ ?_
        · refine re_var 1 ?_ ?_ ?_
          · exact (Or.inl lk__law_names__law_names_here)
          · exact dn__law_names_here
          exact rfl
        · refine ra_c ?_ ?_ ?_
          · refine re_var 7 ?_ ?_ ?_
            · exact (Or.inl lk__law_names__law_name)
            · exact dn__law_name
            exact rfl
          · decide +kernel
          exact qa_nil
        · decide +kernel
        · decide +kernel
        exact rfl
      decide +kernel
    decide +kernel
  refine qss_one ?_
  refine qs_ret ?_
  refine qe_fz ?_
  refine re_var 1 ?_ ?_ ?_
  · exact (Or.inl lk__law_names__law_names_here)
  · exact dn__law_names_here
  exact rfl
theorem sc__law_rows : FnScope N__law_rows ["_law_cells_here", "_law_names_here", "_law_most_here"] (defScope s__law_rows) := ⟨rfl, rfl, rfl, by decide +kernel, rfl, by decide +kernel, by decide +kernel⟩
theorem ok__law_rows (T : Txt K mg t) (C__law_mix : FnOk P w K mg base (CX1 P w) 1 (t.f 5) (t.d 5) ["_law_cell", "_law_k"] (spOf K mg 2 m__law_mix)) : FnOk P w K mg base (CX1 P w) 2 (t.f 8) (t.d 8) ["_law_cells_here", "_law_names_here", "_law_most_here"] (spOf K mg 3 m__law_rows) := by
  refine FnOk.imp (sp := spOf K mg 3 (fun ds => runB 8 b__law_rows ds)) ?_ pure_sp
  refine fnx (k := 1) (ms := b__law_rows) T.F__law_rows sc__law_rows (by decide) (by decide) (fun _ => rfl) ?_
  intro X EE cdv A outer s H E hX hr hx hpo
  subst hX
  have hu := room200 hr
  have nd := sc__law_rows.nd
  have hfr : HasFr (cxOf (CX1 P w) P w K mg base N__law_rows "_law_rows" (defScope s__law_rows) (t.f 8) cdv A outer s H E) := ⟨_, outer, s.heap.objs.size, rfl, rfl, rfl⟩
  refine qss_cons ?_ ?_
  · refine rs_set (i := 3) ?_ ?_ ?_ ?_ ?_ ?_
    · exact nd
    · exact (Or.inl lk__law_rows__law_rows_here)
    · refine qe_lst ?_
      refine ra_c ?_ ?_ ?_
      · refine qe_tup ?_
        refine ra_i ?_
        refine ra_c ?_ ?_ ?_
        · refine re_index ?_ ?_ ?_
          · refine re_var 1 ?_ ?_ ?_
            · exact (Or.inl lk__law_rows__law_names_here)
            · exact dn__law_names_here
            exact rfl
          · refine qe_mod ?_ ?_
            · refine re_call (CX := CX1 P w) (k := kk__law_mix) (f := (t.f 5)) (fd := (t.d 5)) (ps := ["_law_cell", "_law_k"]) ?_ ?_ ?_ ?_ ?_ ?_ ?_ ?_ ?_ ?_
              · exact C__law_mix
              · exact hr.mono (by decide)
              · exact T.M__law_mix
              · exact T.F__law_mix.kp
              · exact T.B__law_mix
              · exact lnk1 hx
              · exact lk__law_rows__law_mix
              · exact dn__law_mix
              · refine ra_c ?_ ?_ ?_
                · refine re_index ?_ ?_ ?_
                  · refine re_var 0 ?_ ?_ ?_
                    · exact (Or.inl lk__law_rows__law_cells_here)
                    · exact dn__law_cells_here
                    exact rfl
                  · exact qe_int
                  decide +kernel
                · decide +kernel
                refine ra_i ?_
                exact qa_nil
              decide +kernel
            exact qe_int
          decide +kernel
        · decide +kernel
        exact qa_nil
      · decide +kernel
      exact qa_nil
    · exact Or.inl rfl
    · exact rfl
    decide +kernel
  refine qss_cons ?_ ?_
  · refine rs_for ?_ ?_ ?_ ?_ ?_ ?_
    · exact hpo
    · exact rfl
    · refine re_var 0 ?_ ?_ ?_
      · exact (Or.inl lk__law_rows__law_cells_here)
      · exact dn__law_cells_here
      exact rfl
    · refine rg_name (i := 4) ?_ ?_ ?_ ?_
      · exact nd
      · exact (Or.inl lk__law_rows__law_cell)
      · exact Or.inl rfl
      exact rfl
    · refine qss_cons ?_ ?_
      · refine rs_set (i := 5) ?_ ?_ ?_ ?_ ?_ ?_
        · exact nd
        · exact (Or.inl lk__law_rows__law_many)
        · exact qe_int
        · exact Or.inl rfl
        · exact rfl
        decide +kernel
      refine qss_cons ?_ ?_
      · refine qs_if ?_ ?_ ?_
        · refine rt_cmp ?_ ?_ ?_ ?_
          · exact (op_eqD hu)
          · refine qe_mod ?_ ?_
            · refine re_call (CX := CX1 P w) (k := kk__law_mix) (f := (t.f 5)) (fd := (t.d 5)) (ps := ["_law_cell", "_law_k"]) ?_ ?_ ?_ ?_ ?_ ?_ ?_ ?_ ?_ ?_
              · exact C__law_mix
              · exact hr.mono (by decide)
              · exact T.M__law_mix
              · exact T.F__law_mix.kp
              · exact T.B__law_mix
              · exact lnk1 hx
              · exact lk__law_rows__law_mix
              · exact dn__law_mix
              · refine ra_c ?_ ?_ ?_
                · refine re_var 4 ?_ ?_ ?_
                  · exact (Or.inl lk__law_rows__law_cell)
                  · exact dn__law_cell
                  exact rfl
                · decide +kernel
                refine ra_i ?_
                exact qa_nil
              decide +kernel
            exact qe_int
          · exact qe_int
          decide +kernel
        · refine qss_one ?_
          refine rs_set (i := 5) ?_ ?_ ?_ ?_ ?_ ?_
          · exact nd
          · exact (Or.inl lk__law_rows__law_many)
          · refine qe_addX ?_ ?_
            · exact qe_int
            refine qe_mod ?_ ?_
            · refine re_call (CX := CX1 P w) (k := kk__law_mix) (f := (t.f 5)) (fd := (t.d 5)) (ps := ["_law_cell", "_law_k"]) ?_ ?_ ?_ ?_ ?_ ?_ ?_ ?_ ?_ ?_
              · exact C__law_mix
              · exact hr.mono (by decide)
              · exact T.M__law_mix
              · exact T.F__law_mix.kp
              · exact T.B__law_mix
              · exact lnk1 hx
              · exact lk__law_rows__law_mix
              · exact dn__law_mix
              · refine ra_c ?_ ?_ ?_
                · refine re_var 4 ?_ ?_ ?_
                  · exact (Or.inl lk__law_rows__law_cell)
                  · exact dn__law_cell
                  exact rfl
                · decide +kernel
                refine ra_i ?_
                exact qa_nil
              decide +kernel
            exact qe_int
          · exact Or.inl rfl
          · exact rfl
          decide +kernel
        exact qss_nil
      refine qss_one ?_
      refine rs_forR1 ?_ ?_ ?_ ?_ ?_ ?_ ?_ ?_
      · exact hpo
      · exact rfl
      · exact T.N_range
      · exact lk__law_rows_range
      · refine ra_c ?_ ?_ ?_
        · refine re_var 5 ?_ ?_ ?_
          · exact (Or.inl lk__law_rows__law_many)
          · exact dn__law_many
          exact rfl
        · decide +kernel
        exact qa_nil
      · refine rg_name (i := 6) ?_ ?_ ?_ ?_
        · exact nd
        · exact (Or.inl lk__law_rows__law_k)
        · exact Or.inl rfl
        exact rfl
      · refine qss_cons ?_ ?_
        · refine rs_set (i := 7) ?_ ?_ ?_ ?_ ?_ ?_
          · exact nd
          · exact (Or.inl lk__law_rows__law_deep)
          · refine qe_addX ?_ ?_
            · exact qe_int
            refine qe_mod ?_ ?_
            · refine re_call (CX := CX1 P w) (k := kk__law_mix) (f := (t.f 5)) (fd := (t.d 5)) (ps := ["_law_cell", "_law_k"]) ?_ ?_ ?_ ?_ ?_ ?_ ?_ ?_ ?_ ?_
              · exact C__law_mix
              · exact hr.mono (by decide)
              · exact T.M__law_mix
              · exact T.F__law_mix.kp
              · exact T.B__law_mix
              · exact lnk1 hx
              · exact lk__law_rows__law_mix
              · exact dn__law_mix
              · refine ra_c ?_ ?_ ?_
                · refine re_var 4 ?_ ?_ ?_
                  · exact (Or.inl lk__law_rows__law_cell)
                  · exact dn__law_cell
                  exact rfl
                · decide +kernel
                refine ra_i ?_
                exact qa_nil
              decide +kernel
            refine qe_addX ?_ ?_
            · refine re_index ?_ ?_ ?_
              · refine re_index ?_ ?_ ?_
                · refine re_var 3 ?_ ?_ ?_
                  · exact (Or.inl lk__law_rows__law_rows_here)
                  · exact dn__law_rows_here
                  exact rfl
                · refine qe_neg ?_
                  exact qe_int
                decide +kernel
              · exact qe_int
              decide +kernel
            exact qe_int
          · exact Or.inl rfl
          · exact rfl
          decide +kernel
        refine qss_cons ?_ ?_
        · refine qs_if ?_ ?_ ?_
          · refine rt_cmp ?_ ?_ ?_ ?_
            · exact op_gtD
            · refine re_var 6 ?_ ?_ ?_
              · exact (Or.inl lk__law_rows__law_k)
              · exact dn__law_k
              exact rfl
            · exact qe_int
            decide +kernel
          · refine qss_one ?_
            refine rs_set (i := 7) ?_ ?_ ?_ ?_ ?_ ?_
            · exact nd
            · exact (Or.inl lk__law_rows__law_deep)
            · refine qe_addX ?_ ?_
              · refine re_index ?_ ?_ ?_
                · refine re_index ?_ ?_ ?_
                  · refine re_var 3 ?_ ?_ ?_
                    · exact (Or.inl lk__law_rows__law_rows_here)
                    · exact dn__law_rows_here
                    exact rfl
                  · refine qe_neg ?_
                    exact qe_int
                  decide +kernel
                · exact qe_int
                decide +kernel
              refine qe_mod ?_ ?_
              · refine re_call (CX := CX1 P w) (k := kk__law_mix) (f := (t.f 5)) (fd := (t.d 5)) (ps := ["_law_cell", "_law_k"]) ?_ ?_ ?_ ?_ ?_ ?_ ?_ ?_ ?_ ?_
                · exact C__law_mix
                · exact hr.mono (by decide)
                · exact T.M__law_mix
                · exact T.F__law_mix.kp
                · exact T.B__law_mix
                · exact lnk1 hx
                · exact lk__law_rows__law_mix
                · exact dn__law_mix
                · refine ra_c ?_ ?_ ?_
                  · refine re_var 4 ?_ ?_ ?_
                    · exact (Or.inl lk__law_rows__law_cell)
                    · exact dn__law_cell
                    exact rfl
                  · decide +kernel
                  refine ra_i ?_
                  exact qa_nil
                decide +kernel
              exact qe_int
            · exact Or.inl rfl
            · exact rfl
            decide +kernel
          exact qss_nil
        refine qss_one ?_
        refine qs_if ?_ ?_ ?_
        · refine rt_cmp ?_ ?_ ?_ ?_
          · exact op_ltD
          · refine re_len ?_ ?_ ?_ ?_
            · exact T.N_len
            · exact lk__law_rows_len
            · refine ra_c ?_ ?_ ?_
              · refine re_var 3 ?_ ?_ ?_
                · exact (Or.inl lk__law_rows__law_rows_here)
                · exact dn__law_rows_here
                exact rfl
              · decide +kernel
              exact qa_nil
            decide +kernel
          · refine re_var 2 ?_ ?_ ?_
            · exact (Or.inl lk__law_rows__law_most_here)
            · exact dn__law_most_here
            exact rfl
          decide +kernel
        · refine qss_one ?_
          refine rs_expr ?_ ?_
          · refine re_append ?_ ?_ ?_ ?_ ?_
            · refine re_var 3 ?_ ?_ ?_
              · exact (Or.inl lk__law_rows__law_rows_here)
              · exact dn__law_rows_here
              exact rfl
            · refine ra_c ?_ ?_ ?_
              · refine qe_tup ?_
                refine ra_c ?_ ?_ ?_
                · refine re_var 7 ?_ ?_ ?_
                  · exact (Or.inl lk__law_rows__law_deep)
                  · exact dn__law_deep
                  exact rfl
                · decide +kernel
                refine ra_c ?_ ?_ ?_
                · refine re_index ?_ ?_ ?_
                  · refine re_var 1 ?_ ?_ ?_
                    · exact (Or.inl lk__law_rows__law_names_here)
                    · exact dn__law_names_here
                    exact rfl
                  · refine qe_mod ?_ ?_
                    · refine re_call (CX := CX1 P w) (k := kk__law_mix) (f := (t.f 5)) (fd := (t.d 5)) (ps := ["_law_cell", "_law_k"]) ?_ ?_ ?_ ?_ ?_ ?_ ?_ ?_ ?_ ?_
                      · exact C__law_mix
                      · exact hr.mono (by decide)
                      · exact T.M__law_mix
                      · exact T.F__law_mix.kp
                      · exact T.B__law_mix
                      · exact lnk1 hx
                      · exact lk__law_rows__law_mix
                      · exact dn__law_mix
                      · refine ra_c ?_ ?_ ?_
                        · refine re_var 4 ?_ ?_ ?_
                          · exact (Or.inl lk__law_rows__law_cell)
                          · exact dn__law_cell
                          exact rfl
                        · decide +kernel
                        refine ra_c ?_ ?_ ?_
                        · refine qe_addX ?_ ?_
                          · exact qe_int
                          refine re_var 6 ?_ ?_ ?_
                          · exact (Or.inl lk__law_rows__law_k)
                          · exact dn__law_k
                          exact rfl
                        · decide +kernel
                        exact qa_nil
                      decide +kernel
                    exact qe_int
                  decide +kernel
                · decide +kernel
                exact qa_nil
              · decide +kernel
              exact qa_nil
            · decide +kernel
            · decide +kernel
            exact rfl
          decide +kernel
        exact qss_nil
      decide +kernel
    decide +kernel
  refine qss_one ?_
  refine qs_ret ?_
  refine qe_fz ?_
  refine re_var 3 ?_ ?_ ?_
  · exact (Or.inl lk__law_rows__law_rows_here)
  · exact dn__law_rows_here
  exact rfl
theorem sc__law_most : FnScope N__law_most ["_law_script", "_law_most_here"] (defScope s__law_most) := ⟨rfl, rfl, rfl, by decide +kernel, rfl, by decide +kernel, by decide +kernel⟩
theorem ok__law_most (T : Txt K mg t) (C__law_mix : FnOk P w K mg base (CX1 P w) 1 (t.f 5) (t.d 5) ["_law_cell", "_law_k"] (spOf K mg 2 m__law_mix)) : FnOk P w K mg base (CX1 P w) 2 (t.f 12) (t.d 12) ["_law_script", "_law_most_here"] (spOf K mg 2 m__law_most) := by
  refine FnOk.imp (sp := spOf K mg 2 (fun ds => runB 3 b__law_most ds)) ?_ pure_sp
  refine fnx (k := 1) (ms := b__law_most) T.F__law_most sc__law_most (by decide) (by decide) (fun _ => rfl) ?_
  intro X EE cdv A outer s H E hX hr hx hpo
  subst hX
  have hu := room200 hr
  have nd := sc__law_most.nd
  have hfr : HasFr (cxOf (CX1 P w) P w K mg base N__law_most "_law_most" (defScope s__law_most) (t.f 12) cdv A outer s H E) := ⟨_, outer, s.heap.objs.size, rfl, rfl, rfl⟩
  refine qss_cons ?_ ?_
  · refine rs_set (i := 2) ?_ ?_ ?_ ?_ ?_ ?_
    · exact nd
    · exact (Or.inl lk__law_most__law_head)
    · refine re_call (CX := CX1 P w) (k := kk__law_mix) (f := (t.f 5)) (fd := (t.d 5)) (ps := ["_law_cell", "_law_k"]) ?_ ?_ ?_ ?_ ?_ ?_ ?_ ?_ ?_ ?_
      · exact C__law_mix
      · exact hr.mono (by decide)
      · exact T.M__law_mix
      · exact T.F__law_mix.kp
      · exact T.B__law_mix
      · exact lnk1 hx
      · exact lk__law_most__law_mix
      · exact dn__law_mix
      · refine ra_c ?_ ?_ ?_
        · refine re_sum ?_ ?_ ?_ ?_ ?_
          · exact rfl
          · exact T.N_sum
          · exact lk__law_most_sum
          · refine ra_c ?_ ?_ ?_
            · refine qe_fnw ?_
              refine qe_slice ?_ ?_ ?_
              · refine re_var 0 ?_ ?_ ?_
                · exact (Or.inl lk__law_most__law_script)
                · exact dn__law_script
                exact rfl
              · exact qo_none
              refine qo_some ?_
              exact qe_int
            · decide +kernel
            exact qa_nil
          decide +kernel
        · decide +kernel
        refine ra_i ?_
        exact qa_nil
      decide +kernel
    · exact Or.inl rfl
    · exact rfl
    decide +kernel
  refine qss_cons ?_ ?_
  · refine qs_if ?_ ?_ ?_
    · refine rt_cmp ?_ ?_ ?_ ?_
      · exact (op_eqD hu)
      · refine qe_mod ?_ ?_
        · refine re_var 2 ?_ ?_ ?_
          · exact (Or.inl lk__law_most__law_head)
          · exact dn__law_head
          exact rfl
        exact qe_int
      · exact qe_int
      decide +kernel
    · refine qss_one ?_
      refine qs_ret ?_
      refine qe_addX ?_ ?_
      · exact qe_int
      refine qe_mod ?_ ?_
      · refine qe_fdiv ?_ ?_
        · refine re_var 2 ?_ ?_ ?_
          · exact (Or.inl lk__law_most__law_head)
          · exact dn__law_head
          exact rfl
        exact qe_int
      exact qe_int
    exact qss_nil
  refine qss_one ?_
  refine qs_ret ?_
  refine re_var 1 ?_ ?_ ?_
  · exact (Or.inl lk__law_most__law_most_here)
  · exact dn__law_most_here
  exact rfl
theorem sc_placed_trees : FnScope N_placed_trees ["tree"] (defScope s_placed_trees) := ⟨rfl, rfl, rfl, by decide +kernel, rfl, by decide +kernel, by decide +kernel⟩
theorem ok_placed_trees (T : Txt K mg t) (C_all_within : FnOk P w K mg base (CX1 P w) 2 (t.f 0) (t.d 0) ["top", "parts_of"] (spOf K mg 2 m_all_within)) : FnOk P w K mg base (CX1 P w) 3 (t.f 3) (t.d 3) ["tree"] (spOf K mg 1 m_placed_trees) := by
  refine FnOk.imp (sp := spOf K mg 1 (fun ds => runB 1 b_placed_trees ds)) ?_ pure_sp
  refine fnx (k := 2) (ms := b_placed_trees) T.F_placed_trees sc_placed_trees (by decide) (by decide) (fun _ => rfl) ?_
  intro X EE cdv A outer s H E hX hr hx hpo
  subst hX
  have hu := room200 hr
  have nd := sc_placed_trees.nd
  have hfr : HasFr (cxOf (CX1 P w) P w K mg base N_placed_trees "placed_trees" (defScope s_placed_trees) (t.f 3) cdv A outer s H E) := ⟨_, outer, s.heap.objs.size, rfl, rfl, rfl⟩
  refine qss_one ?_
  refine qs_ret ?_
  refine re_call (CX := CX1 P w) (k := kk_all_within) (f := (t.f 0)) (fd := (t.d 0)) (ps := ["top", "parts_of"]) ?_ ?_ ?_ ?_ ?_ ?_ ?_ ?_ ?_ ?_
  · exact C_all_within
  · exact hr.mono (by decide)
  · exact T.M_all_within
  · exact T.F_all_within.kp
  · exact T.B_all_within
  · exact lnk1 hx
  · exact lk_placed_trees_all_within
  · exact dn_all_within
  · refine ra_c ?_ ?_ ?_
    · refine qe_tup ?_
      refine ra_c ?_ ?_ ?_
      · refine qe_tup ?_
        exact qa_nil
      · decide +kernel
      refine ra_c ?_ ?_ ?_
      · refine re_var 0 ?_ ?_ ?_
        · exact (Or.inl lk_placed_trees_tree)
        · exact dn_tree
        exact rfl
      · decide +kernel
      exact qa_nil
    · decide +kernel
    refine ra_c ?_ ?_ ?_
    · refine re_fn (f := (t.f 4)) ?_ ?_ ?_
      · exact T.M_placed_parts
      · exact lk_placed_trees_placed_parts
      exact dn_placed_parts
    · decide +kernel
    exact qa_nil
  decide +kernel
theorem sc_all_places : FnScope N_all_places ["tree"] (defScope s_all_places) := ⟨rfl, rfl, rfl, by decide +kernel, rfl, by decide +kernel, by decide +kernel⟩
theorem ok_all_places (T : Txt K mg t) (C_placed_trees : FnOk P w K mg base (CX1 P w) 3 (t.f 3) (t.d 3) ["tree"] (spOf K mg 1 m_placed_trees)) : FnOk P w K mg base (CX1 P w) 4 (t.f 1) (t.d 1) ["tree"] (spOf K mg 1 m_all_places) := by
  refine FnOk.imp (sp := spOf K mg 1 (fun ds => runB 1 b_all_places ds)) ?_ pure_sp
  refine fnx (k := 3) (ms := b_all_places) T.F_all_places sc_all_places (by decide) (by decide) (fun _ => rfl) ?_
  intro X EE cdv A outer s H E hX hr hx hpo
  subst hX
  have hu := room200 hr
  have nd := sc_all_places.nd
  have hfr : HasFr (cxOf (CX1 P w) P w K mg base N_all_places "all_places" (defScope s_all_places) (t.f 1) cdv A outer s H E) := ⟨_, outer, s.heap.objs.size, rfl, rfl, rfl⟩
  refine qss_one ?_
  refine qs_ret ?_
  refine qe_fnw ?_
  refine re_comp (xs := ["place", "part"]) (ow := ownT K 2) ?_ ?_ ?_ ?_ ?_ ?_ ?_ ?_ ?_
  · exact hx
  · exact hfr
  · exact S_cs_all_places_0
  · exact own_pair rfl S_cs_all_places_0
  · exact ownD_tup
  · exact rfl
  · refine re_call (CX := CX1 P w) (k := kk_placed_trees) (f := (t.f 3)) (fd := (t.d 3)) (ps := ["tree"]) ?_ ?_ ?_ ?_ ?_ ?_ ?_ ?_ ?_ ?_
    · exact C_placed_trees
    · exact hr.mono (by decide)
    · exact T.M_placed_trees
    · exact T.F_placed_trees.kp
    · exact T.B_placed_trees
    · exact lnk1 hx
    · exact lk_all_places_placed_trees
    · exact dn_placed_trees
    · refine ra_c ?_ ?_ ?_
      · refine re_var 0 ?_ ?_ ?_
        · exact (Or.inl lk_all_places_tree)
        · exact dn_tree
        exact rfl
      · decide +kernel
      exact qa_nil
    decide +kernel
  · refine compB_nil fun cl C pins s0 H0 fp E1 EE1 hx => ?_
    refine re_var 0 ?_ ?_ ?_
    · exact (cv_loc S_cs_all_places_0 (by simp))
    · exact dn_place
    exact rfl
  decide +kernel
theorem ok_all_places_o (T : Txt K mg t) (C_placed_trees : FnOk P w K mg base (CX1 P w) 3 (t.f 3) (t.d 3) ["tree"] (spOf K mg 1 m_placed_trees)) : FnOk P w K mg base (CX1 P w) 4 (t.f 1) (t.d 1) ["tree"] (spOf K mg 1 m_all_places_o) := by
  refine FnOk.imp (sp := spOf K mg 1 (fun ds => runB 1 b_all_places_o ds)) ?_ fresh_sp
  refine fnx (k := 3) (ms := b_all_places_o) T.F_all_places sc_all_places (by decide) (by decide) (fun _ => rfl) ?_
  intro X EE cdv A outer s H E hX hr hx hpo
  subst hX
  have hu := room200 hr
  have nd := sc_all_places.nd
  have hfr : HasFr (cxOf (CX1 P w) P w K mg base N_all_places "all_places" (defScope s_all_places) (t.f 1) cdv A outer s H E) := ⟨_, outer, s.heap.objs.size, rfl, rfl, rfl⟩
  refine qss_one ?_
  refine qs_ret ?_
  refine re_comp (xs := ["place", "part"]) (ow := ownT K 2) ?_ ?_ ?_ ?_ ?_ ?_ ?_ ?_ ?_
  · exact hx
  · exact hfr
  · exact S_cs_all_places_o_0
  · exact own_pair rfl S_cs_all_places_o_0
  · exact ownD_tup
  · exact rfl
  · refine re_call (CX := CX1 P w) (k := kk_placed_trees) (f := (t.f 3)) (fd := (t.d 3)) (ps := ["tree"]) ?_ ?_ ?_ ?_ ?_ ?_ ?_ ?_ ?_ ?_
    · exact C_placed_trees
    · exact hr.mono (by decide)
    · exact T.M_placed_trees
    · exact T.F_placed_trees.kp
    · exact T.B_placed_trees
    · exact lnk1 hx
    · exact lk_all_places_placed_trees
    · exact dn_placed_trees
    · refine ra_c ?_ ?_ ?_
      · refine re_var 0 ?_ ?_ ?_
        · exact (Or.inl lk_all_places_tree)
        · exact dn_tree
        exact rfl
      · decide +kernel
      exact qa_nil
    decide +kernel
  · refine compB_nil fun cl C pins s0 H0 fp E1 EE1 hx => ?_
    refine re_var 0 ?_ ?_ ?_
    · exact (cv_loc S_cs_all_places_o_0 (by simp))
    · exact dn_place
    exact rfl
  decide +kernel
theorem sc_law : FnScope N_law ["_law_script"] (defScope s_law) := ⟨rfl, rfl, rfl, by decide +kernel, rfl, by decide +kernel, by decide +kernel⟩
theorem ok_law (T : Txt K mg t) (C_all_places : FnOk P w K mg base (CX1 P w) 4 (t.f 1) (t.d 1) ["tree"] (spOf K mg 1 m_all_places)) (C_tree_at : FnOk P w K mg base (CX1 P w) 1 (t.f 2) (t.d 2) ["tree", "place"] (spOf K mg 2 m_tree_at)) (C__law_cells : FnOk P w K mg base (CX1 P w) 2 (t.f 6) (t.d 6) ["_law_script", "_law_start"] (spOf K mg 2 m__law_cells)) (C__law_names : FnOk P w K mg base (CX1 P w) 2 (t.f 7) (t.d 7) ["_law_cell"] (spOf K mg 1 m__law_names)) (C__law_rows : FnOk P w K mg base (CX1 P w) 2 (t.f 8) (t.d 8) ["_law_cells_here", "_law_names_here", "_law_most_here"] (spOf K mg 3 m__law_rows)) (C__law_trees : FnOk P w K mg base (CX1 P w) 1 (t.f 9) (t.d 9) ["_law_rows_here"] (spOf K mg 1 m__law_trees)) (C__law_spots : FnOk P w K mg base (CX1 P w) 1 (t.f 10) (t.d 10) ["_law_rows_here"] (spOf K mg 1 m__law_spots)) (C__law_same : FnOk P w K mg base (CX1 P w) 1 (t.f 11) (t.d 11) ["_law_told", "_law_spots_here"] (spOf K mg 2 m__law_same)) (C__law_most : FnOk P w K mg base (CX1 P w) 2 (t.f 12) (t.d 12) ["_law_script", "_law_most_here"] (spOf K mg 2 m__law_most)) (C_all_places_o : FnOk P w K mg base (CX1 P w) 4 (t.f 1) (t.d 1) ["tree"] (spOf K mg 1 m_all_places_o)) : FnOk P w K mg base (CX1 P w) 5 (t.f 13) (t.d 13) ["_law_script"] (spOf K mg 1 m_law) := by
  refine FnOk.imp (sp := spOf K mg 1 (fun ds => runB 8 b_law ds)) ?_ pure_sp
  refine fnx (k := 4) (ms := b_law) T.F_law sc_law (by decide) (by decide) (fun _ => rfl) ?_
  intro X EE cdv A outer s H E hX hr hx hpo
  subst hX
  have hu := room200 hr
  have nd := sc_law.nd
  have hfr : HasFr (cxOf (CX1 P w) P w K mg base N_law "law" (defScope s_law) (t.f 13) cdv A outer s H E) := ⟨_, outer, s.heap.objs.size, rfl, rfl, rfl⟩
  refine qss_cons ?_ ?_
  · refine rs_set (i := 1) ?_ ?_ ?_ ?_ ?_ ?_
    · exact nd
    · exact (Or.inl lk_law__law_names_here)
    · refine re_call (CX := CX1 P w) (k := kk__law_names) (f := (t.f 7)) (fd := (t.d 7)) (ps := ["_law_cell"]) ?_ ?_ ?_ ?_ ?_ ?_ ?_ ?_ ?_ ?_
      · exact C__law_names
      · exact hr.mono (by decide)
      · exact T.M__law_names
      · exact T.F__law_names.kp
      · exact T.B__law_names
      · exact lnk1 hx
      · exact lk_law__law_names
      · exact dn__law_names
      · refine ra_c ?_ ?_ ?_
        · refine re_sum ?_ ?_ ?_ ?_ ?_
          · exact rfl
          · exact T.N_sum
          · exact lk_law_sum
          · refine ra_c ?_ ?_ ?_
            · refine qe_fnw ?_
              refine qe_slice ?_ ?_ ?_
              · refine re_var 0 ?_ ?_ ?_
                · exact (Or.inl lk_law__law_script)
                · exact dn__law_script
                exact rfl
              · exact qo_none
              refine qo_some ?_
              exact qe_int
            · decide +kernel
            exact qa_nil
          decide +kernel
        · decide +kernel
        exact qa_nil
      decide +kernel
    · exact Or.inl rfl
    · exact rfl
    decide +kernel
  refine qss_cons ?_ ?_
  · refine rs_set (i := 2) ?_ ?_ ?_ ?_ ?_ ?_
    · exact nd
    · exact (Or.inl lk_law__law_rows_here)
    · refine re_call (CX := CX1 P w) (k := kk__law_rows) (f := (t.f 8)) (fd := (t.d 8)) (ps := ["_law_cells_here", "_law_names_here", "_law_most_here"]) ?_ ?_ ?_ ?_ ?_ ?_ ?_ ?_ ?_ ?_
      · exact C__law_rows
      · exact hr.mono (by decide)
      · exact T.M__law_rows
      · exact T.F__law_rows.kp
      · exact T.B__law_rows
      · exact lnk1 hx
      · exact lk_law__law_rows
      · exact dn__law_rows
      · refine ra_c ?_ ?_ ?_
        · refine qe_fnw ?_
          refine qe_addX ?_ ?_
          · refine re_call (CX := CX1 P w) (k := kk__law_cells) (f := (t.f 6)) (fd := (t.d 6)) (ps := ["_law_script", "_law_start"]) ?_ ?_ ?_ ?_ ?_ ?_ ?_ ?_ ?_ ?_
            · exact C__law_cells
            · exact hr.mono (by decide)
            · exact T.M__law_cells
            · exact T.F__law_cells.kp
            · exact T.B__law_cells
            · exact lnk1 hx
            · exact lk_law__law_cells
            · exact dn__law_cells
            · refine ra_c ?_ ?_ ?_
              · refine re_var 0 ?_ ?_ ?_
                · exact (Or.inl lk_law__law_script)
                · exact dn__law_script
                exact rfl
              · decide +kernel
              refine ra_i ?_
              exact qa_nil
            decide +kernel
          refine re_call (CX := CX1 P w) (k := kk__law_cells) (f := (t.f 6)) (fd := (t.d 6)) (ps := ["_law_script", "_law_start"]) ?_ ?_ ?_ ?_ ?_ ?_ ?_ ?_ ?_ ?_
          · exact C__law_cells
          · exact hr.mono (by decide)
          · exact T.M__law_cells
          · exact T.F__law_cells.kp
          · exact T.B__law_cells
          · exact lnk1 hx
          · exact lk_law__law_cells
          · exact dn__law_cells
          · refine ra_c ?_ ?_ ?_
            · refine re_var 0 ?_ ?_ ?_
              · exact (Or.inl lk_law__law_script)
              · exact dn__law_script
              exact rfl
            · decide +kernel
            refine ra_i ?_
            exact qa_nil
          decide +kernel
        · decide +kernel
        refine ra_c ?_ ?_ ?_
        · refine re_var 1 ?_ ?_ ?_
          · exact (Or.inl lk_law__law_names_here)
          · exact dn__law_names_here
          exact rfl
        · decide +kernel
        refine ra_c ?_ ?_ ?_
        · refine re_call (CX := CX1 P w) (k := kk__law_most) (f := (t.f 12)) (fd := (t.d 12)) (ps := ["_law_script", "_law_most_here"]) ?_ ?_ ?_ ?_ ?_ ?_ ?_ ?_ ?_ ?_
          · exact C__law_most
          · exact hr.mono (by decide)
          · exact T.M__law_most
          · exact T.F__law_most.kp
          · exact T.B__law_most
          · exact lnk1 hx
          · exact lk_law__law_most
          · exact dn__law_most
          · refine ra_c ?_ ?_ ?_
            · refine re_var 0 ?_ ?_ ?_
              · exact (Or.inl lk_law__law_script)
              · exact dn__law_script
              exact rfl
            · decide +kernel
            refine ra_i ?_
            exact qa_nil
          decide +kernel
        · decide +kernel
        exact qa_nil
      decide +kernel
    · exact Or.inl rfl
    · exact rfl
    decide +kernel
  refine qss_cons ?_ ?_
  · refine rs_set (i := 3) ?_ ?_ ?_ ?_ ?_ ?_
    · exact nd
    · exact (Or.inl lk_law__law_trees_here)
    · refine re_call (CX := CX1 P w) (k := kk__law_trees) (f := (t.f 9)) (fd := (t.d 9)) (ps := ["_law_rows_here"]) ?_ ?_ ?_ ?_ ?_ ?_ ?_ ?_ ?_ ?_
      · exact C__law_trees
      · exact hr.mono (by decide)
      · exact T.M__law_trees
      · exact T.F__law_trees.kp
      · exact T.B__law_trees
      · exact lnk1 hx
      · exact lk_law__law_trees
      · exact dn__law_trees
      · refine ra_c ?_ ?_ ?_
        · refine re_var 2 ?_ ?_ ?_
          · exact (Or.inl lk_law__law_rows_here)
          · exact dn__law_rows_here
          exact rfl
        · decide +kernel
        exact qa_nil
      decide +kernel
    · exact Or.inl rfl
    · exact rfl
    decide +kernel
  refine qss_cons ?_ ?_
  · refine rs_set (i := 4) ?_ ?_ ?_ ?_ ?_ ?_
    · exact nd
    · exact (Or.inl lk_law__law_spots_here)
    · refine re_call (CX := CX1 P w) (k := kk__law_spots) (f := (t.f 10)) (fd := (t.d 10)) (ps := ["_law_rows_here"]) ?_ ?_ ?_ ?_ ?_ ?_ ?_ ?_ ?_ ?_
      · exact C__law_spots
      · exact hr.mono (by decide)
      · exact T.M__law_spots
      · exact T.F__law_spots.kp
      · exact T.B__law_spots
      · exact lnk1 hx
      · exact lk_law__law_spots
      · exact dn__law_spots
      · refine ra_c ?_ ?_ ?_
        · refine re_var 2 ?_ ?_ ?_
          · exact (Or.inl lk_law__law_rows_here)
          · exact dn__law_rows_here
          exact rfl
        · decide +kernel
        exact qa_nil
      decide +kernel
    · exact Or.inl rfl
    · exact rfl
    decide +kernel
  refine qss_cons ?_ ?_
  · refine rs_set (i := 5) ?_ ?_ ?_ ?_ ?_ ?_
    · exact nd
    · exact (Or.inl lk_law__law_told)
    · refine re_call (CX := CX1 P w) (k := kk_all_places_o) (f := (t.f 1)) (fd := (t.d 1)) (ps := ["tree"]) ?_ ?_ ?_ ?_ ?_ ?_ ?_ ?_ ?_ ?_
      · exact C_all_places_o
      · exact hr.mono (by decide)
      · exact T.M_all_places
      · exact T.F_all_places.kp
      · exact T.B_all_places
      · exact lnk1 hx
      · exact lk_law_all_places
      · exact dn_all_places
      · refine ra_c ?_ ?_ ?_
        · refine re_index ?_ ?_ ?_
          · refine re_var 3 ?_ ?_ ?_
            · exact (Or.inl lk_law__law_trees_here)
            · exact dn__law_trees_here
            exact rfl
          · exact qe_int
          decide +kernel
        · decide +kernel
        exact qa_nil
      decide +kernel
    · exact Or.inl rfl
    · exact rfl
    decide +kernel
  refine qss_cons ?_ ?_
  · refine qs_if ?_ ?_ ?_
    · refine qt_not ?_
      refine rt_tru ?_ ?_
      · refine re_call (CX := CX1 P w) (k := kk__law_same) (f := (t.f 11)) (fd := (t.d 11)) (ps := ["_law_told", "_law_spots_here"]) ?_ ?_ ?_ ?_ ?_ ?_ ?_ ?_ ?_ ?_
        · exact C__law_same
        · exact hr.mono (by decide)
        · exact T.M__law_same
        · exact T.F__law_same.kp
        · exact T.B__law_same
        · exact lnk1 hx
        · exact lk_law__law_same
        · exact dn__law_same
        · refine ra_c ?_ ?_ ?_
          · refine re_var 5 ?_ ?_ ?_
            · exact (Or.inl lk_law__law_told)
            · exact dn__law_told
            exact rfl
          · decide +kernel
          refine ra_c ?_ ?_ ?_
          · refine re_var 4 ?_ ?_ ?_
            · exact (Or.inl lk_law__law_spots_here)
            · exact dn__law_spots_here
            exact rfl
          · decide +kernel
          exact qa_nil
        decide +kernel
      decide +kernel
    · refine qss_one ?_
      refine qs_ret ?_
      exact qe_bl
    exact qss_nil
  refine qss_cons ?_ ?_
  · refine rs_forV ?_ ?_ ?_ ?_ ?_ ?_
    · exact hpo
    · exact rfl
    · refine ri_zip ?_ ?_ ?_ ?_
      · exact T.N_zip
      · exact lk_law_zip
      · refine ra_c ?_ ?_ ?_
        · refine re_var 4 ?_ ?_ ?_
          · exact (Or.inl lk_law__law_spots_here)
          · exact dn__law_spots_here
          exact rfl
        · decide +kernel
        refine ra_c ?_ ?_ ?_
        · refine re_var 3 ?_ ?_ ?_
          · exact (Or.inl lk_law__law_trees_here)
          · exact dn__law_trees_here
          exact rfl
        · decide +kernel
        exact qa_nil
      decide +kernel
    · refine rg_pair (i := 6) (j := 7) ?_ ?_ ?_ ?_ ?_ ?_ ?_ ?_
      · exact rfl
      · exact nd
      · exact (Or.inl lk_law__law_place)
      · exact (Or.inl lk_law__law_tree)
      · exact Or.inl rfl
      · exact Or.inl rfl
      · exact rfl
      exact rfl
    · refine qss_one ?_
      refine qs_if ?_ ?_ ?_
      · refine rt_cmp ?_ ?_ ?_ ?_
        · exact (op_neD hu)
        · refine re_call (CX := CX1 P w) (k := kk_tree_at) (f := (t.f 2)) (fd := (t.d 2)) (ps := ["tree", "place"]) ?_ ?_ ?_ ?_ ?_ ?_ ?_ ?_ ?_ ?_
          · exact C_tree_at
          · exact hr.mono (by decide)
          · exact T.M_tree_at
          · exact T.F_tree_at.kp
          · exact T.B_tree_at
          · exact lnk1 hx
          · exact lk_law_tree_at
          · exact dn_tree_at
          · refine ra_c ?_ ?_ ?_
            · refine re_index ?_ ?_ ?_
              · refine re_var 3 ?_ ?_ ?_
                · exact (Or.inl lk_law__law_trees_here)
                · exact dn__law_trees_here
                exact rfl
              · exact qe_int
              decide +kernel
            · decide +kernel
            refine ra_c ?_ ?_ ?_
            · refine re_var 6 ?_ ?_ ?_
              · exact (Or.inl lk_law__law_place)
              · exact dn__law_place
              exact rfl
            · decide +kernel
            exact qa_nil
          decide +kernel
        · refine re_var 7 ?_ ?_ ?_
          · exact (Or.inl lk_law__law_tree)
          · exact dn__law_tree
          exact rfl
        decide +kernel
      · refine qss_one ?_
        refine qs_ret ?_
        exact qe_bl
      exact qss_nil
    decide +kernel
  refine qss_cons ?_ ?_
  · refine rs_expr ?_ ?_
    · refine re_clear ?_ ?_ ?_
      · refine re_var 5 ?_ ?_ ?_
        · exact (Or.inl lk_law__law_told)
        · exact dn__law_told
        exact rfl
      · decide +kernel
      exact rfl
    decide +kernel
  refine qss_cons ?_ ?_
  · refine rs_expr ?_ ?_
    · refine re_append ?_ ?_ ?_ ?_ ?_
      · refine re_var 5 ?_ ?_ ?_
        · exact (Or.inl lk_law__law_told)
        · exact dn__law_told
        exact rfl
      · refine ra_c ?_ ?_ ?_
        · refine qe_tup ?_
          exact qa_nil
        · decide +kernel
        exact qa_nil
      · decide +kernel
      · decide +kernel
      exact rfl
    decide +kernel
  refine qss_one ?_
  refine qs_ret ?_
  refine qe_and ?_ ?_
  · refine re_call (CX := CX1 P w) (k := kk__law_same) (f := (t.f 11)) (fd := (t.d 11)) (ps := ["_law_told", "_law_spots_here"]) ?_ ?_ ?_ ?_ ?_ ?_ ?_ ?_ ?_ ?_
    · exact C__law_same
    · exact hr.mono (by decide)
    · exact T.M__law_same
    · exact T.F__law_same.kp
    · exact T.B__law_same
    · exact lnk1 hx
    · exact lk_law__law_same
    · exact dn__law_same
    · refine ra_c ?_ ?_ ?_
      · refine re_call (CX := CX1 P w) (k := kk_all_places) (f := (t.f 1)) (fd := (t.d 1)) (ps := ["tree"]) ?_ ?_ ?_ ?_ ?_ ?_ ?_ ?_ ?_ ?_
        · exact C_all_places
        · exact hr.mono (by decide)
        · exact T.M_all_places
        · exact T.F_all_places.kp
        · exact T.B_all_places
        · exact lnk1 hx
        · exact lk_law_all_places
        · exact dn_all_places
        · refine ra_c ?_ ?_ ?_
          · refine re_index ?_ ?_ ?_
            · refine re_var 3 ?_ ?_ ?_
              · exact (Or.inl lk_law__law_trees_here)
              · exact dn__law_trees_here
              exact rfl
            · exact qe_int
            decide +kernel
          · decide +kernel
          exact qa_nil
        decide +kernel
      · decide +kernel
      refine ra_c ?_ ?_ ?_
      · refine re_var 4 ?_ ?_ ?_
        · exact (Or.inl lk_law__law_spots_here)
        · exact dn__law_spots_here
        exact rfl
      · decide +kernel
      exact qa_nil
    decide +kernel
  refine qe_one ?_
  refine qe_eq ?_ ?_ ?_
  · exact hu
  · refine re_var 3 ?_ ?_ ?_
    · exact (Or.inl lk_law__law_trees_here)
    · exact dn__law_trees_here
    exact rfl
  refine re_call (CX := CX1 P w) (k := kk__law_trees) (f := (t.f 9)) (fd := (t.d 9)) (ps := ["_law_rows_here"]) ?_ ?_ ?_ ?_ ?_ ?_ ?_ ?_ ?_ ?_
  · exact C__law_trees
  · exact hr.mono (by decide)
  · exact T.M__law_trees
  · exact T.F__law_trees.kp
  · exact T.B__law_trees
  · exact lnk1 hx
  · exact lk_law__law_trees
  · exact dn__law_trees
  · refine ra_c ?_ ?_ ?_
    · refine re_var 2 ?_ ?_ ?_
      · exact (Or.inl lk_law__law_rows_here)
      · exact dn__law_rows_here
      exact rfl
    · decide +kernel
    exact qa_nil
  decide +kernel
end
theorem us_1 {p : List Value → Prop} (h : ∀ a0, p [a0]) : ∀ us : List Value, us.length = 1 → p us := fun us e => by
  rcases us with _ | ⟨a0, us⟩
  · cases e
  rcases us with _ | ⟨z, us⟩
  · exact h a0
  · cases e
theorem us_2 {p : List Value → Prop} (h : ∀ a0 a1, p [a0, a1]) : ∀ us : List Value, us.length = 2 → p us := fun us e => by
  rcases us with _ | ⟨a0, us⟩
  · cases e
  rcases us with _ | ⟨a1, us⟩
  · cases e
  rcases us with _ | ⟨z, us⟩
  · exact h a0 a1
  · cases e
theorem us_3 {p : List Value → Prop} (h : ∀ a0 a1 a2, p [a0, a1, a2]) : ∀ us : List Value, us.length = 3 → p us := fun us e => by
  rcases us with _ | ⟨a0, us⟩
  · cases e
  rcases us with _ | ⟨a1, us⟩
  · cases e
  rcases us with _ | ⟨a2, us⟩
  · cases e
  rcases us with _ | ⟨z, us⟩
  · exact h a0 a1 a2
  · cases e
theorem txt_mk {K : PySem.W.Frag} {h : Heap} {mg : Str → Option Value} (X : K.In h) (G : h.Ns mainGlobals mg) {f0 : Addr} {od0 an0 : Option Addr} {sl0 : Array (Option Value)} {oc0 kV0 dc0 pm0 cd0 ct0 : Value} (a0 : PySem.W.nsIn K mainGlobals "all_within" = some (some (.ref f0))) (l0 : K.lookup f0 = some ⟨oc0, od0, .func (PySem.W.fnOf "all_within" "all_within" (defArgs s_all_within) (defBody s_all_within) (defScope s_all_within) .none kV0 dc0 pm0 an0 cd0 ct0), sl0⟩) (c0 : PySem.W.codeIn K cd0 "all_within" = true) (k0 : PySem.W.keepIn K (.ref f0) = true) {f1 : Addr} {od1 an1 : Option Addr} {sl1 : Array (Option Value)} {oc1 kV1 dc1 pm1 cd1 ct1 : Value} (a1 : PySem.W.nsIn K mainGlobals "all_places" = some (some (.ref f1))) (l1 : K.lookup f1 = some ⟨oc1, od1, .func (PySem.W.fnOf "all_places" "all_places" (defArgs s_all_places) (defBody s_all_places) (defScope s_all_places) .none kV1 dc1 pm1 an1 cd1 ct1), sl1⟩) (c1 : PySem.W.codeIn K cd1 "all_places" = true) (k1 : PySem.W.keepIn K (.ref f1) = true) {f2 : Addr} {od2 an2 : Option Addr} {sl2 : Array (Option Value)} {oc2 kV2 dc2 pm2 cd2 ct2 : Value} (a2 : PySem.W.nsIn K mainGlobals "tree_at" = some (some (.ref f2))) (l2 : K.lookup f2 = some ⟨oc2, od2, .func (PySem.W.fnOf "tree_at" "tree_at" (defArgs s_tree_at) (defBody s_tree_at) (defScope s_tree_at) .none kV2 dc2 pm2 an2 cd2 ct2), sl2⟩) (c2 : PySem.W.codeIn K cd2 "tree_at" = true) (k2 : PySem.W.keepIn K (.ref f2) = true) {f3 : Addr} {od3 an3 : Option Addr} {sl3 : Array (Option Value)} {oc3 kV3 dc3 pm3 cd3 ct3 : Value} (a3 : PySem.W.nsIn K mainGlobals "placed_trees" = some (some (.ref f3))) (l3 : K.lookup f3 = some ⟨oc3, od3, .func (PySem.W.fnOf "placed_trees" "placed_trees" (defArgs s_placed_trees) (defBody s_placed_trees) (defScope s_placed_trees) .none kV3 dc3 pm3 an3 cd3 ct3), sl3⟩) (c3 : PySem.W.codeIn K cd3 "placed_trees" = true) (k3 : PySem.W.keepIn K (.ref f3) = true) {f4 : Addr} {od4 an4 : Option Addr} {sl4 : Array (Option Value)} {oc4 kV4 dc4 pm4 cd4 ct4 : Value} (a4 : PySem.W.nsIn K mainGlobals "placed_parts" = some (some (.ref f4))) (l4 : K.lookup f4 = some ⟨oc4, od4, .func (PySem.W.fnOf "placed_parts" "placed_parts" (defArgs s_placed_parts) (defBody s_placed_parts) (defScope s_placed_parts) .none kV4 dc4 pm4 an4 cd4 ct4), sl4⟩) (c4 : PySem.W.codeIn K cd4 "placed_parts" = true) (k4 : PySem.W.keepIn K (.ref f4) = true) {f5 : Addr} {od5 an5 : Option Addr} {sl5 : Array (Option Value)} {oc5 kV5 dc5 pm5 cd5 ct5 : Value} (a5 : PySem.W.nsIn K mainGlobals "_law_mix" = some (some (.ref f5))) (l5 : K.lookup f5 = some ⟨oc5, od5, .func (PySem.W.fnOf "_law_mix" "_law_mix" (defArgs s__law_mix) (defBody s__law_mix) (defScope s__law_mix) .none kV5 dc5 pm5 an5 cd5 ct5), sl5⟩) (c5 : PySem.W.codeIn K cd5 "_law_mix" = true) (k5 : PySem.W.keepIn K (.ref f5) = true) {f6 : Addr} {od6 an6 : Option Addr} {sl6 : Array (Option Value)} {oc6 kV6 dc6 pm6 cd6 ct6 : Value} (a6 : PySem.W.nsIn K mainGlobals "_law_cells" = some (some (.ref f6))) (l6 : K.lookup f6 = some ⟨oc6, od6, .func (PySem.W.fnOf "_law_cells" "_law_cells" (defArgs s__law_cells) (defBody s__law_cells) (defScope s__law_cells) .none kV6 dc6 pm6 an6 cd6 ct6), sl6⟩) (c6 : PySem.W.codeIn K cd6 "_law_cells" = true) (k6 : PySem.W.keepIn K (.ref f6) = true) {f7 : Addr} {od7 an7 : Option Addr} {sl7 : Array (Option Value)} {oc7 kV7 dc7 pm7 cd7 ct7 : Value} (a7 : PySem.W.nsIn K mainGlobals "_law_names" = some (some (.ref f7))) (l7 : K.lookup f7 = some ⟨oc7, od7, .func (PySem.W.fnOf "_law_names" "_law_names" (defArgs s__law_names) (defBody s__law_names) (defScope s__law_names) .none kV7 dc7 pm7 an7 cd7 ct7), sl7⟩) (c7 : PySem.W.codeIn K cd7 "_law_names" = true) (k7 : PySem.W.keepIn K (.ref f7) = true) {f8 : Addr} {od8 an8 : Option Addr} {sl8 : Array (Option Value)} {oc8 kV8 dc8 pm8 cd8 ct8 : Value} (a8 : PySem.W.nsIn K mainGlobals "_law_rows" = some (some (.ref f8))) (l8 : K.lookup f8 = some ⟨oc8, od8, .func (PySem.W.fnOf "_law_rows" "_law_rows" (defArgs s__law_rows) (defBody s__law_rows) (defScope s__law_rows) .none kV8 dc8 pm8 an8 cd8 ct8), sl8⟩) (c8 : PySem.W.codeIn K cd8 "_law_rows" = true) (k8 : PySem.W.keepIn K (.ref f8) = true) {f9 : Addr} {od9 an9 : Option Addr} {sl9 : Array (Option Value)} {oc9 kV9 dc9 pm9 cd9 ct9 : Value} (a9 : PySem.W.nsIn K mainGlobals "_law_trees" = some (some (.ref f9))) (l9 : K.lookup f9 = some ⟨oc9, od9, .func (PySem.W.fnOf "_law_trees" "_law_trees" (defArgs s__law_trees) (defBody s__law_trees) (defScope s__law_trees) .none kV9 dc9 pm9 an9 cd9 ct9), sl9⟩) (c9 : PySem.W.codeIn K cd9 "_law_trees" = true) (k9 : PySem.W.keepIn K (.ref f9) = true) {f10 : Addr} {od10 an10 : Option Addr} {sl10 : Array (Option Value)} {oc10 kV10 dc10 pm10 cd10 ct10 : Value} (a10 : PySem.W.nsIn K mainGlobals "_law_spots" = some (some (.ref f10))) (l10 : K.lookup f10 = some ⟨oc10, od10, .func (PySem.W.fnOf "_law_spots" "_law_spots" (defArgs s__law_spots) (defBody s__law_spots) (defScope s__law_spots) .none kV10 dc10 pm10 an10 cd10 ct10), sl10⟩) (c10 : PySem.W.codeIn K cd10 "_law_spots" = true) (k10 : PySem.W.keepIn K (.ref f10) = true) {f11 : Addr} {od11 an11 : Option Addr} {sl11 : Array (Option Value)} {oc11 kV11 dc11 pm11 cd11 ct11 : Value} (a11 : PySem.W.nsIn K mainGlobals "_law_same" = some (some (.ref f11))) (l11 : K.lookup f11 = some ⟨oc11, od11, .func (PySem.W.fnOf "_law_same" "_law_same" (defArgs s__law_same) (defBody s__law_same) (defScope s__law_same) .none kV11 dc11 pm11 an11 cd11 ct11), sl11⟩) (c11 : PySem.W.codeIn K cd11 "_law_same" = true) (k11 : PySem.W.keepIn K (.ref f11) = true) {f12 : Addr} {od12 an12 : Option Addr} {sl12 : Array (Option Value)} {oc12 kV12 dc12 pm12 cd12 ct12 : Value} (a12 : PySem.W.nsIn K mainGlobals "_law_most" = some (some (.ref f12))) (l12 : K.lookup f12 = some ⟨oc12, od12, .func (PySem.W.fnOf "_law_most" "_law_most" (defArgs s__law_most) (defBody s__law_most) (defScope s__law_most) .none kV12 dc12 pm12 an12 cd12 ct12), sl12⟩) (c12 : PySem.W.codeIn K cd12 "_law_most" = true) (k12 : PySem.W.keepIn K (.ref f12) = true) {f13 : Addr} {od13 an13 : Option Addr} {sl13 : Array (Option Value)} {oc13 kV13 dc13 pm13 cd13 ct13 : Value} (a13 : PySem.W.nsIn K mainGlobals "law" = some (some (.ref f13))) (l13 : K.lookup f13 = some ⟨oc13, od13, .func (PySem.W.fnOf "law" "law" (defArgs s_law) (defBody s_law) (defScope s_law) .none kV13 dc13 pm13 an13 cd13 ct13), sl13⟩) (c13 : PySem.W.codeIn K cd13 "law" = true) (k13 : PySem.W.keepIn K (.ref f13) = true) (z0 : PySem.W.nsIn K mainGlobals "any" = some none) (z1 : PySem.W.nsIn K mainGlobals "bool" = some none) (z2 : PySem.W.nsIn K mainGlobals "enumerate" = some none) (z3 : PySem.W.nsIn K mainGlobals "int" = some none) (z4 : PySem.W.nsIn K mainGlobals "isinstance" = some none) (z5 : PySem.W.nsIn K mainGlobals "len" = some none) (z6 : PySem.W.nsIn K mainGlobals "list" = some none) (z7 : PySem.W.nsIn K mainGlobals "min" = some none) (z8 : PySem.W.nsIn K mainGlobals "range" = some none) (z9 : PySem.W.nsIn K mainGlobals "reversed" = some none) (z10 : PySem.W.nsIn K mainGlobals "sum" = some none) (z11 : PySem.W.nsIn K mainGlobals "tuple" = some none) (z12 : PySem.W.nsIn K mainGlobals "zip" = some none) : ∃ t, Txt K mg t ∧ ∃ kV dc pm an cd ct, (t.d 13) = PySem.W.fnOf "law" "law" (defArgs s_law) (defBody s_law) (defScope s_law) .none kV dc pm an cd ct := by
  have F0 := fun_mk (st := s_all_within) l0 c0 k0
  have F1 := fun_mk (st := s_all_places) l1 c1 k1
  have F2 := fun_mk (st := s_tree_at) l2 c2 k2
  have F3 := fun_mk (st := s_placed_trees) l3 c3 k3
  have F4 := fun_mk (st := s_placed_parts) l4 c4 k4
  have F5 := fun_mk (st := s__law_mix) l5 c5 k5
  have F6 := fun_mk (st := s__law_cells) l6 c6 k6
  have F7 := fun_mk (st := s__law_names) l7 c7 k7
  have F8 := fun_mk (st := s__law_rows) l8 c8 k8
  have F9 := fun_mk (st := s__law_trees) l9 c9 k9
  have F10 := fun_mk (st := s__law_spots) l10 c10 k10
  have F11 := fun_mk (st := s__law_same) l11 c11 k11
  have F12 := fun_mk (st := s__law_most) l12 c12 k12
  have F13 := fun_mk (st := s_law) l13 c13 k13
  exact ⟨⟨fun i => [f0, f1, f2, f3, f4, f5, f6, f7, f8, f9, f10, f11, f12, f13].getD i f0, fun i => [PySem.W.fnOf "all_within" "all_within" (defArgs s_all_within) (defBody s_all_within) (defScope s_all_within) .none kV0 dc0 pm0 an0 cd0 ct0, PySem.W.fnOf "all_places" "all_places" (defArgs s_all_places) (defBody s_all_places) (defScope s_all_places) .none kV1 dc1 pm1 an1 cd1 ct1, PySem.W.fnOf "tree_at" "tree_at" (defArgs s_tree_at) (defBody s_tree_at) (defScope s_tree_at) .none kV2 dc2 pm2 an2 cd2 ct2, PySem.W.fnOf "placed_trees" "placed_trees" (defArgs s_placed_trees) (defBody s_placed_trees) (defScope s_placed_trees) .none kV3 dc3 pm3 an3 cd3 ct3, PySem.W.fnOf "placed_parts" "placed_parts" (defArgs s_placed_parts) (defBody s_placed_parts) (defScope s_placed_parts) .none kV4 dc4 pm4 an4 cd4 ct4, PySem.W.fnOf "_law_mix" "_law_mix" (defArgs s__law_mix) (defBody s__law_mix) (defScope s__law_mix) .none kV5 dc5 pm5 an5 cd5 ct5, PySem.W.fnOf "_law_cells" "_law_cells" (defArgs s__law_cells) (defBody s__law_cells) (defScope s__law_cells) .none kV6 dc6 pm6 an6 cd6 ct6, PySem.W.fnOf "_law_names" "_law_names" (defArgs s__law_names) (defBody s__law_names) (defScope s__law_names) .none kV7 dc7 pm7 an7 cd7 ct7, PySem.W.fnOf "_law_rows" "_law_rows" (defArgs s__law_rows) (defBody s__law_rows) (defScope s__law_rows) .none kV8 dc8 pm8 an8 cd8 ct8, PySem.W.fnOf "_law_trees" "_law_trees" (defArgs s__law_trees) (defBody s__law_trees) (defScope s__law_trees) .none kV9 dc9 pm9 an9 cd9 ct9, PySem.W.fnOf "_law_spots" "_law_spots" (defArgs s__law_spots) (defBody s__law_spots) (defScope s__law_spots) .none kV10 dc10 pm10 an10 cd10 ct10, PySem.W.fnOf "_law_same" "_law_same" (defArgs s__law_same) (defBody s__law_same) (defScope s__law_same) .none kV11 dc11 pm11 an11 cd11 ct11, PySem.W.fnOf "_law_most" "_law_most" (defArgs s__law_most) (defBody s__law_most) (defScope s__law_most) .none kV12 dc12 pm12 an12 cd12 ct12, PySem.W.fnOf "law" "law" (defArgs s_law) (defBody s_law) (defScope s_law) .none kV13 dc13 pm13 an13 cd13 ct13].getD i (PySem.W.fnOf "all_within" "all_within" (defArgs s_all_within) (defBody s_all_within) (defScope s_all_within) .none kV0 dc0 pm0 an0 cd0 ct0), fun i => [].getD i 0⟩, ⟨F0, F0.binds (fun _ _ _ _ _ _ => us_2 fun _ _ => rfl), PySem.W.mg_of X G a0, F1, F1.binds (fun _ _ _ _ _ _ => us_1 fun _ => rfl), PySem.W.mg_of X G a1, F2, F2.binds (fun _ _ _ _ _ _ => us_2 fun _ _ => rfl), PySem.W.mg_of X G a2, F3, F3.binds (fun _ _ _ _ _ _ => us_1 fun _ => rfl), PySem.W.mg_of X G a3, F4, F4.binds (fun _ _ _ _ _ _ => us_1 fun _ => rfl), PySem.W.mg_of X G a4, F5, F5.binds (fun _ _ _ _ _ _ => us_2 fun _ _ => rfl), PySem.W.mg_of X G a5, F6, F6.binds (fun _ _ _ _ _ _ => us_2 fun _ _ => rfl), PySem.W.mg_of X G a6, F7, F7.binds (fun _ _ _ _ _ _ => us_1 fun _ => rfl), PySem.W.mg_of X G a7, F8, F8.binds (fun _ _ _ _ _ _ => us_3 fun _ _ _ => rfl), PySem.W.mg_of X G a8, F9, F9.binds (fun _ _ _ _ _ _ => us_1 fun _ => rfl), PySem.W.mg_of X G a9, F10, F10.binds (fun _ _ _ _ _ _ => us_1 fun _ => rfl), PySem.W.mg_of X G a10, F11, F11.binds (fun _ _ _ _ _ _ => us_2 fun _ _ => rfl), PySem.W.mg_of X G a11, F12, F12.binds (fun _ _ _ _ _ _ => us_2 fun _ _ => rfl), PySem.W.mg_of X G a12, F13, F13.binds (fun _ _ _ _ _ _ => us_1 fun _ => rfl), PySem.W.mg_of X G a13, PySem.W.mg_none_of X G z0, PySem.W.mg_none_of X G z1, PySem.W.mg_none_of X G z2, PySem.W.mg_none_of X G z3, PySem.W.mg_none_of X G z4, PySem.W.mg_none_of X G z5, PySem.W.mg_none_of X G z6, PySem.W.mg_none_of X G z7, PySem.W.mg_none_of X G z8, PySem.W.mg_none_of X G z9, PySem.W.mg_none_of X G z10, PySem.W.mg_none_of X G z11, PySem.W.mg_none_of X G z12⟩, _, _, _, _, _, _, rfl⟩
section
variable {P : Program} {w : World} {K : PySem.W.Frag} {mg : Str → Option Value} {base : Heap} {t : Adr}
theorem law_ok (T : Txt K mg t) : FnOk P w K mg base (CX1 P w) 5 (t.f 13) (t.d 13) ["_law_script"] (spOf K mg 1 m_law) := by
  have C_tree_at := ok_tree_at (P := P) (w := w) (base := base) T
  have C_placed_parts := ok_placed_parts (P := P) (w := w) (base := base) T
  have C__law_mix := ok__law_mix (P := P) (w := w) (base := base) T
  have C__law_trees := ok__law_trees (P := P) (w := w) (base := base) T
  have C__law_spots := ok__law_spots (P := P) (w := w) (base := base) T
  have C__law_same := ok__law_same (P := P) (w := w) (base := base) T
  have C_all_within := ok_all_within (P := P) (w := w) (base := base) T C_placed_parts
  have C__law_cells := ok__law_cells (P := P) (w := w) (base := base) T C__law_mix
  have C__law_names := ok__law_names (P := P) (w := w) (base := base) T C__law_mix
  have C__law_rows := ok__law_rows (P := P) (w := w) (base := base) T C__law_mix
  have C__law_most := ok__law_most (P := P) (w := w) (base := base) T C__law_mix
  have C_placed_trees := ok_placed_trees (P := P) (w := w) (base := base) T C_all_within
  have C_all_places := ok_all_places (P := P) (w := w) (base := base) T C_placed_trees
  have C_all_places_o := ok_all_places_o (P := P) (w := w) (base := base) T C_placed_trees
  have C_law := ok_law (P := P) (w := w) (base := base) T C_all_places C_tree_at C__law_cells C__law_names C__law_rows C__law_trees C__law_spots C__law_same C__law_most C_all_places_o
  exact C_law
end
end K31
end
section
set_option Elab.async false
set_option linter.all false
set_option maxRecDepth 100000
set_option maxHeartbeats 1000000
namespace K31
open PySem PySem.Spec L2 L3
theorem mix_loop (c k : Int) (n4 : Option D) : ∀ (its : List D) (dg : Int) (j : Option D), 0 ≤ dg → ∃ (dg' : Int) (j' : Option D), 0 ≤ dg' ∧ ∀ G, forP (gN 3) L0__law_mix its [some (.int c), some (.int k), some (.int dg), j, n4] G = .nx [some (.int c), some (.int k), some (.int dg'), j', n4] G
  | [], dg, j, h => ⟨dg, j, h, fun G => by rw [forP_nil]⟩
  | x :: its, dg, j, h => by
    obtain ⟨dg', j', h', e⟩ := mix_loop c k n4 its (dg / 840) (some x) (by omega)
    refine ⟨dg', j', h', fun G => ?_⟩
    rw [forP_cons rfl]
    have e1 : L0__law_mix [some (.int c), some (.int k), some (.int dg), some x, n4] G = .nx [some (.int c), some (.int k), some (.int (dg / 840)), some x, n4] G := by
      simp [sSeq_l, sq_nx, sq_rt, sq_st, sq_bk, sq_ct, sq_xn, sIf_l, cs_t, cs_f, cs_x, sSet_l, st_ok, st_x, sExpr_l, xp_ok, xp_x, sRet_l, rn_ok, rn_x, sSkip_l, sRetN_l, bd_ok, bd_x, bd_s, bind_l, ret_l, stop_l, eVar_l, eC_l, eOp_l, eArgs_l, aNil_l, aCons_l, tBl_l, asBl_b, tTruth_l, tNotD_l, tOrD_l, tAndD_l, eIsi_l, eCall_l, eMethT_l, eIf_l, sForRng_l, sForIn_l, sForV_l, sb_ok, sb_x, eComp_l, eCompR_l, eCompV_l, runB_l, fn_nx, fn_rt, fn_x, eSl_l, oNone_l, oSome_l, asInt_i, eNeg_l, neg1_i, iEnum_l, eCallV_l, sRaise_l, eUn_l, sWhile_l, whB_l, lp_nx, lp_ct, lp_bk, lp_rt, lp_xn, fw_tup, fw_con, fw_str, fw_int, fz_at, iRev_l, iZip_l, iEnumX_l, iRng3_l, eDNew_l, eDGet2_l, sDPut_l, eFz_l, dTru, dIx, seqOf, dInt2, dInt2L, dLen, dAddX, dTup, kindOk, dAppend, dPop, dIsi, tyD, Ty.is, L0__law_mix]
    simp only [List.set_cons_succ, List.set_cons_zero, e1, lp_nx]
    exact e G
theorem mix_ex (c k : Int) (hk : 0 ≤ k ∧ k < 10000) : ∃ v : Int, 0 ≤ v ∧ ∀ G, m__law_mix [.int c, .int k] G = .ok (.int v) G := by
  obtain ⟨k0, k1⟩ := hk
  have hr := rng1_of (j := k % 46) (by omega) (by omega)
  have key : ∃ dg : Int, ∃ j, 0 ≤ dg ∧ ∀ G, (sIf (tBl (eOp dGe (eVar 0) (eOp dPow (eC (.int 10)) (eC (.int 9))))) (I0__law_mix) (sSkip)) [some (.int c), some (.int k), some (.int 0), none, none] G = .nx [some (.int c), some (.int k), some (.int dg), j, none] G := by
    by_cases hc : (1000000000 : Int) ≤ c
    · obtain ⟨dg, j, h, e⟩ := mix_loop c k none ((List.range' 0 (k % 46).toNat).map fun (k : Nat) => .int (0 + (k : Int))) c none (by omega)
      refine ⟨dg, j, h, fun G => ?_⟩
      generalize ((List.range' 0 (k % 46).toNat).map fun (k : Nat) => D.int (0 + (k : Int))) = its at hr e
      simp [sSeq_l, sq_nx, sq_rt, sq_st, sq_bk, sq_ct, sq_xn, sIf_l, cs_t, cs_f, cs_x, sSet_l, st_ok, st_x, sExpr_l, xp_ok, xp_x, sRet_l, rn_ok, rn_x, sSkip_l, sRetN_l, bd_ok, bd_x, bd_s, bind_l, ret_l, stop_l, eVar_l, eC_l, eOp_l, eArgs_l, aNil_l, aCons_l, tBl_l, asBl_b, tTruth_l, tNotD_l, tOrD_l, tAndD_l, eIsi_l, eCall_l, eMethT_l, eIf_l, sForRng_l, sForIn_l, sForV_l, sb_ok, sb_x, eComp_l, eCompR_l, eCompV_l, runB_l, fn_nx, fn_rt, fn_x, eSl_l, oNone_l, oSome_l, asInt_i, eNeg_l, neg1_i, iEnum_l, eCallV_l, sRaise_l, eUn_l, sWhile_l, whB_l, lp_nx, lp_ct, lp_bk, lp_rt, lp_xn, fw_tup, fw_con, fw_str, fw_int, fz_at, iRev_l, iZip_l, iEnumX_l, iRng3_l, eDNew_l, eDGet2_l, sDPut_l, eFz_l, dTru, dIx, seqOf, dInt2, dInt2L, dLen, dAddX, dTup, kindOk, dAppend, dPop, dIsi, tyD, Ty.is, hc, I0__law_mix, hr, e]
    · refine ⟨0, none, by omega, fun G => ?_⟩
      simp [sSeq_l, sq_nx, sq_rt, sq_st, sq_bk, sq_ct, sq_xn, sIf_l, cs_t, cs_f, cs_x, sSet_l, st_ok, st_x, sExpr_l, xp_ok, xp_x, sRet_l, rn_ok, rn_x, sSkip_l, sRetN_l, bd_ok, bd_x, bd_s, bind_l, ret_l, stop_l, eVar_l, eC_l, eOp_l, eArgs_l, aNil_l, aCons_l, tBl_l, asBl_b, tTruth_l, tNotD_l, tOrD_l, tAndD_l, eIsi_l, eCall_l, eMethT_l, eIf_l, sForRng_l, sForIn_l, sForV_l, sb_ok, sb_x, eComp_l, eCompR_l, eCompV_l, runB_l, fn_nx, fn_rt, fn_x, eSl_l, oNone_l, oSome_l, asInt_i, eNeg_l, neg1_i, iEnum_l, eCallV_l, sRaise_l, eUn_l, sWhile_l, whB_l, lp_nx, lp_ct, lp_bk, lp_rt, lp_xn, fw_tup, fw_con, fw_str, fw_int, fz_at, iRev_l, iZip_l, iEnumX_l, iRng3_l, eDNew_l, eDGet2_l, sDPut_l, eFz_l, dTru, dIx, seqOf, dInt2, dInt2L, dLen, dAddX, dTup, kindOk, dAppend, dPop, dIsi, tyD, Ty.is, hc]
  obtain ⟨dg, j, hd, e⟩ := key
  generalize hS : sIf (tBl (eOp dGe (eVar 0) (eOp dPow (eC (.int 10)) (eC (.int 9))))) (I0__law_mix) (sSkip) = S at e
  by_cases h0 : 0 < dg
  · refine ⟨dg % 840, by omega, fun G => ?_⟩
    refine pure_of0 ?_ closed_int
    unfold b__law_mix
    rw [hS]
    simp [sSeq_l, sq_nx, sq_rt, sq_st, sq_bk, sq_ct, sq_xn, sIf_l, cs_t, cs_f, cs_x, sSet_l, st_ok, st_x, sExpr_l, xp_ok, xp_x, sRet_l, rn_ok, rn_x, sSkip_l, sRetN_l, bd_ok, bd_x, bd_s, bind_l, ret_l, stop_l, eVar_l, eC_l, eOp_l, eArgs_l, aNil_l, aCons_l, tBl_l, asBl_b, tTruth_l, tNotD_l, tOrD_l, tAndD_l, eIsi_l, eCall_l, eMethT_l, eIf_l, sForRng_l, sForIn_l, sForV_l, sb_ok, sb_x, eComp_l, eCompR_l, eCompV_l, runB_l, fn_nx, fn_rt, fn_x, eSl_l, oNone_l, oSome_l, asInt_i, eNeg_l, neg1_i, iEnum_l, eCallV_l, sRaise_l, eUn_l, sWhile_l, whB_l, lp_nx, lp_ct, lp_bk, lp_rt, lp_xn, fw_tup, fw_con, fw_str, fw_int, fz_at, iRev_l, iZip_l, iEnumX_l, iRng3_l, eDNew_l, eDGet2_l, sDPut_l, eFz_l, dTru, dIx, seqOf, dInt2, dInt2L, dLen, dAddX, dTup, kindOk, dAppend, dPop, dIsi, tyD, Ty.is, e, h0]
  · have p0 : 0 ≤ c % 1000000007 := by omega
    have p1 : c % 1000000007 < 1000000007 := by omega
    generalize hy : c % 1000000007 = y at p0 p1
    have a1 : -18446744073709551616 < y + 7919 * k + 13 := by omega
    have a2 : y + 7919 * k + 13 < 18446744073709551616 := by omega
    generalize hz : y + 7919 * k + 13 = z at a1 a2
    have b1 : 0 ≤ z * z % 998244353 := by omega
    have b2 : z * z % 998244353 < 998244353 := by omega
    have b3 : -18446744073709551616 < z * z % 998244353 := by omega
    have b4 : z * z % 998244353 < 18446744073709551616 := by omega
    generalize hu : z * z % 998244353 = u at b1 b2 b3 b4
    refine ⟨u * (u + 16807 * k + 1) % 1000000007 / 3, by omega, fun G => ?_⟩
    refine pure_of0 ?_ closed_int
    unfold b__law_mix
    rw [hS]
    have h0' : dg ≤ 0 := by omega
    simp [sSeq_l, sq_nx, sq_rt, sq_st, sq_bk, sq_ct, sq_xn, sIf_l, cs_t, cs_f, cs_x, sSet_l, st_ok, st_x, sExpr_l, xp_ok, xp_x, sRet_l, rn_ok, rn_x, sSkip_l, sRetN_l, bd_ok, bd_x, bd_s, bind_l, ret_l, stop_l, eVar_l, eC_l, eOp_l, eArgs_l, aNil_l, aCons_l, tBl_l, asBl_b, tTruth_l, tNotD_l, tOrD_l, tAndD_l, eIsi_l, eCall_l, eMethT_l, eIf_l, sForRng_l, sForIn_l, sForV_l, sb_ok, sb_x, eComp_l, eCompR_l, eCompV_l, runB_l, fn_nx, fn_rt, fn_x, eSl_l, oNone_l, oSome_l, asInt_i, eNeg_l, neg1_i, iEnum_l, eCallV_l, sRaise_l, eUn_l, sWhile_l, whB_l, lp_nx, lp_ct, lp_bk, lp_rt, lp_xn, fw_tup, fw_con, fw_str, fw_int, fz_at, iRev_l, iZip_l, iEnumX_l, iRng3_l, eDNew_l, eDGet2_l, sDPut_l, eFz_l, dTru, dIx, seqOf, dInt2, dInt2L, dLen, dAddX, dTup, kindOk, dAppend, dPop, dIsi, tyD, Ty.is, e, h0, h0', hy, hz, hu, a1, a2, b3, b4]
noncomputable def mx (c k : Int) : Int := if h : 0 ≤ k ∧ k < 10000 then Classical.choose (mix_ex c k h) else 0
theorem mx_nn (c k : Int) : 0 ≤ mx c k := by
  unfold mx
  split
  · rename_i h; exact (Classical.choose_spec (mix_ex c k h)).1
  · omega
theorem mix_eq (c k : Int) (h0 : 0 ≤ k) (h1 : k < 10000) (G : DH) : m__law_mix [.int c, .int k] G = .ok (.int (mx c k)) G := by
  have h : 0 ≤ k ∧ k < 10000 := ⟨h0, h1⟩
  unfold mx
  rw [dif_pos h]
  exact (Classical.choose_spec (mix_ex c k h)).2 G
theorem sIx1 (n : Nat) : HT.sIx n n (some 1) = min 1 n := HT.sIx_nat n n 1
theorem intsOf_map : ∀ ns : List Int, intsOf (ns.map .int) = some ns
  | [] => rfl
  | n :: ns => by rw [List.map_cons, intsOf, intsOf_map ns]; rfl
theorem head_sum (ns : List Int) (τ : DS) (G : DH) : ∃ c : Int, eArgs dSum (aCons (eFn (eSl (eVar 0) (oNone) (oSome (eC (.int 1))))) (aNil)) (some (.con (ns.map .int)) :: τ) G = .ok (.int c) G := by
  have z1 : (1 : Nat) ≤ sizeLine := lz (by omega)
  have e : cutD (ns.map D.int) none (some 1) = (ns.take 1).map .int := by
    unfold cutD
    rw [sIx1, HT.sIx_none]
    cases ns <;> simp
  have hc : closedL ((ns.take 1).map D.int) = true := closedL_map fun _ => closed_int
  have hz : ((ns.take 1).map D.int).length ≤ sizeLine := Nat.le_trans (by simp; omega) z1
  have e1 : eFn (eSl (eVar 0) (oNone) (oSome (eC (.int 1)))) (some (.con (ns.map .int)) :: τ) G = .ok (.con ((ns.take 1).map .int)) G := by
    rw [eFn_l]
    have e2 : eSl (eVar 0) (oNone) (oSome (eC (.int 1))) (some (.con (ns.map .int)) :: τ) G = dNew ((ns.take 1).map .int) G := by
      simp [sSeq_l, sq_nx, sq_rt, sq_st, sq_bk, sq_ct, sq_xn, sIf_l, cs_t, cs_f, cs_x, sSet_l, st_ok, st_x, sExpr_l, xp_ok, xp_x, sRet_l, rn_ok, rn_x, sSkip_l, sRetN_l, bd_ok, bd_x, bd_s, bind_l, ret_l, stop_l, eVar_l, eC_l, eOp_l, eArgs_l, aNil_l, aCons_l, tBl_l, asBl_b, tTruth_l, tNotD_l, tOrD_l, tAndD_l, eIsi_l, eCall_l, eMethT_l, eIf_l, sForRng_l, sForIn_l, sForV_l, sb_ok, sb_x, eComp_l, eCompR_l, eCompV_l, runB_l, fn_nx, fn_rt, fn_x, eSl_l, oNone_l, oSome_l, asInt_i, eNeg_l, neg1_i, iEnum_l, eCallV_l, sRaise_l, eUn_l, sWhile_l, whB_l, lp_nx, lp_ct, lp_bk, lp_rt, lp_xn, fw_tup, fw_con, fw_str, fw_int, fz_at, iRev_l, iZip_l, iEnumX_l, iRng3_l, eDNew_l, eDGet2_l, sDPut_l, eFz_l, dTru, dIx, seqOf, dInt2, dInt2L, dLen, dAddX, dTup, kindOk, dAppend, dPop, dIsi, tyD, Ty.is, dSl, e]
    rw [e2, fw_dNew hz hc]
  refine ⟨(ns.take 1).sum, ?_⟩
  simp [sSeq_l, sq_nx, sq_rt, sq_st, sq_bk, sq_ct, sq_xn, sIf_l, cs_t, cs_f, cs_x, sSet_l, st_ok, st_x, sExpr_l, xp_ok, xp_x, sRet_l, rn_ok, rn_x, sSkip_l, sRetN_l, bd_ok, bd_x, bd_s, bind_l, ret_l, stop_l, eVar_l, eC_l, eOp_l, eArgs_l, aNil_l, aCons_l, tBl_l, asBl_b, tTruth_l, tNotD_l, tOrD_l, tAndD_l, eIsi_l, eCall_l, eMethT_l, eIf_l, sForRng_l, sForIn_l, sForV_l, sb_ok, sb_x, eComp_l, eCompR_l, eCompV_l, runB_l, fn_nx, fn_rt, fn_x, eSl_l, oNone_l, oSome_l, asInt_i, eNeg_l, neg1_i, iEnum_l, eCallV_l, sRaise_l, eUn_l, sWhile_l, whB_l, lp_nx, lp_ct, lp_bk, lp_rt, lp_xn, fw_tup, fw_con, fw_str, fw_int, fz_at, iRev_l, iZip_l, iEnumX_l, iRng3_l, eDNew_l, eDGet2_l, sDPut_l, eFz_l, dTru, dIx, seqOf, dInt2, dInt2L, dLen, dAddX, dTup, kindOk, dAppend, dPop, dIsi, tyD, Ty.is, e1, dSum, intsOf_map, ← List.map_take]
theorem most_eq (ns : List Int) (G : DH) : ∃ m : Int, 1 ≤ m ∧ m ≤ 100 ∧ m__law_most [.con (ns.map .int), .int 100] G = .ok (.int m) G := by
  obtain ⟨c, e⟩ := head_sum ns [some (.int 100), none] G
  generalize hS : eArgs dSum (aCons (eFn (eSl (eVar 0) (oNone) (oSome (eC (.int 1))))) (aNil)) = S at e
  have hm := mix_eq c 44 (by omega) (by omega) G
  have hn := mx_nn c 44
  generalize mx c 44 = v at hm hn
  by_cases h : v % 4 = 1
  · refine ⟨1 + v / 4 % 6, by omega, by omega, pure_of0 ?_ closed_int⟩
    unfold b__law_most
    rw [hS]
    simp [sSeq_l, sq_nx, sq_rt, sq_st, sq_bk, sq_ct, sq_xn, sIf_l, cs_t, cs_f, cs_x, sSet_l, st_ok, st_x, sExpr_l, xp_ok, xp_x, sRet_l, rn_ok, rn_x, sSkip_l, sRetN_l, bd_ok, bd_x, bd_s, bind_l, ret_l, stop_l, eVar_l, eC_l, eOp_l, eArgs_l, aNil_l, aCons_l, tBl_l, asBl_b, tTruth_l, tNotD_l, tOrD_l, tAndD_l, eIsi_l, eCall_l, eMethT_l, eIf_l, sForRng_l, sForIn_l, sForV_l, sb_ok, sb_x, eComp_l, eCompR_l, eCompV_l, runB_l, fn_nx, fn_rt, fn_x, eSl_l, oNone_l, oSome_l, asInt_i, eNeg_l, neg1_i, iEnum_l, eCallV_l, sRaise_l, eUn_l, sWhile_l, whB_l, lp_nx, lp_ct, lp_bk, lp_rt, lp_xn, fw_tup, fw_con, fw_str, fw_int, fz_at, iRev_l, iZip_l, iEnumX_l, iRng3_l, eDNew_l, eDGet2_l, sDPut_l, eFz_l, dTru, dIx, seqOf, dInt2, dInt2L, dLen, dAddX, dTup, kindOk, dAppend, dPop, dIsi, tyD, Ty.is, e, hm, dEq_int, h]
  · refine ⟨100, by omega, by omega, pure_of0 ?_ closed_int⟩
    unfold b__law_most
    rw [hS]
    have h' : (v % 4 == 1) = false := by simpa using h
    simp [sSeq_l, sq_nx, sq_rt, sq_st, sq_bk, sq_ct, sq_xn, sIf_l, cs_t, cs_f, cs_x, sSet_l, st_ok, st_x, sExpr_l, xp_ok, xp_x, sRet_l, rn_ok, rn_x, sSkip_l, sRetN_l, bd_ok, bd_x, bd_s, bind_l, ret_l, stop_l, eVar_l, eC_l, eOp_l, eArgs_l, aNil_l, aCons_l, tBl_l, asBl_b, tTruth_l, tNotD_l, tOrD_l, tAndD_l, eIsi_l, eCall_l, eMethT_l, eIf_l, sForRng_l, sForIn_l, sForV_l, sb_ok, sb_x, eComp_l, eCompR_l, eCompV_l, runB_l, fn_nx, fn_rt, fn_x, eSl_l, oNone_l, oSome_l, asInt_i, eNeg_l, neg1_i, iEnum_l, eCallV_l, sRaise_l, eUn_l, sWhile_l, whB_l, lp_nx, lp_ct, lp_bk, lp_rt, lp_xn, fw_tup, fw_con, fw_str, fw_int, fz_at, iRev_l, iZip_l, iEnumX_l, iRng3_l, eDNew_l, eDGet2_l, sDPut_l, eFz_l, dTru, dIx, seqOf, dInt2, dInt2L, dLen, dAddX, dTup, kindOk, dAppend, dPop, dIsi, tyD, Ty.is, e, hm, dEq_int, h']
end K31
end
section
set_option Elab.async false
set_option linter.all false
set_option maxRecDepth 100000
set_option maxHeartbeats 1000000
namespace K31
open PySem PySem.Spec L2 L3
noncomputable def ixf (ns : List Int) : D → D
  | .int j => .int (ns.getD j.toNat 0)
  | _ => .non
noncomputable def mxf (n s : Int) : D → D
  | .int j => .int (mx n (40 + s + j))
  | _ => .non
theorem atI_map (ns : List Int) (j : Nat) (h : j < ns.length) : atI (ns.map D.int) (j : Int) = some (.int (ns.getD j 0)) := by
  refine atI_nat ?_
  rw [List.getElem?_map, List.getElem?_eq_getElem h]
  simp [h]
theorem cells_eq (ns : List Int) (hl : ns.length ≤ 63) (s : Nat) (hs : s ≤ 1) (G : DH) : ∃ xs : List Int, 6 ≤ xs.length ∧ xs.length ≤ 40 ∧ m__law_cells [.con (ns.map .int), .int s] G = .ok (.con (xs.map .int)) G := by
  have hN : rngN (s : Int) (ns.length : Int) 2 ≤ 32 := by
    unfold rngN
    split <;> omega
  have hI : ∀ i : Nat, i < rngN (s : Int) (ns.length : Int) 2 → s + i * 2 < ns.length := by
    intro i hi
    unfold rngN at hi
    split at hi <;> omega
  have h64 : ¬ ((64 : Int) < (ns.length : Int)) := by omega
  have h64' : (ns.length : Int) ≤ 64 := by omega
  generalize hNN : rngN (s : Int) (ns.length : Int) 2 = N at hN hI
  have q1 : -1073741824 ≤ (s : Int) := by omega
  have q2 : (s : Int) < 1073741824 := by omega
  have q3 : -1073741824 ≤ (ns.length : Int) := by omega
  have q4 : (ns.length : Int) < 1073741824 := by omega
  have c1 := compP_map (τ := [some (D.con (ns.map D.int)), some (.int (s : Int)), none]) (G := G) (gO := oN) (ks := [true]) (te := eOp dIx (eVar 1) (eVar 0)) (own := fun x => [x]) (f := ixf ns) ((List.range N).map fun (i : Nat) => D.int ((s : Int) + (i : Int) * 2)) [] (by simp; omega) (fun x _ => rfl) (fun x hx acc => by
    obtain ⟨i, hi, rfl⟩ := List.mem_map.mp hx
    have hi' := hI i (List.mem_range.mp hi)
    have ea := atI_map ns (s + i * 2) hi'
    rw [show ((s + i * 2 : Nat) : Int) = (s : Int) + (i : Int) * 2 by omega] at ea
    have et : ((s : Int) + (i : Int) * 2).toNat = s + i * 2 := by omega
    simp [sSeq_l, sq_nx, sq_rt, sq_st, sq_bk, sq_ct, sq_xn, sIf_l, cs_t, cs_f, cs_x, sSet_l, st_ok, st_x, sExpr_l, xp_ok, xp_x, sRet_l, rn_ok, rn_x, sSkip_l, sRetN_l, bd_ok, bd_x, bd_s, bind_l, ret_l, stop_l, eVar_l, eC_l, eOp_l, eArgs_l, aNil_l, aCons_l, tBl_l, asBl_b, tTruth_l, tNotD_l, tOrD_l, tAndD_l, eIsi_l, eCall_l, eMethT_l, eIf_l, sForRng_l, sForIn_l, sForV_l, sb_ok, sb_x, eComp_l, eCompR_l, eCompV_l, runB_l, fn_nx, fn_rt, fn_x, eSl_l, oNone_l, oSome_l, asInt_i, eNeg_l, neg1_i, iEnum_l, eCallV_l, sRaise_l, eUn_l, sWhile_l, whB_l, lp_nx, lp_ct, lp_bk, lp_rt, lp_xn, fw_tup, fw_con, fw_str, fw_int, fz_at, iRev_l, iZip_l, iEnumX_l, iRng3_l, eDNew_l, eDGet2_l, sDPut_l, eFz_l, dTru, dIx, seqOf, dInt2, dInt2L, dLen, dAddX, dTup, kindOk, dAppend, dPop, dIsi, tyD, Ty.is, mask, ea, ixf, et])
  have e1 : eFn (eCompV oN [true] (iRng3 (aCons (eVar 1) (aCons (eArgs (dInt2L fun i j => if j < i then j else i) (aCons (eArgs dLen (aCons (eVar 0) (aNil))) (aCons (eC (.int 64)) (aNil)))) (aCons (eC (.int 2)) (aNil))))) (tYes) (eOp dIx (eVar 1) (eVar 0))) [some (D.con (ns.map D.int)), some (.int (s : Int)), none] G = .ok (.con (((List.range N).map fun (i : Nat) => D.int ((s : Int) + (i : Int) * 2)).map (ixf ns))) G := by
    rw [eFn_l]
    have e2 : eCompV oN [true] (iRng3 (aCons (eVar 1) (aCons (eArgs (dInt2L fun i j => if j < i then j else i) (aCons (eArgs dLen (aCons (eVar 0) (aNil))) (aCons (eC (.int 64)) (aNil)))) (aCons (eC (.int 2)) (aNil))))) (tYes) (eOp dIx (eVar 1) (eVar 0)) [some (D.con (ns.map D.int)), some (.int (s : Int)), none] G = .ok (.obj G.length) (G ++ [.lst (((List.range N).map fun (i : Nat) => D.int ((s : Int) + (i : Int) * 2)).map (ixf ns))]) := by
      simp only [List.nil_append] at c1
      rw [← c1, ← comp_rng]
      simp [sSeq_l, sq_nx, sq_rt, sq_st, sq_bk, sq_ct, sq_xn, sIf_l, cs_t, cs_f, cs_x, sSet_l, st_ok, st_x, sExpr_l, xp_ok, xp_x, sRet_l, rn_ok, rn_x, sSkip_l, sRetN_l, bd_ok, bd_x, bd_s, bind_l, ret_l, stop_l, eVar_l, eC_l, eOp_l, eArgs_l, aNil_l, aCons_l, tBl_l, asBl_b, tTruth_l, tNotD_l, tOrD_l, tAndD_l, eIsi_l, eCall_l, eMethT_l, eIf_l, sForRng_l, sForIn_l, sForV_l, sb_ok, sb_x, eComp_l, eCompR_l, eCompV_l, runB_l, fn_nx, fn_rt, fn_x, eSl_l, oNone_l, oSome_l, asInt_i, eNeg_l, neg1_i, iEnum_l, eCallV_l, sRaise_l, eUn_l, sWhile_l, whB_l, lp_nx, lp_ct, lp_bk, lp_rt, lp_xn, fw_tup, fw_con, fw_str, fw_int, fz_at, iRev_l, iZip_l, iEnumX_l, iRng3_l, eDNew_l, eDGet2_l, sDPut_l, eFz_l, dTru, dIx, seqOf, dInt2, dInt2L, dLen, dAddX, dTup, kindOk, dAppend, dPop, dIsi, tyD, Ty.is, ints3, h64, h64', q1, q2, q3, q4, hNN]
    rw [e2, fw_new]
    rw [List.map_map]
    exact closedL_map fun _ => closed_int
  have ex1 : ((List.range N).map fun (i : Nat) => D.int ((s : Int) + (i : Int) * 2)).map (ixf ns) = ((List.range N).map fun i => ns.getD (s + i * 2) 0).map .int := by
    rw [List.map_map, List.map_map]
    refine List.map_congr_left fun i _ => ?_
    have et : ((s : Int) + (i : Int) * 2).toNat = s + i * 2 := by omega
    simp only [Function.comp, ixf, et]
  rw [ex1] at e1
  generalize hX : (List.range N).map (fun i => ns.getD (s + i * 2) 0) = X at e1
  have hXl : X.length = N := by rw [← hX]; simp
  have hr : rng1 [.int (6 - (X.length : Int))] = some ((List.range (6 - (X.length : Int)).toNat).map fun (k : Nat) => .int (0 + (k : Int))) := by
    show (if -(2 ^ 62) ≤ (6 - (X.length : Int)) ∧ (6 - (X.length : Int)) < 2 ^ 62 then some ((List.range (6 - (X.length : Int)).toNat).map fun (k : Nat) => D.int (0 + (k : Int))) else none) = _
    rw [if_pos ⟨by omega, by omega⟩]
  have c2 := compP_map (τ := [some (D.con (ns.map D.int)), some (.int (s : Int)), some (.con (X.map .int))]) (G := G) (gO := oN) (ks := [true, true]) (te := eCall 2 m__law_mix (aCons (eArgs dLen (aCons (eVar 1) (aNil))) (aCons (eOp dAddX (eOp dAddX (eC (.int 40)) (eVar 2)) (eVar 0)) (aNil)))) (own := fun x => [x]) (f := mxf ns.length s) ((List.range (6 - (X.length : Int)).toNat).map fun (k : Nat) => D.int (0 + (k : Int))) [] (by simp; omega) (fun x _ => rfl) (fun x hx acc => by
    obtain ⟨i, hi, rfl⟩ := List.mem_map.mp hx
    have hi' := List.mem_range.mp hi
    have hm := mix_eq ns.length (40 + s + (0 + (i : Int))) (by omega) (by omega) (G ++ [.lst acc])
    simp only [Int.zero_add] at hm
    simp [sSeq_l, sq_nx, sq_rt, sq_st, sq_bk, sq_ct, sq_xn, sIf_l, cs_t, cs_f, cs_x, sSet_l, st_ok, st_x, sExpr_l, xp_ok, xp_x, sRet_l, rn_ok, rn_x, sSkip_l, sRetN_l, bd_ok, bd_x, bd_s, bind_l, ret_l, stop_l, eVar_l, eC_l, eOp_l, eArgs_l, aNil_l, aCons_l, tBl_l, asBl_b, tTruth_l, tNotD_l, tOrD_l, tAndD_l, eIsi_l, eCall_l, eMethT_l, eIf_l, sForRng_l, sForIn_l, sForV_l, sb_ok, sb_x, eComp_l, eCompR_l, eCompV_l, runB_l, fn_nx, fn_rt, fn_x, eSl_l, oNone_l, oSome_l, asInt_i, eNeg_l, neg1_i, iEnum_l, eCallV_l, sRaise_l, eUn_l, sWhile_l, whB_l, lp_nx, lp_ct, lp_bk, lp_rt, lp_xn, fw_tup, fw_con, fw_str, fw_int, fz_at, iRev_l, iZip_l, iEnumX_l, iRng3_l, eDNew_l, eDGet2_l, sDPut_l, eFz_l, dTru, dIx, seqOf, dInt2, dInt2L, dLen, dAddX, dTup, kindOk, dAppend, dPop, dIsi, tyD, Ty.is, mask, mxf, hm])
  generalize hL : (List.range (6 - (X.length : Int)).toNat).map (fun (k : Nat) => D.int (0 + (k : Int))) = L at hr c2
  have e3 : eFn (eCompR rng1 oN [true, true] (aCons (eOp dSub (eC (.int 6)) (eArgs dLen (aCons (eVar 2) (aNil)))) (aNil)) (tYes) (eCall 2 m__law_mix (aCons (eArgs dLen (aCons (eVar 1) (aNil))) (aCons (eOp dAddX (eOp dAddX (eC (.int 40)) (eVar 2)) (eVar 0)) (aNil))))) [some (D.con (ns.map D.int)), some (.int (s : Int)), some (.con (X.map .int))] G = .ok (.con (L.map (mxf ns.length s))) G := by
    rw [eFn_l]
    have e4 : eCompR rng1 oN [true, true] (aCons (eOp dSub (eC (.int 6)) (eArgs dLen (aCons (eVar 2) (aNil)))) (aNil)) (tYes) (eCall 2 m__law_mix (aCons (eArgs dLen (aCons (eVar 1) (aNil))) (aCons (eOp dAddX (eOp dAddX (eC (.int 40)) (eVar 2)) (eVar 0)) (aNil)))) [some (D.con (ns.map D.int)), some (.int (s : Int)), some (.con (X.map .int))] G = .ok (.obj G.length) (G ++ [.lst (L.map (mxf ns.length s))]) := by
      simp only [List.nil_append] at c2
      rw [← c2]
      simp [sSeq_l, sq_nx, sq_rt, sq_st, sq_bk, sq_ct, sq_xn, sIf_l, cs_t, cs_f, cs_x, sSet_l, st_ok, st_x, sExpr_l, xp_ok, xp_x, sRet_l, rn_ok, rn_x, sSkip_l, sRetN_l, bd_ok, bd_x, bd_s, bind_l, ret_l, stop_l, eVar_l, eC_l, eOp_l, eArgs_l, aNil_l, aCons_l, tBl_l, asBl_b, tTruth_l, tNotD_l, tOrD_l, tAndD_l, eIsi_l, eCall_l, eMethT_l, eIf_l, sForRng_l, sForIn_l, sForV_l, sb_ok, sb_x, eComp_l, eCompR_l, eCompV_l, runB_l, fn_nx, fn_rt, fn_x, eSl_l, oNone_l, oSome_l, asInt_i, eNeg_l, neg1_i, iEnum_l, eCallV_l, sRaise_l, eUn_l, sWhile_l, whB_l, lp_nx, lp_ct, lp_bk, lp_rt, lp_xn, fw_tup, fw_con, fw_str, fw_int, fz_at, iRev_l, iZip_l, iEnumX_l, iRng3_l, eDNew_l, eDGet2_l, sDPut_l, eFz_l, dTru, dIx, seqOf, dInt2, dInt2L, dLen, dAddX, dTup, kindOk, dAppend, dPop, dIsi, tyD, Ty.is, hr]
    rw [e4, fw_new]
    rw [← hL, List.map_map]
    exact closedL_map fun _ => closed_int
  have ex2 : L.map (mxf ns.length s) = ((List.range (6 - (X.length : Int)).toNat).map fun (k : Nat) => mx ns.length (40 + s + (0 + (k : Int)))).map .int := by
    rw [← hL, List.map_map, List.map_map]; rfl
  rw [ex2] at e3
  generalize hY : (List.range (6 - (X.length : Int)).toNat).map (fun (k : Nat) => mx ns.length (40 + s + (0 + (k : Int)))) = Y at e3
  have hYl : Y.length = (6 - (X.length : Int)).toNat := by rw [← hY]; simp
  refine ⟨X ++ Y, by simp; omega, by simp; omega, pure_of0 ?_ (by rw [closed_con]; exact closedL_map fun _ => closed_int)⟩
  have hz : (X.map D.int ++ Y.map D.int).length ≤ sizeLine := lz (by simp; omega)
  have hcl : closedL (X.map D.int ++ Y.map D.int) = true := by rw [← List.map_append]; exact closedL_map fun _ => closed_int
  have e5 : eFn (eOp dAddX (eVar 2) (eFn (eCompR rng1 oN [true, true] (aCons (eOp dSub (eC (.int 6)) (eArgs dLen (aCons (eVar 2) (aNil)))) (aNil)) (tYes) (eCall 2 m__law_mix (aCons (eArgs dLen (aCons (eVar 1) (aNil))) (aCons (eOp dAddX (eOp dAddX (eC (.int 40)) (eVar 2)) (eVar 0)) (aNil))))))) [some (D.con (ns.map D.int)), some (.int (s : Int)), some (.con (X.map .int))] G = .ok (.con (X.map D.int ++ Y.map D.int)) G := by
    rw [eFn_l, eOp_l]
    have e6 : eVar 2 [some (D.con (ns.map D.int)), some (.int (s : Int)), some (.con (X.map .int))] G = .ok (.con (X.map .int)) G := rfl
    rw [e6, bd_ok, bind_l, e3, bd_ok]
    show (dNew _ G).fw G = _
    rw [fw_dNew hz hcl]
  unfold b__law_cells
  rw [List.map_append]
  simp [sSeq_l, sq_nx, sq_rt, sq_st, sq_bk, sq_ct, sq_xn, sIf_l, cs_t, cs_f, cs_x, sSet_l, st_ok, st_x, sExpr_l, xp_ok, xp_x, sRet_l, rn_ok, rn_x, sSkip_l, sRetN_l, bd_ok, bd_x, bd_s, bind_l, ret_l, stop_l, eVar_l, eC_l, eOp_l, eArgs_l, aNil_l, aCons_l, tBl_l, asBl_b, tTruth_l, tNotD_l, tOrD_l, tAndD_l, eIsi_l, eCall_l, eMethT_l, eIf_l, sForRng_l, sForIn_l, sForV_l, sb_ok, sb_x, eComp_l, eCompR_l, eCompV_l, runB_l, fn_nx, fn_rt, fn_x, eSl_l, oNone_l, oSome_l, asInt_i, eNeg_l, neg1_i, iEnum_l, eCallV_l, sRaise_l, eUn_l, sWhile_l, whB_l, lp_nx, lp_ct, lp_bk, lp_rt, lp_xn, fw_tup, fw_con, fw_str, fw_int, fz_at, iRev_l, iZip_l, iEnumX_l, iRng3_l, eDNew_l, eDGet2_l, sDPut_l, eFz_l, dTru, dIx, seqOf, dInt2, dInt2L, dLen, dAddX, dTup, kindOk, dAppend, dPop, dIsi, tyD, Ty.is, e1, e5]
end K31
end
section
set_option Elab.async false
set_option linter.all false
set_option maxRecDepth 100000
set_option maxHeartbeats 1000000
namespace K31
open PySem PySem.Spec L2 L3
theorem slice_ok (x : Str) (l u : Option Int) (h : PyData.strOk x = true) : PyData.strOk (Txt.slice x l u) = true := by
  unfold Txt.slice
  split
  · exact h
  · unfold PyData.strOk at h ⊢
    simp only [List.all_toArray, List.all_eq_true, List.mem_filterMap] at h ⊢
    rintro c ⟨i, _, hi⟩
    have h2 := Array.all_eq_true'.mp h c (Array.mem_of_getElem? hi)
    exact h2
noncomputable abbrev lets : Str := "abcdefghijklmnopqrstuvwxyz"
theorem lets_ix (i : Int) (G : DH) : ∃ s, dIx (.str lets) (.int (i % 26)) G = .ok (.str s) G ∧ PyData.strOk s = true ∧ s.length = 1 :=
  ix_lit lets (i % 26) G (by omega) (by show i % 26 < ((26 : Nat) : Int); omega) (by decide +kernel) (by decide +kernel)
theorem word_loop (c : Int) (G : DH) (a1 a4 a5 a6 a7 : Option D) : ∀ (m j : Nat) (t : Str) (a3 : Option D), j + m ≤ 100 → PyData.strOk t = true → t.length ≤ j + 1 →
    ∃ (u : Str) (b3 : Option D), PyData.strOk u = true ∧ u.length ≤ j + m + 1 ∧ forP (gN 3) L0__law_names ((List.range' j m).map fun (k : Nat) => .int (0 + (k : Int))) [some (.int c), a1, some (.str t), a3, a4, a5, a6, a7] G = .nx [some (.int c), a1, some (.str u), b3, a4, a5, a6, a7] G
  | 0, j, t, a3, h, k1, k2 => ⟨t, a3, k1, by omega, by simp [forP]⟩
  | m + 1, j, t, a3, h, k1, k2 => by
    have hm := mix_eq c (32 + (0 + (j : Int))) (by omega) (by omega) G
    obtain ⟨s, es, ks, ls⟩ := lets_ix (mx c (32 + (0 + (j : Int)))) G
    have hz : t.length + s.length ≤ sizeLine := lz (by omega)
    obtain ⟨u, b3, ku, lu, ih⟩ := word_loop c G a1 a4 a5 a6 a7 m (j + 1) (t ++ s) (some (.int (0 + (j : Int)))) (by omega) (good_add k1 ks) (by rw [len_add]; omega)
    refine ⟨u, b3, ku, by omega, ?_⟩
    rw [List.range'_succ, List.map_cons, forP_cons rfl]
    have e : L0__law_names [some (.int c), a1, some (.str t), some (.int (0 + (j : Int))), a4, a5, a6, a7] G = .nx [some (.int c), a1, some (.str (t ++ s)), some (.int (0 + (j : Int))), a4, a5, a6, a7] G := by
      generalize (0 + (j : Int)) = jj at hm es
      unfold L0__law_names
      simp only [sSet_l, eOp_l, eVar_l, eC_l, bd_ok, bind_l, eCall_l, aCons_l, aNil_l, ret_l, List.getElem?_cons_succ, List.getElem?_cons_zero, List.length_cons, List.length_nil, if_true, dAddX, hm, dInt2, es, if_pos hz, st_ok, List.set_cons_succ, List.set_cons_zero, show (0 : Int) < 26 from by decide, decide_true]
    simp only [List.set_cons_succ, List.set_cons_zero, e, lp_nx]
    rw [ih]
theorem name_loop (c w p kk : Int) (hk : -100 < kk ∧ kk < 100) (G : DH) (a1 a2 : Option D) : ∀ (m j : Nat) (t : Str) (a3 : Option D), j + m ≤ 100 → PyData.strOk t = true → t.length ≤ j + 1 →
    ∃ (u : Str) (b3 : Option D), PyData.strOk u = true ∧ u.length ≤ j + m + 1 ∧ forP (gN 3) L2__law_names ((List.range' j m).map fun (k : Nat) => .int (0 + (k : Int))) [some (.int c), a1, a2, a3, some (.int w), some (.int p), some (.int kk), some (.str t)] G = .nx [some (.int c), a1, a2, b3, some (.int w), some (.int p), some (.int kk), some (.str u)] G
  | 0, j, t, a3, h, k1, k2 => ⟨t, a3, k1, by omega, by simp [forP]⟩
  | m + 1, j, t, a3, h, k1, k2 => by
    have hm := mix_eq c (32 + (0 + (j : Int))) (by omega) (by omega) G
    obtain ⟨s, es, ks, ls⟩ := lets_ix (mx c (32 + (0 + (j : Int))) + kk * (if (0 + (j : Int)) == p then 1 else 0)) G
    have hz : t.length + s.length ≤ sizeLine := lz (by omega)
    obtain ⟨u, b3, ku, lu, ih⟩ := name_loop c w p kk hk G a1 a2 m (j + 1) (t ++ s) (some (.int (0 + (j : Int)))) (by omega) (good_add k1 ks) (by rw [len_add]; omega)
    refine ⟨u, b3, ku, by omega, ?_⟩
    rw [List.range'_succ, List.map_cons, forP_cons rfl]
    have hk1 : (decide (-(2 ^ 64) < kk) && decide (kk < 2 ^ 64)) = true := by simp; omega
    have e : L2__law_names [some (.int c), a1, a2, some (.int (0 + (j : Int))), some (.int w), some (.int p), some (.int kk), some (.str t)] G = .nx [some (.int c), a1, a2, some (.int (0 + (j : Int))), some (.int w), some (.int p), some (.int kk), some (.str (t ++ s))] G := by
      generalize (0 + (j : Int)) = jj at hm es
      unfold L2__law_names
      simp only [sSet_l, eOp_l, eArgs_l, eVar_l, eC_l, bd_ok, bind_l, eCall_l, aCons_l, aNil_l, ret_l, List.getElem?_cons_succ, List.getElem?_cons_zero, List.length_cons, List.length_nil, if_true, dAddX, hm, dEq_int, dInt1, Bool.false_xor, dInt2, hk1, Bool.true_or, es, if_pos hz, st_ok, List.set_cons_succ, List.set_cons_zero, show (0 : Int) < 26 from by decide, decide_true]
    simp only [List.set_cons_succ, List.set_cons_zero, e, lp_nx]
    rw [ih]
noncomputable def kept : List Str := ["start", "rule", "row", "mix", "many", "any", "kind", "not", "both", "either", "way", "mark"]
noncomputable abbrev keptE : DS → M D := eFn (eArgs dNew (aCons (eC (.str "start")) (aCons (eC (.str "rule")) (aCons (eC (.str "row")) (aCons (eC (.str "mix")) (aCons (eC (.str "many")) (aCons (eC (.str "any")) (aCons (eC (.str "kind")) (aCons (eC (.str "not")) (aCons (eC (.str "both")) (aCons (eC (.str "either")) (aCons (eC (.str "way")) (aCons (eC (.str "mark")) (aNil))))))))))))))
theorem keptE_eq (τ : DS) (G : DH) : keptE τ G = .ok (.con (kept.map .str)) G := by
  unfold keptE
  rw [eFn_l]
  have z12 : (12 : Nat) ≤ sizeLine := lz (by omega)
  have e : eArgs dNew (aCons (eC (.str "start")) (aCons (eC (.str "rule")) (aCons (eC (.str "row")) (aCons (eC (.str "mix")) (aCons (eC (.str "many")) (aCons (eC (.str "any")) (aCons (eC (.str "kind")) (aCons (eC (.str "not")) (aCons (eC (.str "both")) (aCons (eC (.str "either")) (aCons (eC (.str "way")) (aCons (eC (.str "mark")) (aNil))))))))))))) τ G = dNew (kept.map .str) G := by
    simp only [eArgs_l, aCons_l, aNil_l, eC_l, bd_ok, bind_l, ret_l]; rfl
  rw [e, fw_dNew (ds := kept.map .str) (show (kept.map D.str).length ≤ sizeLine from z12) (closedL_map fun _ => closed_str)]
theorem tail_eq (c w p kk : Int) (G : DH) (ws : List Str) (hw : ws.length ≤ 100) (a2 a3 : Option D) (u : Str) (ku : PyData.strOk u = true) (lu : u.length ≤ 20) : ∃ v : Str, PyData.strOk v = true ∧ v.length ≤ 21 ∧
    T0__law_names [some (.int c), some (.obj G.length), a2, a3, some (.int w), some (.int p), some (.int kk), some (.str u)] (G ++ [.lst (ws.map .str)]) =
      .nx [some (.int c), some (.obj G.length), a2, a3, some (.int w), some (.int p), some (.int kk), some (.str v)] (G ++ [.lst ((ws ++ [v]).map .str)]) := by
  have hin := inB_strs u kept (G ++ [.lst (ws.map .str)]) ku (by decide +kernel)
  generalize kept.any (· == u) = bb at hin
  have hz : u.length + ("z" : Str).length ≤ sizeLine := by
    have : ("z" : Str).length = 1 := by decide +kernel
    exact lz (by omega)
  have hz2 : ws.length < sizeLine := Nat.lt_of_lt_of_le (by omega) (lz (n := 101) (by omega))
  have hk := keptE_eq
  cases bb with
  | true =>
    refine ⟨u ++ "z", good_add ku (by decide +kernel), by rw [len_add]; have : ("z" : Str).length = 1 := by decide +kernel
                                                          omega, ?_⟩
    unfold T0__law_names
    simp [sSeq_l, sq_nx, sq_rt, sq_st, sq_bk, sq_ct, sq_xn, sIf_l, cs_t, cs_f, cs_x, sSet_l, st_ok, st_x, sExpr_l, xp_ok, xp_x, sRet_l, rn_ok, rn_x, sSkip_l, sRetN_l, bd_ok, bd_x, bd_s, bind_l, ret_l, stop_l, eVar_l, eC_l, eOp_l, eArgs_l, aNil_l, aCons_l, tBl_l, asBl_b, tTruth_l, tNotD_l, tOrD_l, tAndD_l, eIsi_l, eCall_l, eMethT_l, eIf_l, sForRng_l, sForIn_l, sForV_l, sb_ok, sb_x, eComp_l, eCompR_l, eCompV_l, runB_l, fn_nx, fn_rt, fn_x, eSl_l, oNone_l, oSome_l, asInt_i, eNeg_l, neg1_i, iEnum_l, eCallV_l, sRaise_l, eUn_l, sWhile_l, whB_l, lp_nx, lp_ct, lp_bk, lp_rt, lp_xn, fw_tup, fw_con, fw_str, fw_int, fz_at, iRev_l, iZip_l, iEnumX_l, iRng3_l, eDNew_l, eDGet2_l, sDPut_l, eFz_l, dTru, dIx, seqOf, dInt2, dInt2L, dLen, dAddX, dTup, kindOk, dAppend, dPop, dIsi, tyD, Ty.is, hk, dIn, hin, hz, hz2]
  | false =>
    refine ⟨u, ku, by omega, ?_⟩
    unfold T0__law_names
    simp [sSeq_l, sq_nx, sq_rt, sq_st, sq_bk, sq_ct, sq_xn, sIf_l, cs_t, cs_f, cs_x, sSet_l, st_ok, st_x, sExpr_l, xp_ok, xp_x, sRet_l, rn_ok, rn_x, sSkip_l, sRetN_l, bd_ok, bd_x, bd_s, bind_l, ret_l, stop_l, eVar_l, eC_l, eOp_l, eArgs_l, aNil_l, aCons_l, tBl_l, asBl_b, tTruth_l, tNotD_l, tOrD_l, tAndD_l, eIsi_l, eCall_l, eMethT_l, eIf_l, sForRng_l, sForIn_l, sForV_l, sb_ok, sb_x, eComp_l, eCompR_l, eCompV_l, runB_l, fn_nx, fn_rt, fn_x, eSl_l, oNone_l, oSome_l, asInt_i, eNeg_l, neg1_i, iEnum_l, eCallV_l, sRaise_l, eUn_l, sWhile_l, whB_l, lp_nx, lp_ct, lp_bk, lp_rt, lp_xn, fw_tup, fw_con, fw_str, fw_int, fz_at, iRev_l, iZip_l, iEnumX_l, iRng3_l, eDNew_l, eDGet2_l, sDPut_l, eFz_l, dTru, dIx, seqOf, dInt2, dInt2L, dLen, dAddX, dTup, kindOk, dAppend, dPop, dIsi, tyD, Ty.is, hk, dIn, hin, hz2]
theorem names_loop (c w p : Int) (hw : 0 ≤ w) (hw2 : w ≤ 8) (G : DH) (a2 : Option D) : ∀ (m j : Nat) (ws : List Str) (a3 a6 a7 : Option D), j + m ≤ 5 → ws.length = j → (∀ s ∈ ws, PyData.strOk s = true ∧ s.length ≤ 21) →
    ∃ (us : List Str) (b3 b6 b7 : Option D), us.length = j + m ∧ (∀ s ∈ us, PyData.strOk s = true ∧ s.length ≤ 21) ∧
      forP (gN 6) L1__law_names ((List.range' j m).map fun (k : Nat) => .int (0 + (k : Int))) [some (.int c), some (.obj G.length), a2, a3, some (.int w), some (.int p), a6, a7] (G ++ [.lst (ws.map .str)]) = .nx [some (.int c), some (.obj G.length), a2, b3, some (.int w), some (.int p), b6, b7] (G ++ [.lst (us.map .str)])
  | 0, j, ws, a3, a6, a7, h, hl, hs => ⟨ws, a3, a6, a7, by omega, hs, by simp [forP]⟩
  | m + 1, j, ws, a3, a6, a7, h, hl, hs => by
    obtain ⟨u, b3, ku, lu, e1⟩ := name_loop c w p (0 + (j : Int)) (by omega) (G ++ [.lst (ws.map .str)]) (some (.obj G.length)) a2 w.toNat 0 ⟨#[]⟩ a3 (by omega) (by decide +kernel) (by show 0 ≤ 1; omega)
    obtain ⟨v, kv, lv, e2⟩ := tail_eq c w p (0 + (j : Int)) G ws (by omega) a2 b3 u ku (by omega)
    obtain ⟨us, c3, c6, c7, hul, hus, ih⟩ := names_loop c w p hw hw2 G a2 m (j + 1) (ws ++ [v]) b3 (some (.int (0 + (j : Int)))) (some (.str v)) (by omega) (by simp [hl]) (fun s hm => by
      rcases List.mem_append.mp hm with h | h
      · exact hs s h
      · rw [List.mem_singleton.mp h]; exact ⟨kv, lv⟩)
    refine ⟨us, c3, c6, c7, by omega, hus, ?_⟩
    have hr := rng1_of (j := w) hw (by omega)
    generalize ((List.range' 0 w.toNat).map fun (k : Nat) => D.int (0 + (k : Int))) = its at hr e1
    rw [List.range'_succ, List.map_cons, forP_cons rfl]
    generalize (0 + (j : Int)) = jj at e1 e2 ih
    have e : L1__law_names [some (.int c), some (.obj G.length), a2, a3, some (.int w), some (.int p), some (.int jj), a7] (G ++ [.lst (ws.map .str)]) = .nx [some (.int c), some (.obj G.length), a2, b3, some (.int w), some (.int p), some (.int jj), some (.str v)] (G ++ [.lst ((ws ++ [v]).map .str)]) := by
      unfold L1__law_names
      have e0 : ("" : Str) = ⟨#[]⟩ := rfl
      rw [e0]
      simp only [sSeq_l, sSet_l, eC_l, st_ok, sq_nx, List.set_cons_succ, List.set_cons_zero, sForRng_l, aCons_l, aNil_l, eVar_l, bd_ok, bind_l, ret_l, List.getElem?_cons_succ, List.getElem?_cons_zero, sb_ok, hr, e1, e2]
    simp only [List.set_cons_succ, List.set_cons_zero, e, lp_nx]
    exact ih
noncomputable def slf (t : Str) (v : Int) : D → D
  | .int j => .str (Txt.slice t none (some (1 + v % 4 + j)))
  | _ => .non
theorem names_eq (c : Int) (G : DH) : ∃ ws : List Str, ws.length = 5 ∧ (∀ s ∈ ws, PyData.strOk s = true ∧ s.length ≤ 21) ∧ m__law_names [.int c] G = .ok (.con (ws.map .str)) G := by
  have z0 : (0 : Nat) ≤ sizeLine := Nat.zero_le _
  have m40 := mix_eq c 40 (by omega) (by omega)
  have m41 := mix_eq c 41 (by omega) (by omega)
  have m42 := mix_eq c 42 (by omega) (by omega)
  have m43 := mix_eq c 43 (by omega) (by omega)
  have n41 := mx_nn c 41
  have n42 := mx_nn c 42
  by_cases h0 : mx c 40 % 3 = 0
  · obtain ⟨u, b3, ku, lu, e1⟩ := word_loop c (G ++ [.lst []]) (some (.obj G.length)) none none none none 7 0 "q" none (by omega) (by decide +kernel) (by decide +kernel)
    have hr := rng1_of (j := 7) (by omega) (by omega)
    rw [show (7 : Int).toNat = 7 from rfl] at hr
    generalize ((List.range' 0 7).map fun (k : Nat) => D.int (0 + (k : Int))) = its at hr e1
    have hr5 := rng1_of (j := 5) (by omega) (by omega)
    rw [show (5 : Int).toNat = 5 from rfl] at hr5
    have hsz : u.length ≤ sizeLine := lz (by omega)
    generalize hτ : ([some (.int c), some (.obj G.length), some (.str u), b3, none, none, none, none] : DS) = τ at e1
    have hc : ∀ G1, eFn (eCompR rng1 oN [true, false, true] (aCons (eC (.int 5)) (aNil)) (tYes) (eFn (eSl (eVar 3) (oNone) (oSome (eOp dAddX (eOp dAddX (eC (.int 1)) (eOp dMod (eCall 2 m__law_mix (aCons (eVar 1) (aCons (eC (.int 43)) (aNil)))) (eC (.int 4)))) (eVar 0)))))) τ G1 = .ok (.con (((List.range' 0 5).map fun (k : Nat) => D.int (0 + (k : Int))).map (slf u (mx c 43)))) G1 := fun G1 => by
      have c1 := compP_map (τ := τ) (G := G1) (gO := oN) (ks := [true, false, true]) (te := eFn (eSl (eVar 3) (oNone) (oSome (eOp dAddX (eOp dAddX (eC (.int 1)) (eOp dMod (eCall 2 m__law_mix (aCons (eVar 1) (aCons (eC (.int 43)) (aNil)))) (eC (.int 4)))) (eVar 0))))) (own := fun x => [x]) (f := slf u (mx c 43)) ((List.range' 0 5).map fun (k : Nat) => D.int (0 + (k : Int))) [] (by simp) (fun x _ => rfl) (fun x hx acc => by
        obtain ⟨i, hi, rfl⟩ := List.mem_map.mp hx
        subst hτ
        generalize (0 + (i : Int)) = ii
        simp [sSeq_l, sq_nx, sq_rt, sq_st, sq_bk, sq_ct, sq_xn, sIf_l, cs_t, cs_f, cs_x, sSet_l, st_ok, st_x, sExpr_l, xp_ok, xp_x, sRet_l, rn_ok, rn_x, sSkip_l, sRetN_l, bd_ok, bd_x, bd_s, bind_l, ret_l, stop_l, eVar_l, eC_l, eOp_l, eArgs_l, aNil_l, aCons_l, tBl_l, asBl_b, tTruth_l, tNotD_l, tOrD_l, tAndD_l, eIsi_l, eCall_l, eMethT_l, eIf_l, sForRng_l, sForIn_l, sForV_l, sb_ok, sb_x, eComp_l, eCompR_l, eCompV_l, runB_l, fn_nx, fn_rt, fn_x, eSl_l, oNone_l, oSome_l, asInt_i, eNeg_l, neg1_i, iEnum_l, eCallV_l, sRaise_l, eUn_l, sWhile_l, whB_l, lp_nx, lp_ct, lp_bk, lp_rt, lp_xn, fw_tup, fw_con, fw_str, fw_int, fz_at, iRev_l, iZip_l, iEnumX_l, iRng3_l, eDNew_l, eDGet2_l, sDPut_l, eFz_l, dTru, dIx, seqOf, dInt2, dInt2L, dLen, dAddX, dTup, kindOk, dAppend, dPop, dIsi, tyD, Ty.is, eFn_l, mask, m43, dSl, slf, hsz])
      rw [eFn_l]
      have e2 : eCompR rng1 oN [true, false, true] (aCons (eC (.int 5)) (aNil)) (tYes) (eFn (eSl (eVar 3) (oNone) (oSome (eOp dAddX (eOp dAddX (eC (.int 1)) (eOp dMod (eCall 2 m__law_mix (aCons (eVar 1) (aCons (eC (.int 43)) (aNil)))) (eC (.int 4)))) (eVar 0))))) τ G1 = .ok (.obj G1.length) (G1 ++ [.lst (((List.range' 0 5).map fun (k : Nat) => D.int (0 + (k : Int))).map (slf u (mx c 43)))]) := by
        simp only [List.nil_append] at c1
        rw [← c1]
        simp only [eCompR_l, aCons_l, aNil_l, eC_l, bd_ok, bind_l, ret_l, hr5]
      rw [e2, fw_new]
      rw [List.map_map]
      exact closedL_map fun _ => closed_str
    have ex : ((List.range' 0 5).map fun (k : Nat) => D.int (0 + (k : Int))).map (slf u (mx c 43)) = ((List.range' 0 5).map fun (k : Nat) => Txt.slice u none (some (1 + mx c 43 % 4 + (0 + (k : Int))))).map .str := by
      rw [List.map_map, List.map_map]; rfl
    rw [ex] at hc
    refine ⟨(List.range' 0 5).map fun (k : Nat) => Txt.slice u none (some (1 + mx c 43 % 4 + (0 + (k : Int)))), by simp, fun s hs => ?_, ?_⟩
    · obtain ⟨i, _, rfl⟩ := List.mem_map.mp hs
      exact ⟨slice_ok u _ _ ku, Nat.le_trans (Txt.slice_le u _ _) (by omega)⟩
    · refine pure_of (R := [.lst []]) ?_ (by rw [closed_con]; exact closedL_map fun _ => closed_str)
      generalize (((List.range' 0 5).map fun (k : Nat) => Txt.slice u none (some (1 + mx c 43 % 4 + (0 + (k : Int))))).map D.str) = ws at hc
      generalize hC : eFn (eCompR rng1 oN [true, false, true] (aCons (eC (.int 5)) (aNil)) (tYes) (eFn (eSl (eVar 3) (oNone) (oSome (eOp dAddX (eOp dAddX (eC (.int 1)) (eOp dMod (eCall 2 m__law_mix (aCons (eVar 1) (aCons (eC (.int 43)) (aNil)))) (eC (.int 4)))) (eVar 0)))))) = C at hc
      subst hτ
      unfold b__law_names I0__law_names
      rw [hC]
      have hn : dNew [] G = .ok (.obj G.length) (G ++ [.lst []]) := if_pos z0
      simp [sSeq_l, sq_nx, sq_rt, sq_st, sq_bk, sq_ct, sq_xn, sIf_l, cs_t, cs_f, cs_x, sSet_l, st_ok, st_x, sExpr_l, xp_ok, xp_x, sRet_l, rn_ok, rn_x, sSkip_l, sRetN_l, bd_ok, bd_x, bd_s, bind_l, ret_l, stop_l, eVar_l, eC_l, eOp_l, eArgs_l, aNil_l, aCons_l, tBl_l, asBl_b, tTruth_l, tNotD_l, tOrD_l, tAndD_l, eIsi_l, eCall_l, eMethT_l, eIf_l, sForRng_l, sForIn_l, sForV_l, sb_ok, sb_x, eComp_l, eCompR_l, eCompV_l, runB_l, fn_nx, fn_rt, fn_x, eSl_l, oNone_l, oSome_l, asInt_i, eNeg_l, neg1_i, iEnum_l, eCallV_l, sRaise_l, eUn_l, sWhile_l, whB_l, lp_nx, lp_ct, lp_bk, lp_rt, lp_xn, fw_tup, fw_con, fw_str, fw_int, fz_at, iRev_l, iZip_l, iEnumX_l, iRng3_l, eDNew_l, eDGet2_l, sDPut_l, eFz_l, dTru, dIx, seqOf, dInt2, dInt2L, dLen, dAddX, dTup, kindOk, dAppend, dPop, dIsi, tyD, Ty.is, hn, m40, dEq_int, h0, hr, e1, hc]
  · have hw1 : 0 ≤ 1 + mx c 41 % 8 := by omega
    have hw2 : 1 + mx c 41 % 8 ≤ 8 := by omega
    have hw3 : 0 < 1 + mx c 41 % 8 := by omega
    obtain ⟨us, b3, b6, b7, hul, hus, e1⟩ := names_loop c (1 + mx c 41 % 8) (mx c 42 % (1 + mx c 41 % 8)) hw1 hw2 G none 5 0 [] none none none (by omega) rfl (fun s h => by simp at h)
    have hr5 := rng1_of (j := 5) (by omega) (by omega)
    rw [show (5 : Int).toNat = 5 from rfl] at hr5
    generalize ((List.range' 0 5).map fun (k : Nat) => D.int (0 + (k : Int))) = its at hr5 e1
    generalize hww : 1 + mx c 41 % 8 = w at e1 hw1 hw2 hw3
    generalize hpp : mx c 42 % w = pp at e1
    refine ⟨us, hul, hus, pure_of (R := [.dead]) ?_ (by rw [closed_con]; exact closedL_map fun _ => closed_str)⟩
    have hn : dNew [] G = .ok (.obj G.length) (G ++ [.lst []]) := if_pos z0
    have h0' : (mx c 40 % 3 == 0) = false := by simpa using h0
    unfold b__law_names
    simp only [List.map_nil] at e1
    simp [sSeq_l, sq_nx, sq_rt, sq_st, sq_bk, sq_ct, sq_xn, sIf_l, cs_t, cs_f, cs_x, sSet_l, st_ok, st_x, sExpr_l, xp_ok, xp_x, sRet_l, rn_ok, rn_x, sSkip_l, sRetN_l, bd_ok, bd_x, bd_s, bind_l, ret_l, stop_l, eVar_l, eC_l, eOp_l, eArgs_l, aNil_l, aCons_l, tBl_l, asBl_b, tTruth_l, tNotD_l, tOrD_l, tAndD_l, eIsi_l, eCall_l, eMethT_l, eIf_l, sForRng_l, sForIn_l, sForV_l, sb_ok, sb_x, eComp_l, eCompR_l, eCompV_l, runB_l, fn_nx, fn_rt, fn_x, eSl_l, oNone_l, oSome_l, asInt_i, eNeg_l, neg1_i, iEnum_l, eCallV_l, sRaise_l, eUn_l, sWhile_l, whB_l, lp_nx, lp_ct, lp_bk, lp_rt, lp_xn, fw_tup, fw_con, fw_str, fw_int, fz_at, iRev_l, iZip_l, iEnumX_l, iRng3_l, eDNew_l, eDGet2_l, sDPut_l, eFz_l, dTru, dIx, seqOf, dInt2, dInt2L, dLen, dAddX, dTup, kindOk, dAppend, dPop, dIsi, tyD, Ty.is, hn, m40, m41, m42, dEq_int, h0', hr5, hww, hpp, hw3, e1]
end K31
end
section
set_option Elab.async false
set_option linter.all false
set_option maxRecDepth 100000
set_option maxHeartbeats 1000000
namespace K31
open PySem PySem.Spec L2 L3
noncomputable def row (p : Nat × Str) : D := .tup [.int p.1, .str p.2]
inductive Val : List (Nat × Str) → Nat → Prop
  | one (k : Str) : Val [(0, k)] 0
  | snoc {rs : List (Nat × Str)} {e d : Nat} (k : Str) : Val rs e → 1 ≤ d → d ≤ e + 1 → Val (rs ++ [(d, k)]) d
theorem Val.last {rs : List (Nat × Str)} {e : Nat} (h : Val rs e) : ∃ a s, rs = a ++ [(e, s)] := by
  cases h with
  | one k => exact ⟨[], k, rfl⟩
  | snoc k h1 h2 h3 => exact ⟨_, k, rfl⟩
theorem atI_last {α : Type} (xs : List α) (x : α) : atI (xs ++ [x]) (-1) = some x := by
  have h : ixN (xs ++ [x]).length (-1) = some xs.length := by
    unfold ixN
    simp
    omega
  unfold atI
  rw [h]
  simp
theorem sSeq_assoc {a b c : MS} {τ : DS} {G : DH} : sSeq a (sSeq b c) τ G = (sSeq a b τ G).sq c := by
  simp only [sSeq_l]
  cases a τ G with
  | nx τ' G' => simp only [sq_nx, sSeq_l]
  | _ => rfl
theorem rows_turn (c : Int) (ws : List Str) (hws : ws.length = 5) (hok : ∀ s ∈ ws, PyData.strOk s = true ∧ s.length ≤ 21) (most : Int) (hm1 : most ≤ 100) (G : DH) (a0 a5 a7 : Option D) (j : Nat) (hj : j ≤ 100) (rs : List (Nat × Str)) (e : Nat) (hv : Val rs e) (hl : (rs.length : Int) ≤ 100) (hs : ∀ p ∈ rs, PyData.strOk p.2 = true)
    (hi : j = 0 ∨ 1 ≤ e ∨ most ≤ rs.length) : ∃ (rs' : List (Nat × Str)) (e' : Nat) (b7 : Option D), Val rs' e' ∧ (rs'.length : Int) ≤ 100 ∧ (∀ p ∈ rs', PyData.strOk p.2 = true) ∧ (1 ≤ e' ∨ most ≤ rs'.length) ∧
      L1__law_rows [a0, some (.con (ws.map .str)), some (.int most), some (.obj G.length), some (.int c), a5, some (.int (j : Int)), a7] (G ++ [.lst (rs.map row)]) = .nx [a0, some (.con (ws.map .str)), some (.int most), some (.obj G.length), some (.int c), a5, some (.int (j : Int)), b7] (G ++ [.lst (rs'.map row)]) := by
  obtain ⟨ini, s0, hrs⟩ := hv.last
  have m4 := mix_eq c 4 (by omega) (by omega)
  have m6 := mix_eq c 6 (by omega) (by omega)
  have m7 := mix_eq c (7 + (j : Int)) (by omega) (by omega)
  have n4 := mx_nn c 4
  have n6 := mx_nn c 6
  have n7 := mx_nn c (7 + (j : Int))
  have hla : atI (rs.map row) (-1) = some (.tup [.int (e : Int), .str s0]) := by
    rw [hrs, List.map_append, List.map_cons, List.map_nil, atI_last]; rfl
  have he1 : (0 : Int) < (e : Int) + 1 := by omega
  obtain ⟨nv, en, en2⟩ := atI_some (xs := ws.map D.str) (i := mx c (7 + (j : Int)) % 4) (by omega) (by simp [hws]; omega)
  obtain ⟨nm, enm, rfl⟩ : ∃ nm, nm ∈ ws ∧ D.str nm = nv := by
    have := List.mem_of_getElem? en2
    obtain ⟨a, b, c⟩ := List.mem_map.mp this
    exact ⟨a, b, c⟩
  have a0' : atI [D.int (e : Int), D.str s0] 0 = some (.int (e : Int)) := by
    have := atI_nat (xs := [D.int (e : Int), D.str s0]) (j := 0) (v := .int (e : Int)) rfl
    simpa using this
  have key : ∃ d : Nat, d ≤ e + 1 ∧ ((rs.length : Int) < most → 1 ≤ d) ∧ (sSeq (sSet 7 (eOp dAddX (eC (.int 1)) (eOp dMod (eCall 2 m__law_mix (aCons (eVar 4) (aCons (eC (.int 4)) (aNil)))) (eOp dAddX (eOp dIx (eOp dIx (eVar 3) (eNeg (eC (.int 1)))) (eC (.int 0))) (eC (.int 1)))))) (sIf (tBl (eOp dGt (eVar 6) (eC (.int 0)))) (sSet 7 (eOp dAddX (eOp dIx (eOp dIx (eVar 3) (eNeg (eC (.int 1)))) (eC (.int 0))) (eOp dMod (eCall 2 m__law_mix (aCons (eVar 4) (aCons (eC (.int 6)) (aNil)))) (eC (.int 2))))) (sSkip)))
      [a0, some (.con (ws.map .str)), some (.int most), some (.obj G.length), some (.int c), a5, some (.int (j : Int)), a7] (G ++ [.lst (rs.map row)]) = .nx [a0, some (.con (ws.map .str)), some (.int most), some (.obj G.length), some (.int c), a5, some (.int (j : Int)), some (.int (d : Int))] (G ++ [.lst (rs.map row)]) := by
    have q1 : 0 ≤ mx c 4 % ((e : Int) + 1) := Int.emod_nonneg _ (by omega)
    have q2 : mx c 4 % ((e : Int) + 1) < (e : Int) + 1 := Int.emod_lt_of_pos _ he1
    by_cases hj0 : j = 0
    · refine ⟨(1 + mx c 4 % ((e : Int) + 1)).toNat, by omega, by omega, ?_⟩
      have et : (((1 + mx c 4 % ((e : Int) + 1)).toNat : Nat) : Int) = 1 + mx c 4 % ((e : Int) + 1) := by omega
      rw [et]
      subst hj0
      simp [sSeq_l, sq_nx, sq_rt, sq_st, sq_bk, sq_ct, sq_xn, sIf_l, cs_t, cs_f, cs_x, sSet_l, st_ok, st_x, sExpr_l, xp_ok, xp_x, sRet_l, rn_ok, rn_x, sSkip_l, sRetN_l, bd_ok, bd_x, bd_s, bind_l, ret_l, stop_l, eVar_l, eC_l, eOp_l, eArgs_l, aNil_l, aCons_l, tBl_l, asBl_b, tTruth_l, tNotD_l, tOrD_l, tAndD_l, eIsi_l, eCall_l, eMethT_l, eIf_l, sForRng_l, sForIn_l, sForV_l, sb_ok, sb_x, eComp_l, eCompR_l, eCompV_l, runB_l, fn_nx, fn_rt, fn_x, eSl_l, oNone_l, oSome_l, asInt_i, eNeg_l, neg1_i, iEnum_l, eCallV_l, sRaise_l, eUn_l, sWhile_l, whB_l, lp_nx, lp_ct, lp_bk, lp_rt, lp_xn, fw_tup, fw_con, fw_str, fw_int, fz_at, iRev_l, iZip_l, iEnumX_l, iRng3_l, eDNew_l, eDGet2_l, sDPut_l, eFz_l, dTru, dIx, seqOf, dInt2, dInt2L, dLen, dAddX, dTup, kindOk, dAppend, dPop, dIsi, tyD, Ty.is, m4, hla, a0', he1]
    · refine ⟨(e + mx c 6 % 2).toNat, by omega, by omega, ?_⟩
      have et : (((e + mx c 6 % 2).toNat : Nat) : Int) = e + mx c 6 % 2 := by omega
      rw [et]
      have hj1 : 0 < j := by omega
      have hj2 : (0 : Int) < (j : Int) := by omega
      simp [sSeq_l, sq_nx, sq_rt, sq_st, sq_bk, sq_ct, sq_xn, sIf_l, cs_t, cs_f, cs_x, sSet_l, st_ok, st_x, sExpr_l, xp_ok, xp_x, sRet_l, rn_ok, rn_x, sSkip_l, sRetN_l, bd_ok, bd_x, bd_s, bind_l, ret_l, stop_l, eVar_l, eC_l, eOp_l, eArgs_l, aNil_l, aCons_l, tBl_l, asBl_b, tTruth_l, tNotD_l, tOrD_l, tAndD_l, eIsi_l, eCall_l, eMethT_l, eIf_l, sForRng_l, sForIn_l, sForV_l, sb_ok, sb_x, eComp_l, eCompR_l, eCompV_l, runB_l, fn_nx, fn_rt, fn_x, eSl_l, oNone_l, oSome_l, asInt_i, eNeg_l, neg1_i, iEnum_l, eCallV_l, sRaise_l, eUn_l, sWhile_l, whB_l, lp_nx, lp_ct, lp_bk, lp_rt, lp_xn, fw_tup, fw_con, fw_str, fw_int, fz_at, iRev_l, iZip_l, iEnumX_l, iRng3_l, eDNew_l, eDGet2_l, sDPut_l, eFz_l, dTru, dIx, seqOf, dInt2, dInt2L, dLen, dAddX, dTup, kindOk, dAppend, dPop, dIsi, tyD, Ty.is, m4, m6, hla, a0', he1, hj1, hj2]
  obtain ⟨d, hd1, hd2, ek⟩ := key
  have h2 : (2 : Nat) ≤ sizeLine := lz (by omega)
  have hz : rs.length < sizeLine := Nat.lt_of_lt_of_le (by omega) (lz (n := 101) (by omega))
  by_cases hc : (rs.length : Int) < most
  · refine ⟨rs ++ [(d, nm)], d, some (.int (d : Int)), .snoc nm hv (hd2 hc) hd1, by simp; omega, fun p hp => ?_, .inl (hd2 hc), ?_⟩
    · rcases List.mem_append.mp hp with h | h
      · exact hs p h
      · rw [List.mem_singleton.mp h]; exact (hok nm enm).1
    · unfold L1__law_rows
      rw [sSeq_assoc, ek, sq_nx]
      simp [sSeq_l, sq_nx, sq_rt, sq_st, sq_bk, sq_ct, sq_xn, sIf_l, cs_t, cs_f, cs_x, sSet_l, st_ok, st_x, sExpr_l, xp_ok, xp_x, sRet_l, rn_ok, rn_x, sSkip_l, sRetN_l, bd_ok, bd_x, bd_s, bind_l, ret_l, stop_l, eVar_l, eC_l, eOp_l, eArgs_l, aNil_l, aCons_l, tBl_l, asBl_b, tTruth_l, tNotD_l, tOrD_l, tAndD_l, eIsi_l, eCall_l, eMethT_l, eIf_l, sForRng_l, sForIn_l, sForV_l, sb_ok, sb_x, eComp_l, eCompR_l, eCompV_l, runB_l, fn_nx, fn_rt, fn_x, eSl_l, oNone_l, oSome_l, asInt_i, eNeg_l, neg1_i, iEnum_l, eCallV_l, sRaise_l, eUn_l, sWhile_l, whB_l, lp_nx, lp_ct, lp_bk, lp_rt, lp_xn, fw_tup, fw_con, fw_str, fw_int, fz_at, iRev_l, iZip_l, iEnumX_l, iRng3_l, eDNew_l, eDGet2_l, sDPut_l, eFz_l, dTru, dIx, seqOf, dInt2, dInt2L, dLen, dAddX, dTup, kindOk, dAppend, dPop, dIsi, tyD, Ty.is, hc, m7, en, h2, hz, row]
  · refine ⟨rs, e, some (.int (d : Int)), hv, hl, hs, .inr (by omega), ?_⟩
    unfold L1__law_rows
    rw [sSeq_assoc, ek, sq_nx]
    simp [sSeq_l, sq_nx, sq_rt, sq_st, sq_bk, sq_ct, sq_xn, sIf_l, cs_t, cs_f, cs_x, sSet_l, st_ok, st_x, sExpr_l, xp_ok, xp_x, sRet_l, rn_ok, rn_x, sSkip_l, sRetN_l, bd_ok, bd_x, bd_s, bind_l, ret_l, stop_l, eVar_l, eC_l, eOp_l, eArgs_l, aNil_l, aCons_l, tBl_l, asBl_b, tTruth_l, tNotD_l, tOrD_l, tAndD_l, eIsi_l, eCall_l, eMethT_l, eIf_l, sForRng_l, sForIn_l, sForV_l, sb_ok, sb_x, eComp_l, eCompR_l, eCompV_l, runB_l, fn_nx, fn_rt, fn_x, eSl_l, oNone_l, oSome_l, asInt_i, eNeg_l, neg1_i, iEnum_l, eCallV_l, sRaise_l, eUn_l, sWhile_l, whB_l, lp_nx, lp_ct, lp_bk, lp_rt, lp_xn, fw_tup, fw_con, fw_str, fw_int, fz_at, iRev_l, iZip_l, iEnumX_l, iRng3_l, eDNew_l, eDGet2_l, sDPut_l, eFz_l, dTru, dIx, seqOf, dInt2, dInt2L, dLen, dAddX, dTup, kindOk, dAppend, dPop, dIsi, tyD, Ty.is, hc]
theorem rows_inner (c : Int) (ws : List Str) (hws : ws.length = 5) (hok : ∀ s ∈ ws, PyData.strOk s = true ∧ s.length ≤ 21) (most : Int) (hm1 : most ≤ 100) (G : DH) (a0 a5 : Option D) : ∀ (m j : Nat) (rs : List (Nat × Str)) (e : Nat) (a6 a7 : Option D), j + m ≤ 100 → Val rs e → (rs.length : Int) ≤ 100 → (∀ p ∈ rs, PyData.strOk p.2 = true) → (j = 0 ∨ 1 ≤ e ∨ most ≤ rs.length) →
    ∃ (rs' : List (Nat × Str)) (e' : Nat) (b6 b7 : Option D), Val rs' e' ∧ (rs'.length : Int) ≤ 100 ∧ (∀ p ∈ rs', PyData.strOk p.2 = true) ∧
      forP (gN 6) L1__law_rows ((List.range' j m).map fun (k : Nat) => .int (0 + (k : Int))) [a0, some (.con (ws.map .str)), some (.int most), some (.obj G.length), some (.int c), a5, a6, a7] (G ++ [.lst (rs.map row)]) = .nx [a0, some (.con (ws.map .str)), some (.int most), some (.obj G.length), some (.int c), a5, b6, b7] (G ++ [.lst (rs'.map row)])
  | 0, j, rs, e, a6, a7, h, hv, hl, hs, hi => ⟨rs, e, a6, a7, hv, hl, hs, by simp [forP]⟩
  | m + 1, j, rs, e, a6, a7, h, hv, hl, hs, hi => by
    obtain ⟨rs1, e1, b7, hv1, hl1, hs1, hi1, r1⟩ := rows_turn c ws hws hok most hm1 G a0 a5 a7 j (by omega) rs e hv hl hs hi
    obtain ⟨rs2, e2, c6, c7, hv2, hl2, hs2, r2⟩ := rows_inner c ws hws hok most hm1 G a0 a5 m (j + 1) rs1 e1 (some (.int (j : Int))) b7 (by omega) hv1 hl1 hs1 (.inr hi1)
    refine ⟨rs2, e2, c6, c7, hv2, hl2, hs2, ?_⟩
    rw [List.range'_succ, List.map_cons, forP_cons rfl]
    simp only [List.set_cons_succ, List.set_cons_zero, Int.zero_add, r1, lp_nx]
    simp only [Int.zero_add] at r2
    exact r2
theorem rows_outer (ws : List Str) (hws : ws.length = 5) (hok : ∀ s ∈ ws, PyData.strOk s = true ∧ s.length ≤ 21) (most : Int) (hm1 : most ≤ 100) (G : DH) (a0 : Option D) : ∀ (cs : List Int) (rs : List (Nat × Str)) (e : Nat) (a4 a5 a6 a7 : Option D), Val rs e → (rs.length : Int) ≤ 100 → (∀ p ∈ rs, PyData.strOk p.2 = true) →
    ∃ (rs' : List (Nat × Str)) (e' : Nat) (b4 b5 b6 b7 : Option D), Val rs' e' ∧ (rs'.length : Int) ≤ 100 ∧ (∀ p ∈ rs', PyData.strOk p.2 = true) ∧
      forP (gN 4) L0__law_rows (cs.map .int) [a0, some (.con (ws.map .str)), some (.int most), some (.obj G.length), a4, a5, a6, a7] (G ++ [.lst (rs.map row)]) = .nx [a0, some (.con (ws.map .str)), some (.int most), some (.obj G.length), b4, b5, b6, b7] (G ++ [.lst (rs'.map row)])
  | [], rs, e, a4, a5, a6, a7, hv, hl, hs => ⟨rs, e, a4, a5, a6, a7, hv, hl, hs, by simp [forP]⟩
  | c :: cs, rs, e, a4, a5, a6, a7, hv, hl, hs => by
    have m2 := mix_eq c 2 (by omega) (by omega)
    have m3 := mix_eq c 3 (by omega) (by omega)
    have n3 := mx_nn c 3
    have key : ∃ mn : Int, 0 ≤ mn ∧ mn ≤ 24 ∧ ∀ G1, (sSeq (sSet 5 (eC (.int 1))) (sIf (tBl (eOp (dEq false) (eOp dMod (eCall 2 m__law_mix (aCons (eVar 4) (aCons (eC (.int 2)) (aNil)))) (eC (.int 12))) (eC (.int 5)))) (sSet 5 (eOp dAddX (eC (.int 1)) (eOp dMod (eCall 2 m__law_mix (aCons (eVar 4) (aCons (eC (.int 3)) (aNil)))) (eC (.int 24))))) (sSkip)))
        [a0, some (.con (ws.map .str)), some (.int most), some (.obj G.length), some (.int c), a5, a6, a7] G1 = .nx [a0, some (.con (ws.map .str)), some (.int most), some (.obj G.length), some (.int c), some (.int mn), a6, a7] G1 := by
      by_cases h5 : mx c 2 % 12 = 5
      · refine ⟨1 + mx c 3 % 24, by omega, by omega, fun G1 => ?_⟩
        simp [sSeq_l, sq_nx, sq_rt, sq_st, sq_bk, sq_ct, sq_xn, sIf_l, cs_t, cs_f, cs_x, sSet_l, st_ok, st_x, sExpr_l, xp_ok, xp_x, sRet_l, rn_ok, rn_x, sSkip_l, sRetN_l, bd_ok, bd_x, bd_s, bind_l, ret_l, stop_l, eVar_l, eC_l, eOp_l, eArgs_l, aNil_l, aCons_l, tBl_l, asBl_b, tTruth_l, tNotD_l, tOrD_l, tAndD_l, eIsi_l, eCall_l, eMethT_l, eIf_l, sForRng_l, sForIn_l, sForV_l, sb_ok, sb_x, eComp_l, eCompR_l, eCompV_l, runB_l, fn_nx, fn_rt, fn_x, eSl_l, oNone_l, oSome_l, asInt_i, eNeg_l, neg1_i, iEnum_l, eCallV_l, sRaise_l, eUn_l, sWhile_l, whB_l, lp_nx, lp_ct, lp_bk, lp_rt, lp_xn, fw_tup, fw_con, fw_str, fw_int, fz_at, iRev_l, iZip_l, iEnumX_l, iRng3_l, eDNew_l, eDGet2_l, sDPut_l, eFz_l, dTru, dIx, seqOf, dInt2, dInt2L, dLen, dAddX, dTup, kindOk, dAppend, dPop, dIsi, tyD, Ty.is, m2, m3, dEq_int, h5]
      · have h5' : (mx c 2 % 12 == 5) = false := by simpa using h5
        refine ⟨1, by omega, by omega, fun G1 => ?_⟩
        simp [sSeq_l, sq_nx, sq_rt, sq_st, sq_bk, sq_ct, sq_xn, sIf_l, cs_t, cs_f, cs_x, sSet_l, st_ok, st_x, sExpr_l, xp_ok, xp_x, sRet_l, rn_ok, rn_x, sSkip_l, sRetN_l, bd_ok, bd_x, bd_s, bind_l, ret_l, stop_l, eVar_l, eC_l, eOp_l, eArgs_l, aNil_l, aCons_l, tBl_l, asBl_b, tTruth_l, tNotD_l, tOrD_l, tAndD_l, eIsi_l, eCall_l, eMethT_l, eIf_l, sForRng_l, sForIn_l, sForV_l, sb_ok, sb_x, eComp_l, eCompR_l, eCompV_l, runB_l, fn_nx, fn_rt, fn_x, eSl_l, oNone_l, oSome_l, asInt_i, eNeg_l, neg1_i, iEnum_l, eCallV_l, sRaise_l, eUn_l, sWhile_l, whB_l, lp_nx, lp_ct, lp_bk, lp_rt, lp_xn, fw_tup, fw_con, fw_str, fw_int, fz_at, iRev_l, iZip_l, iEnumX_l, iRng3_l, eDNew_l, eDGet2_l, sDPut_l, eFz_l, dTru, dIx, seqOf, dInt2, dInt2L, dLen, dAddX, dTup, kindOk, dAppend, dPop, dIsi, tyD, Ty.is, m2, dEq_int, h5']
    obtain ⟨mn, hn1, hn2, ek⟩ := key
    obtain ⟨rs1, e1, b6, b7, hv1, hl1, hs1, r1⟩ := rows_inner c ws hws hok most hm1 G a0 (some (.int mn)) mn.toNat 0 rs e a6 a7 (by omega) hv hl hs (.inl rfl)
    obtain ⟨rs2, e2, c4, c5, c6, c7, hv2, hl2, hs2, r2⟩ := rows_outer ws hws hok most hm1 G a0 cs rs1 e1 (some (.int c)) (some (.int mn)) b6 b7 hv1 hl1 hs1
    refine ⟨rs2, e2, c4, c5, c6, c7, hv2, hl2, hs2, ?_⟩
    have hr := rng1_of (j := mn) hn1 (by omega)
    generalize ((List.range' 0 mn.toNat).map fun (k : Nat) => D.int (0 + (k : Int))) = its at hr r1
    rw [List.map_cons, forP_cons rfl]
    have el : L0__law_rows [a0, some (.con (ws.map .str)), some (.int most), some (.obj G.length), some (.int c), a5, a6, a7] (G ++ [.lst (rs.map row)]) = .nx [a0, some (.con (ws.map .str)), some (.int most), some (.obj G.length), some (.int c), some (.int mn), b6, b7] (G ++ [.lst (rs1.map row)]) := by
      unfold L0__law_rows
      rw [sSeq_assoc, ek, sq_nx]
      simp only [sForRng_l, aCons_l, aNil_l, eVar_l, bd_ok, bind_l, ret_l, List.getElem?_cons_succ, List.getElem?_cons_zero, sb_ok, hr, r1]
    simp only [List.set_cons_succ, List.set_cons_zero, el, lp_nx]
    exact r2
theorem rows_eq (cs : List Int) (hcs : 1 ≤ cs.length) (ws : List Str) (hws : ws.length = 5) (hok : ∀ s ∈ ws, PyData.strOk s = true ∧ s.length ≤ 21) (most : Int) (hm1 : most ≤ 100) (G : DH) :
    ∃ (rs : List (Nat × Str)) (e : Nat), Val rs e ∧ rs.length ≤ 100 ∧ (∀ p ∈ rs, PyData.strOk p.2 = true) ∧ m__law_rows [.con (cs.map .int), .con (ws.map .str), .int most] G = .ok (.con (rs.map row)) G := by
  have z1 : (1 : Nat) ≤ sizeLine := lz (by omega)
  have z2 : (2 : Nat) ≤ sizeLine := lz (by omega)
  have hc0 := atI_map cs 0 (by omega)
  rw [show ((0 : Nat) : Int) = 0 from rfl] at hc0
  have m1 := mix_eq (cs.getD 0 0) 1 (by omega) (by omega)
  have n1 := mx_nn (cs.getD 0 0) 1
  generalize cs.getD 0 0 = c0 at hc0 m1 n1
  obtain ⟨nv, en, en2⟩ := atI_some (xs := ws.map D.str) (i := mx c0 1 % 4) (by omega) (by simp [hws]; omega)
  obtain ⟨nm, enm, rfl⟩ : ∃ nm, nm ∈ ws ∧ D.str nm = nv := by
    have := List.mem_of_getElem? en2
    obtain ⟨a, b, c⟩ := List.mem_map.mp this
    exact ⟨a, b, c⟩
  obtain ⟨rs, e, b4, b5, b6, b7, hv, hl, hs, r⟩ := rows_outer ws hws hok most hm1 G (some (.con (cs.map .int))) cs [(0, nm)] 0 none none none none (.one nm) (by simp) (fun p hp => by rw [List.mem_singleton.mp hp]; exact (hok nm enm).1)
  refine ⟨rs, e, hv, by omega, hs, pure_of (R := [.dead]) ?_ (by rw [closed_con]; exact closedL_map fun p => by rw [row, closed_tup]; simp [closedL_cons, closed_int, closed_str, closedL_nil])⟩
  have hn : dNew [.tup [.int 0, .str nm]] G = .ok (.obj G.length) (G ++ [.lst [.tup [.int 0, .str nm]]]) := if_pos z1
  have er : ([(0, nm)].map row : List D) = [.tup [.int 0, .str nm]] := rfl
  rw [er] at r
  unfold b__law_rows
  simp [sSeq_l, sq_nx, sq_rt, sq_st, sq_bk, sq_ct, sq_xn, sIf_l, cs_t, cs_f, cs_x, sSet_l, st_ok, st_x, sExpr_l, xp_ok, xp_x, sRet_l, rn_ok, rn_x, sSkip_l, sRetN_l, bd_ok, bd_x, bd_s, bind_l, ret_l, stop_l, eVar_l, eC_l, eOp_l, eArgs_l, aNil_l, aCons_l, tBl_l, asBl_b, tTruth_l, tNotD_l, tOrD_l, tAndD_l, eIsi_l, eCall_l, eMethT_l, eIf_l, sForRng_l, sForIn_l, sForV_l, sb_ok, sb_x, eComp_l, eCompR_l, eCompV_l, runB_l, fn_nx, fn_rt, fn_x, eSl_l, oNone_l, oSome_l, asInt_i, eNeg_l, neg1_i, iEnum_l, eCallV_l, sRaise_l, eUn_l, sWhile_l, whB_l, lp_nx, lp_ct, lp_bk, lp_rt, lp_xn, fw_tup, fw_con, fw_str, fw_int, fz_at, iRev_l, iZip_l, iEnumX_l, iRng3_l, eDNew_l, eDGet2_l, sDPut_l, eFz_l, dTru, dIx, seqOf, dInt2, dInt2L, dLen, dAddX, dTup, kindOk, dAppend, dPop, dIsi, tyD, Ty.is, hc0, m1, en, z2, hn, r]
end K31
end
section
set_option Elab.async false
set_option linter.all false
set_option maxRecDepth 100000
set_option maxHeartbeats 1000000
namespace K31
open PySem PySem.Spec L2 L3
inductive T where
  | nd (k : Str) (ps : List T)
mutual
noncomputable def T.d : T → D
  | .nd k ps => .tup [.str k, .tup (dL ps)]
noncomputable def dL : List T → List D
  | [] => []
  | t :: r => t.d :: dL r
end
mutual
noncomputable def T.prs (p : List Int) : T → List (List Int × T)
  | .nd k ps => (p, .nd k ps) :: prsL p 0 ps
noncomputable def prsL (p : List Int) (j : Int) : List T → List (List Int × T)
  | [] => []
  | t :: r => t.prs (p ++ [j]) ++ prsL p (j + 1) r
end
mutual
noncomputable def T.pre (n : Nat) : T → List (Nat × Str)
  | .nd k ps => (n, k) :: preL (n + 1) ps
noncomputable def preL (n : Nat) : List T → List (Nat × Str)
  | [] => []
  | t :: r => t.pre n ++ preL n r
end
mutual
noncomputable def T.subs : T → List T
  | .nd k ps => .nd k ps :: subsL ps
noncomputable def subsL : List T → List T
  | [] => []
  | t :: r => t.subs ++ subsL r
end
theorem dL_map : ∀ ts : List T, dL ts = ts.map T.d
  | [] => rfl
  | t :: r => by rw [dL, dL_map r, List.map_cons]
mutual
theorem prs_subs (p : List Int) : ∀ t : T, (t.prs p).map (·.2) = t.subs
  | .nd k ps => by rw [T.prs, T.subs, List.map_cons, prsL_subs p 0 ps]
theorem prsL_subs (p : List Int) (j : Int) : ∀ ts : List T, (prsL p j ts).map (·.2) = subsL ts
  | [] => rfl
  | t :: r => by rw [prsL, subsL, List.map_append, prs_subs _ t, prsL_subs p (j + 1) r]
end
mutual
theorem pre_len (n : Nat) : ∀ t : T, (t.pre n).length = t.subs.length
  | .nd k ps => by rw [T.pre, T.subs, List.length_cons, List.length_cons, preL_len (n + 1) ps]
theorem preL_len (n : Nat) : ∀ ts : List T, (preL n ts).length = (subsL ts).length
  | [] => rfl
  | t :: r => by rw [preL, subsL, List.length_append, List.length_append, pre_len n t, preL_len n r]
end
mutual
theorem closed_d : ∀ t : T, t.d.closed = true
  | .nd k ps => by rw [T.d, closed_tup, closedL_cons, closedL_cons, closed_str, closed_tup, closed_dL ps]; rfl
theorem closed_dL : ∀ ts : List T, closedL (dL ts) = true
  | [] => rfl
  | t :: r => by rw [dL, closedL_cons, closed_d t, closed_dL r]; rfl
end
mutual
theorem plain_d (n : Nat) : ∀ t : T, (∀ p ∈ t.pre n, PyData.strOk p.2 = true) → t.d.plain = true
  | .nd k ps, h => by
    have hk : PyData.strOk k = true := h (n, k) (by simp [T.pre])
    have hp := plain_dL (n + 1) ps fun p hp => h p (by simp [T.pre, hp])
    simp [T.d, D.plain, plainL, hk, hp]
theorem plain_dL (n : Nat) : ∀ ts : List T, (∀ p ∈ preL n ts, PyData.strOk p.2 = true) → plainL (dL ts) = true
  | [], _ => rfl
  | t :: r, h => by
    have h1 := plain_d n t fun p hp => h p (by simp [preL, hp])
    have h2 := plain_dL n r fun p hp => h p (by simp [preL, hp])
    rw [dL, plainL, h1, h2]; rfl
end
mutual
theorem dp_d : ∀ t : T, t.d.dp ≤ 2 * t.subs.length
  | .nd k ps => by
    have := dp_dL ps
    simp [T.d, D.dp, dpL, T.subs]; omega
theorem dp_dL : ∀ ts : List T, dpL (dL ts) ≤ 2 * (subsL ts).length
  | [] => Nat.zero_le _
  | t :: r => by
    have h1 := dp_d t
    have h2 := dp_dL r
    rw [dL, dpL, subsL, List.length_append]; omega
end
mutual
theorem sub_le : ∀ (t s : T), s ∈ t.subs → s.subs.length ≤ t.subs.length
  | .nd k ps, s, h => by
    rw [T.subs] at h
    rcases List.mem_cons.mp h with rfl | h
    · exact Nat.le_refl _
    · have := subL_le ps s h
      rw [T.subs, List.length_cons]; omega
theorem subL_le : ∀ (ts : List T) (s : T), s ∈ subsL ts → s.subs.length ≤ (subsL ts).length
  | [], s, h => by simp [subsL] at h
  | t :: r, s, h => by
    rw [subsL] at h ⊢
    rw [List.length_append]
    rcases List.mem_append.mp h with h | h
    · have := sub_le t s h; omega
    · have := subL_le r s h; omega
end
mutual
noncomputable def T.good : T → Bool
  | .nd k ps => PyData.strOk k && goodL ps
noncomputable def goodL : List T → Bool
  | [] => true
  | t :: r => t.good && goodL r
end
mutual
theorem good_plain : ∀ t : T, t.good = true → t.d.plain = true
  | .nd k ps, h => by
    have h' : PyData.strOk k = true ∧ goodL ps = true := by simpa [T.good] using h
    have hp := goodL_plain ps h'.2
    simp [T.d, D.plain, plainL, h'.1, hp]
theorem goodL_plain : ∀ ts : List T, goodL ts = true → plainL (dL ts) = true
  | [], _ => rfl
  | t :: r, h => by
    have h' : t.good = true ∧ goodL r = true := by simpa [goodL] using h
    rw [dL, plainL, good_plain t h'.1, goodL_plain r h'.2]; rfl
end
mutual
theorem good_sub : ∀ (t s : T), t.good = true → s ∈ t.subs → s.good = true
  | .nd k ps, s, h, hs => by
    have h' : PyData.strOk k = true ∧ goodL ps = true := by simpa [T.good] using h
    rw [T.subs] at hs
    rcases List.mem_cons.mp hs with rfl | hs
    · exact h
    · exact goodL_sub ps s h'.2 hs
theorem goodL_sub : ∀ (ts : List T) (s : T), goodL ts = true → s ∈ subsL ts → s.good = true
  | [], s, _, hs => by simp [subsL] at hs
  | t :: r, s, h, hs => by
    have h' : t.good = true ∧ goodL r = true := by simpa [goodL] using h
    rw [subsL] at hs
    rcases List.mem_append.mp hs with hs | hs
    · exact good_sub t s h'.1 hs
    · exact goodL_sub r s h'.2 hs
end
mutual
theorem pre_good (n : Nat) : ∀ t : T, (∀ p ∈ t.pre n, PyData.strOk p.2 = true) → t.good = true
  | .nd k ps, h => by
    have hk : PyData.strOk k = true := h (n, k) (by simp [T.pre])
    have hp := preL_good (n + 1) ps fun p hp => h p (by simp [T.pre, hp])
    simp [T.good, hk, hp]
theorem preL_good (n : Nat) : ∀ ts : List T, (∀ p ∈ preL n ts, PyData.strOk p.2 = true) → goodL ts = true
  | [], _ => rfl
  | t :: r, h => by
    have h1 := pre_good n t fun p hp => h p (by simp [preL, hp])
    have h2 := preL_good n r fun p hp => h p (by simp [preL, hp])
    rw [goodL, h1, h2]; rfl
end
end K31
end
section
set_option Elab.async false
set_option linter.all false
set_option maxRecDepth 100000
set_option maxHeartbeats 1000000
namespace K31
open PySem PySem.Spec L2 L3
mutual
noncomputable def T.bo (n : Nat) : T → List ((Nat × Str) × T)
  | .nd k ps => ((n, k), .nd k ps) :: boL (n + 1) ps
noncomputable def boL (n : Nat) : List T → List ((Nat × Str) × T)
  | [] => []
  | t :: r => t.bo n ++ boL n r
end
mutual
theorem bo_pre (n : Nat) : ∀ t : T, (t.bo n).map (·.1) = t.pre n
  | .nd k ps => by rw [T.bo, T.pre, List.map_cons, boL_pre (n + 1) ps]
theorem boL_pre (n : Nat) : ∀ ts : List T, (boL n ts).map (·.1) = preL n ts
  | [] => rfl
  | t :: r => by rw [boL, preL, List.map_append, bo_pre n t, boL_pre n r]
end
mutual
theorem bo_subs (n : Nat) : ∀ t : T, (t.bo n).map (·.2) = t.subs
  | .nd k ps => by rw [T.bo, T.subs, List.map_cons, boL_subs (n + 1) ps]
theorem boL_subs (n : Nat) : ∀ ts : List T, (boL n ts).map (·.2) = subsL ts
  | [] => rfl
  | t :: r => by rw [boL, subsL, List.map_append, bo_subs n t, boL_subs n r]
end
noncomputable def flat (f : Nat → List T) : Nat → List ((Nat × Str) × T)
  | 0 => boL 0 (f 0)
  | n + 1 => boL (n + 1) (f (n + 1)) ++ flat f n
noncomputable def stp (f : Nat → List T) (p : Nat × Str) : Nat → List T := fun n => if n = p.1 then T.nd p.2 (f (p.1 + 1)) :: f p.1 else if n = p.1 + 1 then [] else f n
theorem flat_congr {f g : Nat → List T} : ∀ n, (∀ m, m ≤ n → f m = g m) → flat f n = flat g n
  | 0, h => by rw [flat, flat, h 0 (Nat.le_refl _)]
  | n + 1, h => by rw [flat, flat, h (n + 1) (Nat.le_refl _), flat_congr n fun m hm => h m (by omega)]
theorem flat_stp (f : Nat → List T) (d : Nat) (k : Str) : flat (stp f (d, k)) d = ((d, k), T.nd k (f (d + 1))) :: flat f (d + 1) := by
  have h0 : stp f (d, k) d = T.nd k (f (d + 1)) :: f d := by simp [stp]
  cases d with
  | zero =>
    rw [flat, h0, boL, T.bo, flat, flat]; simp
  | succ d =>
    have h1 : flat (stp f (d + 1, k)) d = flat f d := flat_congr d fun m hm => by
      simp only [stp]
      rw [if_neg (by omega), if_neg (by omega)]
    rw [flat, h0, h1, boL, T.bo, flat, flat]; simp
theorem flat_up {f : Nat → List T} {b : Nat} (h : ∀ n, b < n → f n = []) : ∀ m, b ≤ m → flat f m = flat f b
  | 0, hm => by rw [show b = 0 by omega]
  | m + 1, hm => by
    by_cases e : b = m + 1
    · rw [e]
    · rw [flat, h (m + 1) (by omega), boL, List.nil_append, flat_up h m (by omega)]
noncomputable def RC (b : Nat) : List (Nat × Str) → Prop
  | [] => True
  | p :: q => b ≤ p.1 + 1 ∧ RC p.1 q
noncomputable def accL (f : Nat → List T) : List (Nat × Str) → List T
  | [] => []
  | p :: q => T.nd p.2 (f (p.1 + 1)) :: accL (stp f p) q
noncomputable def lastB (b : Nat) : List (Nat × Str) → Nat
  | [] => b
  | p :: q => lastB p.1 q
theorem accL_len : ∀ (q : List (Nat × Str)) (f : Nat → List T), (accL f q).length = q.length
  | [], f => rfl
  | p :: q, f => by rw [accL, List.length_cons, accL_len q, List.length_cons]
theorem flat_all : ∀ (q : List (Nat × Str)) (f : Nat → List T) (b : Nat), RC b q → (∀ n, b < n → f n = []) →
    (∀ n, lastB b q < n → q.foldl stp f n = []) ∧ flat (q.foldl stp f) (lastB b q) = (q.zip (accL f q)).reverse ++ flat f b
  | [], f, b, h, hb => ⟨hb, by simp [lastB]⟩
  | p :: q, f, b, h, hb => by
    obtain ⟨d, k⟩ := p
    obtain ⟨h1, h2⟩ : b ≤ d + 1 ∧ RC d q := h
    have hb' : ∀ n, d < n → stp f (d, k) n = [] := fun n hn => by
      simp only [stp]
      rw [if_neg (by omega)]
      by_cases e : n = d + 1
      · rw [if_pos e]
      · rw [if_neg e]; exact hb n (by omega)
    obtain ⟨i1, i2⟩ := flat_all q (stp f (d, k)) d h2 hb'
    refine ⟨i1, ?_⟩
    show flat (q.foldl stp (stp f (d, k))) (lastB d q) = _
    rw [i2, flat_stp, flat_up hb (d + 1) h1, accL]
    simp
theorem Val.rc {rs : List (Nat × Str)} {e : Nat} (h : Val rs e) : ∀ b, b ≤ e + 1 → RC b rs.reverse := by
  induction h with
  | one k => intro b hb; exact ⟨hb, trivial⟩
  | snoc k hv h1 h2 ih =>
    intro b hb
    rw [List.reverse_append]
    exact ⟨hb, ih _ h2⟩
theorem Val.head {rs : List (Nat × Str)} {e : Nat} (h : Val rs e) : ∃ k r, rs = (0, k) :: r ∧ ∀ p ∈ r, 1 ≤ p.1 := by
  induction h with
  | one k => exact ⟨k, [], rfl, fun p hp => by simp at hp⟩
  | snoc k hv h1 h2 ih =>
    obtain ⟨k0, r, rfl, hr⟩ := ih
    refine ⟨k0, r ++ [(_, k)], rfl, fun p hp => ?_⟩
    rcases List.mem_append.mp hp with hp | hp
    · exact hr p hp
    · rw [List.mem_singleton.mp hp]; exact h1
theorem zero_keep : ∀ (q : List (Nat × Str)) (f : Nat → List T), (∀ p ∈ q, 1 ≤ p.1) → q.foldl stp f 0 = f 0
  | [], f, _ => rfl
  | p :: q, f, h => by
    have hp := h p (by simp)
    rw [List.foldl_cons, zero_keep q _ fun x hx => h x (by simp [hx])]
    simp only [stp]
    rw [if_neg (by omega), if_neg (by omega)]
theorem lastB_app : ∀ (q : List (Nat × Str)) (b : Nat) (p : Nat × Str), lastB b (q ++ [p]) = p.1
  | [], b, p => rfl
  | x :: q, b, p => lastB_app q x.1 p
theorem tree_of {rs : List (Nat × Str)} {e : Nat} (h : Val rs e) : ∃ t : T, rs = t.pre 0 ∧ (accL (fun _ => []) rs.reverse).reverse = t.subs := by
  obtain ⟨k0, r, rfl, hr⟩ := h.head
  have rc := h.rc 0 (by omega)
  obtain ⟨i1, i2⟩ := flat_all _ (fun _ => []) 0 rc (fun _ _ => rfl)
  have hrev : ((0, k0) :: r).reverse = r.reverse ++ [(0, k0)] := by simp
  rw [hrev] at i1 i2
  rw [lastB_app, List.foldl_append] at i2
  have hz : (r.reverse.foldl stp (fun _ => [])) 0 = [] := zero_keep r.reverse _ fun p hp => hr p (by simpa using hp)
  have h0 : ([(0, k0)].foldl stp (r.reverse.foldl stp fun _ => [])) 0 = [T.nd k0 ((r.reverse.foldl stp fun _ => []) 1)] := by
    show stp _ (0, k0) 0 = _
    simp [stp, hz]
  rw [flat, h0] at i2
  refine ⟨T.nd k0 ((r.reverse.foldl stp fun _ => []) 1), ?_, ?_⟩
  · have := congrArg (List.map (·.1)) i2
    rw [boL_pre, preL, preL, List.append_nil] at this
    rw [this, flat, boL]
    rw [List.append_nil, List.map_reverse, List.map_fst_zip (by rw [accL_len]; exact Nat.le_refl _)]
    simp
  · have := congrArg (List.map (·.2)) i2
    rw [boL_subs, subsL, subsL, List.append_nil] at this
    rw [this, flat, boL]
    rw [List.append_nil, List.map_reverse, List.map_snd_zip (by rw [accL_len]; exact Nat.le_refl _)]
    rw [hrev]
end K31
end
section
set_option Elab.async false
set_option linter.all false
set_option maxRecDepth 100000
set_option maxHeartbeats 1000000
namespace K31
open PySem PySem.Spec L2 L3
theorem dVal_pos {p : Key × D} {r : List (Key × D)} {k : Key} (e : p.1 = k) : dVal (p :: r) k = some p.2 := by simp [dVal, List.find?_cons, e]
theorem dVal_neg {p : Key × D} {r : List (Key × D)} {k : Key} (e : ¬ p.1 = k) : dVal (p :: r) k = dVal r k := by simp [dVal, List.find?_cons, e]
theorem dVal_any (k : Key) : ∀ kvs : List (Key × D), (kvs.any fun kv => decide (kv.1 = k)) = (dVal kvs k).isSome
  | [] => rfl
  | p :: r => by
    rw [List.any_cons]
    by_cases e : p.1 = k
    · simp only [dVal_pos e, decide_eq_true e, Bool.true_or, Option.isSome_some]
    · rw [dVal_neg e, decide_eq_false e, Bool.false_or]; exact dVal_any k r
theorem dVal_map (k j : Key) (y : D) : ∀ kvs : List (Key × D), dVal (kvs.map fun kv => if kv.1 = k then (kv.1, y) else kv) j = (dVal kvs j).map fun x => if j = k then y else x
  | [] => rfl
  | p :: r => by
    have ih := dVal_map k j y r
    rw [List.map_cons]
    by_cases h : p.1 = k
    · rw [if_pos h]
      by_cases e : p.1 = j
      · rw [dVal_pos (p := (p.1, y)) e, dVal_pos e, Option.map_some, if_pos (e.symm.trans h)]
      · rw [dVal_neg (p := (p.1, y)) e, dVal_neg e, ih]
    · rw [if_neg h]
      by_cases e : p.1 = j
      · rw [dVal_pos (p := p) e, dVal_pos e, Option.map_some, if_neg (fun z => h (e.trans z))]
      · rw [dVal_neg (p := p) e, dVal_neg e, ih]
theorem dVal_snoc (k j : Key) (y : D) : ∀ kvs : List (Key × D), dVal kvs k = none → dVal (kvs ++ [(k, y)]) j = if j = k then some y else dVal kvs j
  | [], _ => by
    by_cases e : k = j
    · rw [if_pos e.symm]; exact dVal_pos (p := (k, y)) e
    · rw [if_neg (fun z => e z.symm)]; exact dVal_neg (p := (k, y)) e
  | p :: r, hn => by
    rw [List.cons_append]
    have hk : ¬ p.1 = k := fun z => by rw [dVal_pos z] at hn; cases hn
    rw [dVal_neg hk] at hn
    have ih := dVal_snoc k j y r hn
    by_cases e : p.1 = j
    · rw [dVal_pos e, dVal_pos e, if_neg (fun z => hk (e.trans z))]
    · rw [dVal_neg e, dVal_neg e, ih]
theorem dVal_put (kvs : List (Key × D)) (k j : Key) (y : D) : dVal (dPutK kvs k y) j = if j = k then some y else dVal kvs j := by
  unfold dPutK
  by_cases a : (kvs.any fun kv => decide (kv.1 = k)) = true
  · rw [if_pos a, dVal_map]
    rw [dVal_any] at a
    by_cases e : j = k
    · obtain ⟨x, hx⟩ := Option.isSome_iff_exists.mp a
      rw [if_pos e, e, hx, Option.map_some, if_pos rfl]
    · rw [if_neg e]
      cases dVal kvs j with
      | none => rfl
      | some x => rw [Option.map_some, if_neg e]
  · rw [if_neg a]
    refine dVal_snoc k j y kvs ?_
    rw [dVal_any] at a
    cases q : dVal kvs k with
    | none => rfl
    | some x => rw [q] at a; exact (a rfl).elim
theorem len_put (kvs : List (Key × D)) (k : Key) (v : D) : (dPutK kvs k v).length ≤ kvs.length + 1 := by
  unfold dPutK
  split
  · rw [List.length_map]; omega
  · rw [List.length_append, List.length_cons, List.length_nil]; omega
noncomputable def HK (f : Nat → List T) (kvs : List (Key × D)) : Prop := ∀ n : Nat, (dVal kvs (Sum.inl (n : Int))).getD (.con []) = .con (dL (f n)).reverse
theorem fn_nil (τ : DS) (G : DH) : eFn (eArgs dNew (aNil)) τ G = .ok (.con []) G := by
  rw [eFn_l, eArgs_l, aNil_l, bd_ok, fw_dNew (Nat.zero_le _) rfl]
theorem get_run {E : DS → M D} {τ : DS} {A B : DH} {kvs : List (Key × D)} {n : Int} (h1 : τ[1]? = some (some (.obj A.length))) (h2 : E τ (A ++ .dct kvs :: B) = .ok (.int n) (A ++ .dct kvs :: B)) :
    eDGet2 (eVar 1) E (eFn (eArgs dNew (aNil))) τ (A ++ .dct kvs :: B) = .ok ((dVal kvs (Sum.inl n)).getD (.con [])) (A ++ .dct kvs :: B) := by
  simp only [eDGet2_l, eVar_l, h1, bd_ok, isDct, ga0, if_true, h2, bind_l, fn_nil, dGetD, dKey]
theorem add_run {E : DS → M D} {τ : DS} {H : DH} {xs : List D} {x : D} (h1 : E τ H = .ok (.con xs) H) (h2 : τ[6]? = some (some x)) (hc : closedL xs = true) (hx : x.closed = true) (hz : xs.length + 1 ≤ sizeLine) :
    eFn (eOp dAddX E (eFn (eArgs dNew (aCons (eVar 6) (aNil))))) τ H = .ok (.con (xs ++ [x])) H := by
  have e1 : eFn (eArgs dNew (aCons (eVar 6) (aNil))) τ H = .ok (.con [x]) H := by
    rw [eFn_l]
    simp only [eArgs_l, aCons_l, aNil_l, eVar_l, h2, bd_ok, bind_l, ret_l]
    rw [fw_dNew (by simp; omega) (by simp [closedL_cons, hx, closedL_nil])]
  rw [eFn_l, eOp_l, h1, bd_ok, bind_l, e1, bd_ok]
  show (dNew (xs ++ [x]) H).fw H = _
  rw [fw_dNew (by simp; omega) (by rw [closedL_app, hc]; simp [closedL_cons, hx, closedL_nil])]
theorem closed_rev {xs : List D} (h : closedL xs = true) : closedL xs.reverse = true := by
  induction xs with
  | nil => rfl
  | cons x xs ih =>
    rw [closedL_cons] at h
    have h' : x.closed = true ∧ closedL xs = true := by simpa using h
    rw [List.reverse_cons, closedL_app, ih h'.2]; simp [closedL_cons, h'.1, closedL_nil]
theorem trees_turn (G : DH) (a0 a5 a6 : Option D) (d : Nat) (k : Str) (f : Nat → List T) (kvs : List (Key × D)) (acc : List T) (M : Nat) (hM : M ≤ 200) (hk : HK f kvs) (hf : ∀ n, (f n).length ≤ M) (hkl : kvs.length ≤ 2 * M) (ha : acc.length ≤ M) :
    ∃ (b5 : Option D) (kvs' : List (Key × D)), HK (stp f (d, k)) kvs' ∧ kvs'.length ≤ 2 * (M + 1) ∧
      L0__law_trees [a0, some (.obj G.length), some (.obj (G.length + 1)), some (.int (d : Int)), some (.str k), a5, a6] (G ++ [.dct kvs, .lst (acc.map T.d)]) =
        .nx [a0, some (.obj G.length), some (.obj (G.length + 1)), some (.int (d : Int)), some (.str k), b5, some (T.nd k (f (d + 1))).d] (G ++ [.dct kvs', .lst ((acc ++ [T.nd k (f (d + 1))]).map T.d)]) := by
  have hd1 := hk (d + 1)
  have ei : ((d + 1 : Nat) : Int) = (d : Int) + 1 := by omega
  rw [ei] at hd1
  have hd0 := hk d
  have hlen : ∀ n, (dL (f n)).length ≤ M := fun n => by rw [dL_map, List.length_map]; exact hf n
  have hcl : ∀ n, closedL (dL (f n)).reverse = true := fun n => closed_rev (closed_dL _)
  generalize hk1 : dPutK kvs (Sum.inl ((d : Int) + 1)) (.con []) = kvs1
  have hne : (Sum.inl (d : Int) : Key) ≠ Sum.inl ((d : Int) + 1) := fun e => by have := Sum.inl.inj e; omega
  have hv1 : (dVal kvs1 (Sum.inl (d : Int))).getD (.con []) = .con (dL (f d)).reverse := by
    rw [← hk1, dVal_put, if_neg hne]; exact hd0
  generalize hk2 : dPutK kvs1 (Sum.inl (d : Int)) (.con ((dL (f d)).reverse ++ [(T.nd k (f (d + 1))).d])) = kvs2
  have l1 : kvs1.length ≤ 2 * M + 1 := by rw [← hk1]; have := len_put kvs (Sum.inl ((d : Int) + 1)) (.con []); omega
  have l2 : kvs2.length ≤ 2 * M + 2 := by rw [← hk2]; have := len_put kvs1 (Sum.inl (d : Int)) (.con ((dL (f d)).reverse ++ [(T.nd k (f (d + 1))).d])); omega
  have z0 : kvs.length < sizeLine := Nat.lt_of_lt_of_le (by omega) (lz (n := 1001) (by omega))
  have z1 : kvs1.length < sizeLine := Nat.lt_of_lt_of_le (by omega) (lz (n := 1001) (by omega))
  have z2 : (2 : Nat) ≤ sizeLine := lz (by omega)
  have z3 : (dL (f (d + 1))).length ≤ sizeLine := lz (by have := hlen (d + 1); omega)
  have z4 : (dL (f d)).reverse.length + 1 ≤ sizeLine := lz (by rw [List.length_reverse]; have := hlen d; omega)
  have z5 : acc.length < sizeLine := Nat.lt_of_lt_of_le (by omega) (lz (n := 1001) (by omega))
  refine ⟨some (.con (dL (f (d + 1))).reverse), kvs2, fun n => ?_, by omega, ?_⟩
  · rw [← hk2, dVal_put]
    by_cases e : n = d
    · subst e
      rw [if_pos rfl]
      simp [stp, dL]
    · have ne2 : (Sum.inl (n : Int) : Key) ≠ Sum.inl (d : Int) := fun z => e (by have := Sum.inl.inj z; omega)
      rw [if_neg ne2, ← hk1, dVal_put]
      by_cases e1 : n = d + 1
      · subst e1
        rw [if_pos (by rw [ei])]
        simp only [stp]
        rw [if_neg (by omega)]
        simp [dL]
      · have ne3 : (Sum.inl (n : Int) : Key) ≠ Sum.inl ((d : Int) + 1) := fun z => e1 (by have := Sum.inl.inj z; omega)
        rw [if_neg ne3]
        simp only [stp]
        rw [if_neg e, if_neg e1]
        exact hk n
  · have g1 := get_run (E := eOp dAddX (eVar 3) (eC (.int 1))) (τ := [a0, some (.obj G.length), some (.obj (G.length + 1)), some (.int (d : Int)), some (.str k), a5, a6]) (A := G) (B := [.lst (acc.map T.d)]) (kvs := kvs) (n := (d : Int) + 1) rfl (by simp [sSeq_l, sq_nx, sq_rt, sq_st, sq_bk, sq_ct, sq_xn, sIf_l, cs_t, cs_f, cs_x, sSet_l, st_ok, st_x, sExpr_l, xp_ok, xp_x, sRet_l, rn_ok, rn_x, sSkip_l, sRetN_l, bd_ok, bd_x, bd_s, bind_l, ret_l, stop_l, eVar_l, eC_l, eOp_l, eArgs_l, aNil_l, aCons_l, tBl_l, asBl_b, tTruth_l, tNotD_l, tOrD_l, tAndD_l, eIsi_l, eCall_l, eMethT_l, eIf_l, sForRng_l, sForIn_l, sForV_l, sb_ok, sb_x, eComp_l, eCompR_l, eCompV_l, runB_l, fn_nx, fn_rt, fn_x, eSl_l, oNone_l, oSome_l, asInt_i, eNeg_l, neg1_i, iEnum_l, eCallV_l, sRaise_l, eUn_l, sWhile_l, whB_l, lp_nx, lp_ct, lp_bk, lp_rt, lp_xn, fw_tup, fw_con, fw_str, fw_int, fz_at, iRev_l, iZip_l, iEnumX_l, iRng3_l, eDNew_l, eDGet2_l, sDPut_l, eFz_l, dTru, dIx, seqOf, dInt2, dInt2L, dLen, dAddX, dTup, kindOk, dAppend, dPop, dIsi, tyD, Ty.is])
    rw [hd1] at g1
    have g2 : ∀ x, eDGet2 (eVar 1) (eVar 3) (eFn (eArgs dNew (aNil))) [a0, some (.obj G.length), some (.obj (G.length + 1)), some (.int (d : Int)), some (.str k), some (.con (dL (f (d + 1))).reverse), x] (G ++ .dct kvs1 :: [.lst (acc.map T.d)]) = .ok (.con (dL (f d)).reverse) (G ++ .dct kvs1 :: [.lst (acc.map T.d)]) := fun x => by
      have := get_run (E := eVar 3) (τ := [a0, some (.obj G.length), some (.obj (G.length + 1)), some (.int (d : Int)), some (.str k), some (.con (dL (f (d + 1))).reverse), x]) (A := G) (B := [.lst (acc.map T.d)]) (kvs := kvs1) (n := (d : Int)) rfl rfl
      rw [hv1] at this
      exact this
    have g3 := add_run (x := (T.nd k (f (d + 1))).d) (g2 (some (T.nd k (f (d + 1))).d)) rfl (hcl d) (closed_d _) z4
    have et : (T.nd k (f (d + 1))).d = .tup [.str k, .tup (dL (f (d + 1)))] := by rw [T.d]
    rw [et] at g3 hk2 ⊢
    generalize hE1 : eDGet2 (eVar 1) (eOp dAddX (eVar 3) (eC (.int 1))) (eFn (eArgs dNew (aNil))) = E1 at g1
    generalize hE2 : eFn (eOp dAddX (eDGet2 (eVar 1) (eVar 3) (eFn (eArgs dNew (aNil)))) (eFn (eArgs dNew (aCons (eVar 6) (aNil))))) = E2 at g3
    unfold L0__law_trees
    rw [hE1, hE2]
    simp [sSeq_l, sq_nx, sq_rt, sq_st, sq_bk, sq_ct, sq_xn, sIf_l, cs_t, cs_f, cs_x, sSet_l, st_ok, st_x, sExpr_l, xp_ok, xp_x, sRet_l, rn_ok, rn_x, sSkip_l, sRetN_l, bd_ok, bd_x, bd_s, bind_l, ret_l, stop_l, eVar_l, eC_l, eOp_l, eArgs_l, aNil_l, aCons_l, tBl_l, asBl_b, tTruth_l, tNotD_l, tOrD_l, tAndD_l, eIsi_l, eCall_l, eMethT_l, eIf_l, sForRng_l, sForIn_l, sForV_l, sb_ok, sb_x, eComp_l, eCompR_l, eCompV_l, runB_l, fn_nx, fn_rt, fn_x, eSl_l, oNone_l, oSome_l, asInt_i, eNeg_l, neg1_i, iEnum_l, eCallV_l, sRaise_l, eUn_l, sWhile_l, whB_l, lp_nx, lp_ct, lp_bk, lp_rt, lp_xn, fw_tup, fw_con, fw_str, fw_int, fz_at, iRev_l, iZip_l, iEnumX_l, iRng3_l, eDNew_l, eDGet2_l, sDPut_l, eFz_l, dTru, dIx, seqOf, dInt2, dInt2L, dLen, dAddX, dTup, kindOk, dAppend, dPop, dIsi, tyD, Ty.is, g1, fn_nil, dPutD, dKey, gs0, hk1, z0, g3, hk2, z1, dRevT, z2, z3, z5, ga1, gs1, et]
end K31
end
section
set_option Elab.async false
set_option linter.all false
set_option maxRecDepth 100000
set_option maxHeartbeats 1000000
namespace K31
open PySem PySem.Spec L2 L3
theorem stp_len {f : Nat → List T} {M : Nat} (h : ∀ n, (f n).length ≤ M) (p : Nat × Str) (n : Nat) : (stp f p n).length ≤ M + 1 := by
  simp only [stp]
  split
  · have := h p.1
    simp; omega
  · split
    · simp
    · have := h n
      omega
theorem trees_loop (G : DH) (a0 : Option D) : ∀ (q : List (Nat × Str)) (f : Nat → List T) (kvs : List (Key × D)) (acc : List T) (M : Nat) (a3 a4 a5 a6 : Option D), M + q.length ≤ 200 → HK f kvs → (∀ n, (f n).length ≤ M) → kvs.length ≤ 2 * M → acc.length ≤ M →
    ∃ (b3 b4 b5 b6 : Option D) (kvs' : List (Key × D)), forP (gP 3 4) L0__law_trees (q.map row) [a0, some (.obj G.length), some (.obj (G.length + 1)), a3, a4, a5, a6] (G ++ [.dct kvs, .lst (acc.map T.d)]) =
      .nx [a0, some (.obj G.length), some (.obj (G.length + 1)), b3, b4, b5, b6] (G ++ [.dct kvs', .lst ((acc ++ accL f q).map T.d)])
  | [], f, kvs, acc, M, a3, a4, a5, a6, hM, hk, hf, hkl, ha => ⟨a3, a4, a5, a6, kvs, by simp [forP, accL]⟩
  | (d, k) :: q, f, kvs, acc, M, a3, a4, a5, a6, hM, hk, hf, hkl, ha => by
    simp only [List.length_cons] at hM
    obtain ⟨b5, kvs1, h1, h2, e1⟩ := trees_turn G a0 a5 a6 d k f kvs acc M (by omega) hk hf hkl ha
    obtain ⟨c3, c4, c5, c6, kvs2, e2⟩ := trees_loop G a0 q (stp f (d, k)) kvs1 (acc ++ [T.nd k (f (d + 1))]) (M + 1) (some (.int (d : Int))) (some (.str k)) b5 (some (T.nd k (f (d + 1))).d) (by omega) h1 (stp_len hf (d, k)) h2 (by simp; omega)
    refine ⟨c3, c4, c5, c6, kvs2, ?_⟩
    rw [List.map_cons, forP_cons (τ1 := [a0, some (.obj G.length), some (.obj (G.length + 1)), some (.int (d : Int)), some (.str k), a5, a6]) rfl, e1, lp_nx, e2, accL]
    simp
theorem rev_run {τ : DS} {H : DH} {n : Nat} {L : List D} (h : τ[2]? = some (some (.obj n))) (hg : H[n]? = some (.lst L)) (hz : L.length ≤ sizeLine) (hc : closedL L = true) : eFn (eArgs dRevL (aCons (eVar 2) (aNil))) τ H = .ok (.con L.reverse) H := by
  rw [eFn_l]
  simp only [eArgs_l, aCons_l, aNil_l, eVar_l, h, bd_ok, bind_l, ret_l, dRevL, seqOf, hg]
  rw [fw_dNew (by simpa using hz) (closed_rev hc)]
theorem trees_eq (rs : List (Nat × Str)) (hl : rs.length ≤ 100) (G : DH) : m__law_trees [.con (rs.map row)] G = .ok (.con ((accL (fun _ => []) rs.reverse).reverse.map T.d)) G := by
  obtain ⟨b3, b4, b5, b6, kvs, e⟩ := trees_loop G (some (.con (rs.map row))) rs.reverse (fun _ => []) [] [] 0 none none none none (by simp; omega) (fun n => rfl) (fun n => Nat.le_refl _) (by simp) (by simp)
  have hz : ((accL (fun _ => []) rs.reverse).map T.d).length ≤ sizeLine := lz (by rw [List.length_map, accL_len, List.length_reverse]; omega)
  have hc : closedL ((accL (fun _ => []) rs.reverse).map T.d) = true := closedL_map closed_d
  simp only [List.nil_append, List.map_nil] at e
  rw [List.map_reverse]
  generalize (accL (fun _ => []) rs.reverse).map T.d = L at e hz hc
  refine pure_of (R := [.dct kvs, .lst L]) ?_ (by rw [closed_con]; exact closed_rev hc)
  have hn : dNew [] (G ++ [.dct []]) = .ok (.obj (G.length + 1)) (G ++ [.dct [], .lst []]) := by simp [dNew]
  rw [List.map_reverse] at e
  generalize rs.map row = xs at e
  have er := rev_run (τ := [some (.con xs), some (.obj G.length), some (.obj (G.length + 1)), b3, b4, b5, b6]) (H := G ++ [.dct kvs, .lst L]) (n := G.length + 1) rfl (ga1 _ _ _ _) hz hc
  unfold b__law_trees
  simp [sSeq_l, sq_nx, sq_rt, sq_st, sq_bk, sq_ct, sq_xn, sIf_l, cs_t, cs_f, cs_x, sSet_l, st_ok, st_x, sExpr_l, xp_ok, xp_x, sRet_l, rn_ok, rn_x, sSkip_l, sRetN_l, bd_ok, bd_x, bd_s, bind_l, ret_l, stop_l, eVar_l, eC_l, eOp_l, eArgs_l, aNil_l, aCons_l, tBl_l, asBl_b, tTruth_l, tNotD_l, tOrD_l, tAndD_l, eIsi_l, eCall_l, eMethT_l, eIf_l, sForRng_l, sForIn_l, sForV_l, sb_ok, sb_x, eComp_l, eCompR_l, eCompV_l, runB_l, fn_nx, fn_rt, fn_x, eSl_l, oNone_l, oSome_l, asInt_i, eNeg_l, neg1_i, iEnum_l, eCallV_l, sRaise_l, eUn_l, sWhile_l, whB_l, lp_nx, lp_ct, lp_bk, lp_rt, lp_xn, fw_tup, fw_con, fw_str, fw_int, fz_at, iRev_l, iZip_l, iEnumX_l, iRng3_l, eDNew_l, eDGet2_l, sDPut_l, eFz_l, dTru, dIx, seqOf, dInt2, dInt2L, dLen, dAddX, dTup, kindOk, dAppend, dPop, dIsi, tyD, Ty.is, hn, for_rev, e, er]
noncomputable def pl (p : List Int) : D := .tup (p.map .int)
theorem addT (xs ys : List D) (G : DH) (h : xs.length + ys.length ≤ sizeLine) : dAddX (.tup xs) (.tup ys) G = .ok (.tup (xs ++ ys)) G := by
  cases xs with
  | nil => rfl
  | cons x xs => show dTup (x :: xs ++ ys) G = _; rw [dTup, if_pos (by simp at h ⊢; omega)]
noncomputable def Lst (p : List Int) (j : Int) (q : List Int) : Prop := (j = 0 ∧ q = p) ∨ ∃ i r, j = i + 1 ∧ q = p ++ i :: r
theorem atI_mid (p r : List Int) (i : Int) : atI ((p ++ i :: r).map D.int) (p.length : Int) = some (.int i) := by
  refine atI_nat ?_
  rw [List.getElem?_map]
  simp
theorem spots_turn (G : DH) (a0 b4 : Option D) (k : Str) (p q : List Int) (j : Int) (ini : List (List Int)) (h : Lst p j q) (hp : p.length ≤ 1000) (hi : ini.length ≤ 1000) :
    L0__law_spots [a0, some (.obj G.length), some (.int ((p.length + 1 : Nat) : Int)), some (.str k), b4] (G ++ [.lst ((ini ++ [q]).map pl)]) =
      .nx [a0, some (.obj G.length), some (.int ((p.length + 1 : Nat) : Int)), some (.str k), some (pl q)] (G ++ [.lst ((ini ++ [q] ++ [p ++ [j]]).map pl)]) := by
  have hla : atI ((ini ++ [q]).map pl) (-1) = some (pl q) := by
    rw [List.map_append, List.map_cons, List.map_nil, atI_last]
  have z1 : ((ini ++ [q]).map pl).length < sizeLine := Nat.lt_of_lt_of_le (by simp; omega) (lz (n := 2001) (by omega))
  have z2 : (1 : Nat) ≤ sizeLine := lz (by omega)
  have hadd := addT
  have ex : (ini ++ [q] ++ [p ++ [j]]).map pl = (ini ++ [q]).map pl ++ [pl (p ++ [j])] := by rw [List.map_append, List.map_cons, List.map_nil]
  rw [ex]
  generalize (ini ++ [q]).map pl = L at hla z1
  rcases h with ⟨rfl, rfl⟩ | ⟨i, r, rfl, rfl⟩
  · have z3 : q.length + 1 ≤ sizeLine := lz (by omega)
    have hA := addT (q.map .int) [.int 0]
    simp only [List.length_map, List.length_cons, List.length_nil] at hA
    have hA' : ∀ G, dAddX (pl q) (.tup [.int 0]) G = .ok (pl (q ++ [0])) G := fun G => by
      unfold pl
      rw [hA G (by omega)]; simp
    have hlen : ∀ G, dLen [pl q] G = .ok (.int (q.length : Int)) G := fun G => by simp [dLen, pl, seqOf]
    have hd : ((q.length : Int) < ((q.length + 1 : Nat) : Int)) := by omega
    generalize pl q = pq at hla hA' hlen
    generalize pl (q ++ [0]) = pn at hA'
    generalize ((q.length + 1 : Nat) : Int) = dd at hd
    have z4 : 0 + 1 ≤ sizeLine := z2
    unfold L0__law_spots
    simp only [sSeq_l, sSet_l, eOp_l, eNeg_l, neg1_i, eVar_l, eC_l, bd_ok, bind_l, List.getElem?_cons_succ, List.getElem?_cons_zero, dIx, seqOf, ga0, hla, st_ok, sq_nx, sIf_l, tBl_l, eArgs_l, aCons_l, aNil_l, ret_l, hlen, dInt2, if_true, asBl_b, cs_t, cs_f, sExpr_l, eMethT_l, kindOk, dAppend, if_pos z1, gs0, xp_ok, dTup, List.length_cons, List.length_nil, List.set_cons_succ, List.set_cons_zero, beq_self_eq_true, decide_eq_true hd, hA', if_pos z4]
  · have z3 : p.length + 1 ≤ sizeLine := lz (by omega)
    have hlen : ∀ G, dLen [pl (p ++ i :: r)] G = .ok (.int ((p ++ i :: r).length : Int)) G := fun G => by simp [dLen, pl, seqOf]
    have hd : ¬ (((p ++ i :: r).length : Int) < ((p.length + 1 : Nat) : Int)) := by simp; omega
    have hix : ∀ G, dIx (pl (p ++ i :: r)) (.int (p.length : Int)) G = .ok (.int i) G := fun G => by
      simp only [dIx, pl, seqOf, atI_mid]
    have hsl : ∀ G, dSl (pl (p ++ i :: r)) none (some (p.length : Int)) G = .ok (pl p) G := fun G => by
      unfold pl
      simp only [dSl, seqOf]
      have hs : HT.sIx ((p ++ i :: r).map D.int).length ((p ++ i :: r).map D.int).length (some (p.length : Int)) = p.length := by
        rw [HT.sIx_nat]; simp
      rw [if_neg (by rw [hs]; simp), dTup]
      have hcut : cutD ((p ++ i :: r).map D.int) none (some (p.length : Int)) = p.map .int := by
        unfold cutD
        rw [hs, HT.sIx_none]; simp
      rw [hcut, if_pos (by simp; omega)]
    have hA := addT (p.map .int) [.int (i + 1)]
    simp only [List.length_map, List.length_cons, List.length_nil] at hA
    have hA' : ∀ G, dAddX (pl p) (.tup [.int (i + 1)]) G = .ok (pl (p ++ [i + 1])) G := fun G => by
      unfold pl
      rw [hA G (by omega)]; simp
    have hA2 : ∀ G, dAddX (.int i) (.int 1) G = .ok (.int (i + 1)) G := fun G => rfl
    have hdd : ((p.length + 1 : Nat) : Int) - 1 = (p.length : Int) := by omega
    have hfw : ∀ G, (Out.ok (pl p) G).fw G = .ok (pl p) G := fun G => fw_tup
    generalize pl (p ++ i :: r) = pq at hla hlen hix hsl
    generalize ((p ++ i :: r).length : Int) = ll at hlen hd
    generalize pl (p ++ [i + 1]) = pn at hA'
    generalize pl p = pp at hsl hA' hfw
    generalize ((p.length + 1 : Nat) : Int) = dd at hd hdd
    have z4 : 0 + 1 ≤ sizeLine := z2
    unfold L0__law_spots
    rw [sSeq_l, sSet_l]
    have e1 : eOp dIx (eVar 1) (eNeg (eC (.int 1))) [a0, some (.obj G.length), some (.int dd), some (.str k), b4] (G ++ [.lst L]) = .ok pq (G ++ [.lst L]) := by
      simp only [sSeq_l, sSet_l, eOp_l, eNeg_l, neg1_i, eVar_l, eC_l, bd_ok, bind_l, List.getElem?_cons_succ, List.getElem?_cons_zero, dIx, seqOf, ga0, hla, st_ok, sq_nx, sIf_l, tBl_l, eArgs_l, aCons_l, aNil_l, ret_l, hlen, dInt2, if_true, asBl_b, cs_t, cs_f, sExpr_l, eMethT_l, kindOk, dAppend, if_pos z1, gs0, xp_ok, dTup, List.length_cons, List.length_nil, List.set_cons_succ, List.set_cons_zero, beq_self_eq_true]
    rw [e1, st_ok, sq_nx, sIf_l]
    have e2 : tBl (eOp dGt (eVar 2) (eArgs dLen (aCons (eVar 4) (aNil)))) [a0, some (.obj G.length), some (.int dd), some (.str k), some pq] (G ++ [.lst L]) = .ok false (G ++ [.lst L]) := by
      simp only [tBl_l, eOp_l, eVar_l, eArgs_l, aCons_l, aNil_l, bd_ok, bind_l, ret_l, List.getElem?_cons_succ, List.getElem?_cons_zero, hlen, dInt2, if_true, asBl_b, decide_eq_false hd]
    simp only [List.set_cons_succ, List.set_cons_zero]
    rw [e2, cs_f]
    have e3 : ∀ τ, eFn (eSl (eVar 4) (oNone) (oSome (eOp dSub (eVar 2) (eC (.int 1))))) (a0 :: some (.obj G.length) :: some (.int dd) :: some (.str k) :: some pq :: τ) (G ++ [.lst L]) = .ok pp (G ++ [.lst L]) := fun τ => by
      rw [eFn_l]
      simp only [eSl_l, eVar_l, List.getElem?_cons_succ, List.getElem?_cons_zero, bd_ok, bind_l, oNone_l, oSome_l, eOp_l, eC_l, dInt2, if_true, ret_l, asInt_i, hdd, hsl, hfw]
    have e4 : ∀ τ, eOp dIx (eVar 4) (eOp dSub (eVar 2) (eC (.int 1))) (a0 :: some (.obj G.length) :: some (.int dd) :: some (.str k) :: some pq :: τ) (G ++ [.lst L]) = .ok (.int i) (G ++ [.lst L]) := fun τ => by
      simp only [eVar_l, List.getElem?_cons_succ, List.getElem?_cons_zero, bd_ok, bind_l, eOp_l, eC_l, dInt2, if_true, ret_l, hdd, hix]
    generalize eFn (eSl (eVar 4) (oNone) (oSome (eOp dSub (eVar 2) (eC (.int 1))))) = E3 at e3
    generalize eOp dIx (eVar 4) (eOp dSub (eVar 2) (eC (.int 1))) = E4 at e4
    simp only [sExpr_l, eMethT_l, eVar_l, List.getElem?_cons_succ, List.getElem?_cons_zero, bd_ok, kindOk, ga0, beq_self_eq_true, if_true, aCons_l, eOp_l, e3, bind_l, eArgs_l, e4, eC_l, hA2, aNil_l, ret_l, dTup, List.length_cons, List.length_nil, if_pos z4, hA', dAppend, if_pos z1, gs0, xp_ok]
end K31
end
section
set_option Elab.async false
set_option linter.all false
set_option maxRecDepth 100000
set_option maxHeartbeats 1000000
namespace K31
open PySem PySem.Spec L2 L3
mutual
theorem spots_t (G : DH) (a0 : Option D) : ∀ (t : T) (p q : List Int) (j : Int) (ini : List (List Int)) (b2 b3 b4 : Option D) (rest : List D), Lst p j q → p.length + t.subs.length ≤ 1000 → ini.length + t.subs.length ≤ 1000 →
    ∃ (c2 c3 c4 : Option D) (ini' : List (List Int)) (r : List Int), ini' ++ [p ++ j :: r] = ini ++ [q] ++ (t.prs (p ++ [j])).map (·.1) ∧
      forP (gP 2 3) L0__law_spots ((t.pre (p.length + 1)).map row ++ rest) [a0, some (.obj G.length), b2, b3, b4] (G ++ [.lst ((ini ++ [q]).map pl)]) =
        forP (gP 2 3) L0__law_spots rest [a0, some (.obj G.length), c2, c3, c4] (G ++ [.lst ((ini' ++ [p ++ j :: r]).map pl)])
  | .nd k ps, p, q, j, ini, b2, b3, b4, rest, h, hp, hi => by
    rw [T.subs, List.length_cons] at hp hi
    have e1 := spots_turn G a0 b4 k p q j ini h (by omega) (by omega)
    obtain ⟨c2, c3, c4, ini', r, e2, e3⟩ := spots_f G a0 ps (p ++ [j]) (p ++ [j]) 0 (ini ++ [q]) (some (.int ((p.length + 1 : Nat) : Int))) (some (.str k)) (some (pl q)) rest (.inl ⟨rfl, rfl⟩) (by simp; omega) (by simp; omega)
    have hl : (p ++ [j]).length + 1 = p.length + 1 + 1 := by simp
    rw [hl] at e3
    refine ⟨c2, c3, c4, ini', r, ?_, ?_⟩
    · rw [T.prs, List.map_cons]
      rw [show p ++ j :: r = p ++ [j] ++ r by simp, e2]; simp
    · rw [T.pre, List.map_cons, List.cons_append, forP_cons (τ1 := [a0, some (.obj G.length), some (.int ((p.length + 1 : Nat) : Int)), some (.str k), b4]) rfl, e1, lp_nx]
      rw [e3, show p ++ j :: r = p ++ [j] ++ r by simp]
theorem spots_f (G : DH) (a0 : Option D) : ∀ (ts : List T) (p q : List Int) (j : Int) (ini : List (List Int)) (b2 b3 b4 : Option D) (rest : List D), Lst p j q → p.length + (subsL ts).length ≤ 1000 → ini.length + (subsL ts).length ≤ 1000 →
    ∃ (c2 c3 c4 : Option D) (ini' : List (List Int)) (r : List Int), ini' ++ [p ++ r] = ini ++ [q] ++ (prsL p j ts).map (·.1) ∧
      forP (gP 2 3) L0__law_spots ((preL (p.length + 1) ts).map row ++ rest) [a0, some (.obj G.length), b2, b3, b4] (G ++ [.lst ((ini ++ [q]).map pl)]) =
        forP (gP 2 3) L0__law_spots rest [a0, some (.obj G.length), c2, c3, c4] (G ++ [.lst ((ini' ++ [p ++ r]).map pl)])
  | [], p, q, j, ini, b2, b3, b4, rest, h, hp, hi => by
    obtain ⟨r, hr⟩ : ∃ r, q = p ++ r := by
      rcases h with ⟨_, rfl⟩ | ⟨i, r, _, rfl⟩
      · exact ⟨[], by simp⟩
      · exact ⟨_, rfl⟩
    subst hr
    exact ⟨b2, b3, b4, ini, r, by simp [prsL], by simp [preL]⟩
  | t :: ts, p, q, j, ini, b2, b3, b4, rest, h, hp, hi => by
    rw [subsL, List.length_append] at hp hi
    obtain ⟨c2, c3, c4, ini1, r1, e1, f1⟩ := spots_t G a0 t p q j ini b2 b3 b4 ((preL (p.length + 1) ts).map row ++ rest) h (by omega) (by omega)
    have hlen : ini1.length = ini.length + (t.prs (p ++ [j])).length := by
      have := congrArg List.length e1
      simp at this; omega
    have hpl : (t.prs (p ++ [j])).length = t.subs.length := by rw [← prs_subs (p ++ [j]) t, List.length_map]
    obtain ⟨d2, d3, d4, ini2, r2, e2, f2⟩ := spots_f G a0 ts p (p ++ j :: r1) (j + 1) ini1 c2 c3 c4 rest (.inr ⟨j, r1, rfl, rfl⟩) (by omega) (by omega)
    refine ⟨d2, d3, d4, ini2, r2, ?_, ?_⟩
    · rw [e2, e1, prsL]; simp
    · rw [preL, List.map_append, List.append_assoc, f1, f2]
end
theorem closed_pl (p : List Int) : (pl p).closed = true := by rw [pl, closed_tup]; exact closedL_map fun _ => closed_int
theorem spots_eq (t : T) (ht : t.subs.length ≤ 100) (G : DH) : m__law_spots [.con ((t.pre 0).map row)] G = .ok (.con (((t.prs []).map (·.1)).map pl)) G := by
  obtain ⟨k, ps⟩ := t
  rw [T.subs, List.length_cons] at ht
  have z1 : (1 : Nat) ≤ sizeLine := lz (by omega)
  obtain ⟨c2, c3, c4, ini, r, e1, e2⟩ := spots_f G (some (.con (((T.nd k ps).pre 0).map row))) ps [] [] 0 [] none none none [] (.inl ⟨rfl, rfl⟩) (by simp; omega) (by simp; omega)
  have e3 : (((T.nd k ps).prs []).map (·.1)) = ini ++ [[] ++ r] := by rw [e1, T.prs]; simp
  rw [e3]
  rw [List.append_nil, forP_nil] at e2
  generalize (ini ++ [[] ++ r]) = L at e2
  refine pure_of (R := [.dead]) ?_ (by rw [closed_con]; exact closedL_map closed_pl)
  have hpre : ((T.nd k ps).pre 0).map row = row (0, k) :: (preL 1 ps).map row := by rw [T.pre, List.map_cons]
  have hl : (preL 1 ps).length = (subsL ps).length := preL_len 1 ps
  simp only [List.length_nil, Nat.zero_add] at e2
  have hsl : ∀ τ G, eFn (eSl (eVar 0) (oSome (eC (.int 1))) (oNone)) (some (.con (((T.nd k ps).pre 0).map row)) :: τ) G = .ok (.con ((preL 1 ps).map row)) G := fun τ G => by
    rw [eFn_l]
    have hs : HT.sIx (((T.nd k ps).pre 0).map row).length 0 (some 1) = 1 := by
      have := HT.sIx_nat (((T.nd k ps).pre 0).map row).length 0 1
      rw [show ((1 : Nat) : Int) = 1 from rfl] at this
      rw [this, hpre]; simp
    have hcut : cutD (((T.nd k ps).pre 0).map row) (some 1) none = (preL 1 ps).map row := by
      unfold cutD
      rw [hs, HT.sIx_none, hpre]; simp
      exact List.take_of_length_le (by simp)
    have e : eSl (eVar 0) (oSome (eC (.int 1))) (oNone) (some (.con (((T.nd k ps).pre 0).map row)) :: τ) G = dNew ((preL 1 ps).map row) G := by
      simp only [eSl_l, eVar_l, List.getElem?_cons_zero, bd_ok, bind_l, oSome_l, eC_l, asInt_i, oNone_l, dSl, seqOf, hcut]
    rw [e, fw_dNew (lz (by simp; omega)) (closedL_map fun p => by rw [row, closed_tup]; simp [closedL_cons, closed_int, closed_str, closedL_nil])]
  generalize ((T.nd k ps).pre 0).map row = xs at e2 hsl
  generalize (preL 1 ps).map row = ys at e2 hsl
  have hn : dNew [.tup []] G = .ok (.obj G.length) (G ++ [.lst [.tup []]]) := by simp [dNew, z1]
  have ep : ([[]] : List (List Int)).map pl = [.tup []] := rfl
  simp only [List.nil_append, ep] at e2
  generalize hE : eFn (eSl (eVar 0) (oSome (eC (.int 1))) (oNone)) = E at hsl
  unfold b__law_spots
  rw [hE]
  simp [sSeq_l, sq_nx, sq_rt, sq_st, sq_bk, sq_ct, sq_xn, sIf_l, cs_t, cs_f, cs_x, sSet_l, st_ok, st_x, sExpr_l, xp_ok, xp_x, sRet_l, rn_ok, rn_x, sSkip_l, sRetN_l, bd_ok, bd_x, bd_s, bind_l, ret_l, stop_l, eVar_l, eC_l, eOp_l, eArgs_l, aNil_l, aCons_l, tBl_l, asBl_b, tTruth_l, tNotD_l, tOrD_l, tAndD_l, eIsi_l, eCall_l, eMethT_l, eIf_l, sForRng_l, sForIn_l, sForV_l, sb_ok, sb_x, eComp_l, eCompR_l, eCompV_l, runB_l, fn_nx, fn_rt, fn_x, eSl_l, oNone_l, oSome_l, asInt_i, eNeg_l, neg1_i, iEnum_l, eCallV_l, sRaise_l, eUn_l, sWhile_l, whB_l, lp_nx, lp_ct, lp_bk, lp_rt, lp_xn, fw_tup, fw_con, fw_str, fw_int, fz_at, iRev_l, iZip_l, iEnumX_l, iRng3_l, eDNew_l, eDGet2_l, sDPut_l, eFz_l, dTru, dIx, seqOf, dInt2, dInt2L, dLen, dAddX, dTup, kindOk, dAppend, dPop, dIsi, tyD, Ty.is, hn, hsl, e2]
end K31
end
section
set_option Elab.async false
set_option linter.all false
set_option maxRecDepth 100000
set_option maxHeartbeats 1000000
namespace K31
open PySem PySem.Spec L2 L3
noncomputable def pd2 (x : List Int × T) : D := .tup [pl x.1, x.2.d]
theorem closed_pl' (p : List Int) : (pl p).closed = true := by rw [pl, closed_tup]; exact closedL_map fun _ => closed_int
theorem closed_pd2 (x : List Int × T) : (pd2 x).closed = true := by
  rw [pd2, closed_tup, closedL_cons, closedL_cons, closed_pl', closed_d]; rfl
noncomputable def kids (p : List Int) (j : Int) : List T → List (List Int × T)
  | [] => []
  | t :: r => (p ++ [j], t) :: kids p (j + 1) r
theorem kids_len (p : List Int) : ∀ (ts : List T) (j : Int), (kids p j ts).length = ts.length
  | [], j => rfl
  | t :: r, j => by rw [kids, List.length_cons, kids_len p r, List.length_cons]
theorem prsL_kids (p : List Int) : ∀ (ts : List T) (j : Int), prsL p j ts = (kids p j ts).flatMap fun x => x.2.prs x.1
  | [], j => rfl
  | t :: r, j => by rw [prsL, kids, List.flatMap_cons, prsL_kids p r]
noncomputable def kf (p : List Int) : D → D
  | .tup [.int i, y] => .tup [.tup (p.map .int ++ [.int i]), y]
  | _ => .non
noncomputable def kown : D → List D
  | .tup xs => xs
  | _ => []
theorem kids_map (p : List Int) : ∀ (ts : List T) (j : Nat), ((dL ts).mapIdx fun i x => D.tup [.int ((i + j : Nat) : Int), x]).map (kf p) = (kids p (j : Int) ts).map pd2
  | [], j => rfl
  | t :: r, j => by
    have ih := kids_map p r (j + 1)
    rw [dL, kids, List.mapIdx_cons, List.map_cons, List.map_cons]
    congr 1
    · simp [kf, pd2, pl]
    · rw [show ((j + 1 : Nat) : Int) = (j : Int) + 1 by omega] at ih
      rw [← ih]
      congr 1
      apply List.ext_getElem?
      intro i
      simp only [List.getElem?_mapIdx]
      congr 1
      funext x
      rw [show i + 1 + j = i + (j + 1) by omega]
theorem parts_eq (p : List Int) (k : Str) (ps : List T) (hp : p.length ≤ 1000) (hs : ps.length ≤ 1000) (G : DH) : m_placed_parts [pd2 (p, .nd k ps)] G = .ok (.con ((kids p 0 ps).map pd2)) G := by
  have z1 : (1 : Nat) ≤ sizeLine := lz (by omega)
  have z2 : (2 : Nat) ≤ sizeLine := lz (by omega)
  have hpd : pd2 (p, .nd k ps) = .tup [.tup (p.map .int), .tup [.str k, .tup (dL ps)]] := by rw [pd2, T.d]; rfl
  have hdl : (dL ps).length = ps.length := by rw [dL_map, List.length_map]
  have a0 : ∀ (x y : D), atI [x, y] 0 = some x := fun x y => by
    have := atI_nat (xs := [x, y]) (j := 0) (v := x) rfl
    simpa using this
  have a1 : ∀ (x y : D), atI [x, y] 1 = some y := fun x y => by
    have := atI_nat (xs := [x, y]) (j := 1) (v := y) rfl
    simpa using this
  have km := kids_map p ps 0
  simp only [Nat.add_zero, Int.natCast_zero] at km
  have c1 := compP_map (τ := [some (pd2 (p, .nd k ps))]) (G := G) (gO := oT 2) (ks := [true]) (te := eArgs dTup (aCons (eOp dAddX (eOp dIx (eVar 2) (eC (.int 0))) (eArgs dTup (aCons (eVar 0) (aNil)))) (aCons (eVar 1) (aNil)))) (own := kown) (f := kf p) ((dL ps).mapIdx fun i x => D.tup [.int (i : Int), x]) [] (by simp; omega) (fun x hx => by
      obtain ⟨i, hi, rfl⟩ := List.mem_mapIdx.mp hx
      simp [oT, kown]) (fun x hx acc => by
      obtain ⟨i, hi, rfl⟩ := List.mem_mapIdx.mp hx
      rw [hpd]
      have hA := addT (p.map .int) [.int (i : Int)] (G ++ [.lst acc]) (lz (by simp; omega))
      generalize (dL ps)[i] = y
      simp only [kown, kf] at hA ⊢
      generalize p.map D.int = pp at hA ⊢
      simp only [ List.map_cons, List.map_nil, mask, List.cons_append, List.nil_append, if_true, eArgs_l, aCons_l, aNil_l, eOp_l, eVar_l, eC_l, List.getElem?_cons_succ, List.getElem?_cons_zero, bd_ok, bind_l, ret_l, dIx, seqOf, a0, dTup, List.length_cons, List.length_nil, if_pos (show 0 + 1 ≤ sizeLine from z1), if_pos (show 0 + 1 + 1 ≤ sizeLine from z2), hA])
  rw [km, List.nil_append] at c1
  refine pure_of0 ?_ (by rw [closed_con]; exact closedL_map closed_pd2)
  have e2 : eFn (eCompV (oT 2) [true] (iEnumX (aCons (eOp dIx (eOp dIx (eVar 0) (eC (.int 1))) (eC (.int 1))) (aNil))) (tYes) (eArgs dTup (aCons (eOp dAddX (eOp dIx (eVar 2) (eC (.int 0))) (eArgs dTup (aCons (eVar 0) (aNil)))) (aCons (eVar 1) (aNil))))) [some (pd2 (p, .nd k ps))] G = .ok (.con ((kids p 0 ps).map pd2)) G := by
    rw [eFn_l]
    have e3 : eCompV (oT 2) [true] (iEnumX (aCons (eOp dIx (eOp dIx (eVar 0) (eC (.int 1))) (eC (.int 1))) (aNil))) (tYes) (eArgs dTup (aCons (eOp dAddX (eOp dIx (eVar 2) (eC (.int 0))) (eArgs dTup (aCons (eVar 0) (aNil)))) (aCons (eVar 1) (aNil)))) [some (pd2 (p, .nd k ps))] G = .ok (.obj G.length) (G ++ [.lst ((kids p 0 ps).map pd2)]) := by
      rw [← c1, ← comp_enumT]
      have hq : ∀ G, iEnumX (aCons (eOp dIx (eOp dIx (eVar 0) (eC (.int 1))) (eC (.int 1))) (aNil)) [some (pd2 (p, .nd k ps))] G = .ok ((dL ps).length + 1, vEnumT (dL ps)) G := fun G => by
        rw [hpd]
        simp only [iEnumX_l, aCons_l, aNil_l, eOp_l, eVar_l, eC_l, List.getElem?_cons_zero, bd_ok, bind_l, ret_l, dIx, seqOf, a1]
      rw [eCompV_l, hq, bd_ok]
    rw [e3, fw_new (closedL_map closed_pd2)]
  unfold b_placed_parts
  simp only [runB_l, List.map_cons, List.map_nil, List.length_cons, List.length_nil, Nat.sub_self, List.replicate_zero, List.append_nil, sRet_l, e2, rn_ok, fn_rt]
noncomputable def tot : List (List Int × T) → Nat
  | [] => 0
  | x :: r => x.2.subs.length + tot r
theorem tot_app : ∀ xs ys : List (List Int × T), tot (xs ++ ys) = tot xs + tot ys
  | [], ys => by simp [tot]
  | x :: xs, ys => by rw [List.cons_append, tot, tot, tot_app xs ys]; omega
theorem tot_kids (p : List Int) : ∀ (ts : List T) (j : Int), tot (kids p j ts) = (subsL ts).length
  | [], j => rfl
  | t :: r, j => by rw [kids, tot, tot_kids p r, subsL, List.length_append]
theorem subs_pos (t : T) : 1 ≤ t.subs.length := by cases t; rw [T.subs, List.length_cons]; omega
theorem len_subsL : ∀ ts : List T, ts.length ≤ (subsL ts).length
  | [] => Nat.zero_le _
  | t :: r => by
    have := subs_pos t
    have := len_subsL r
    rw [subsL, List.length_append, List.length_cons]; omega
theorem len_tot : ∀ ws : List (List Int × T), ws.length ≤ tot ws
  | [] => Nat.zero_le _
  | x :: r => by
    have := subs_pos x.2
    have := len_tot r
    rw [tot, List.length_cons]; omega
theorem within_turn (A : DH) (a0 a4 : Option D) (F R P : List D) (d : D) (hp : ∀ H, m_placed_parts [d] H = .ok (.con P) H) (hcl : closedL P = true) (hF : F.length ≤ 1000) (hR : R.length + P.length ≤ 2000) :
    L0_all_within [a0, some (.fn "placed_parts"), some (.obj A.length), some (.obj (A.length + 1)), a4] (A ++ [.lst F, .lst (R ++ [d])]) = .nx [a0, some (.fn "placed_parts"), some (.obj A.length), some (.obj (A.length + 1)), some d] (A ++ [.lst (F ++ [d]), .lst (R ++ P.reverse)]) := by
  have z1 : F.length < sizeLine := Nat.lt_of_lt_of_le (by omega) (lz (n := 1001) (by omega))
  have z2 : R.length + P.reverse.length ≤ sizeLine := lz (by simp; omega)
  have z3 : P.reverse.length ≤ sizeLine := lz (by simp; omega)
  have hlk : List.lookup ("placed_parts" : Str) [("placed_parts", m_placed_parts)] = some m_placed_parts := by simp [List.lookup]
  have e1 : ∀ H, eFn (eArgs dRevL (aCons (eCallV 1 1 (fun y => List.lookup y [("placed_parts", m_placed_parts)]) (aCons (eVar 4) (aNil))) (aNil))) [a0, some (.fn "placed_parts"), some (.obj A.length), some (.obj (A.length + 1)), some d] H = .ok (.con P.reverse) H := fun H => by
    rw [eFn_l]
    simp only [eArgs_l, aCons_l, aNil_l, eCallV_l, eCall_l, eVar_l, List.getElem?_cons_succ, List.getElem?_cons_zero, hlk, bd_ok, bind_l, ret_l, List.length_cons, List.length_nil, if_true, hp, dRevL, seqOf]
    rw [fw_dNew z3 (closed_rev hcl)]
  generalize hE : eFn (eArgs dRevL (aCons (eCallV 1 1 (fun y => List.lookup y [("placed_parts", m_placed_parts)]) (aCons (eVar 4) (aNil))) (aNil))) = E at e1
  have hg : (R ++ [d])[(R ++ [d]).length - 1]? = some d := by simp
  have hd : (R ++ [d]).dropLast = R := by simp
  unfold L0_all_within
  rw [hE]
  simp only [sSeq_l, sSet_l, sExpr_l, eMethT_l, eVar_l, List.getElem?_cons_succ, List.getElem?_cons_zero, bd_ok, kindOk, ga0, ga1, beq_self_eq_true, if_true, aNil_l, dPop, hg, hd, gs1, st_ok, sq_nx, List.set_cons_succ, List.set_cons_zero, aCons_l, bind_l, ret_l, dAppend, if_pos z1, gs0, xp_ok, e1, dExtX, lsOf, if_pos z2]
theorem within_loop (A : DH) (a0 : Option D) : ∀ (n : Nat) (F : List (List Int × T)) (ws : List (List Int × T)) (a4 : Option D), tot ws < n → F.length + tot ws ≤ 1000 → (∀ x ∈ ws, x.1.length + x.2.subs.length ≤ 1000) →
    ∃ b4, sWhile (tBl (eOp dGt (eArgs dLen (aCons (eVar 3) (aNil))) (eC (.int 0)))) L0_all_within n [a0, some (.fn "placed_parts"), some (.obj A.length), some (.obj (A.length + 1)), a4] (A ++ [.lst (F.map pd2), .lst (ws.map pd2).reverse]) =
      .nx [a0, some (.fn "placed_parts"), some (.obj A.length), some (.obj (A.length + 1)), b4] (A ++ [.lst ((F ++ ws.flatMap fun x => x.2.prs x.1).map pd2), .lst []])
  | 0, F, ws, a4, h, _, _ => by omega
  | n + 1, F, [], a4, h, hF, hw => by
    refine ⟨a4, ?_⟩
    simp only [sWhile_l, tBl_l, eOp_l, eArgs_l, aCons_l, aNil_l, eVar_l, eC_l, List.getElem?_cons_succ, List.getElem?_cons_zero, bd_ok, bind_l, ret_l, dLen, seqOf, ga1, List.map_nil, List.reverse_nil, List.length_nil, dInt2, if_true, asBl_b, List.flatMap_nil, List.append_nil]
    rw [show decide ((0 : Int) < ((0 : Nat) : Int)) = false from by decide, cs_f, sSkip_l]
  | n + 1, F, (p, .nd k ps) :: ws, a4, h, hF, hw => by
    have h0 := hw (p, .nd k ps) (by simp)
    simp only [T.subs, List.length_cons] at h0
    rw [tot] at h hF
    simp only [T.subs, List.length_cons] at h hF
    have hl := len_subsL ps
    have hk := tot_kids p ps 0
    have hlt := len_tot ws
    have hkl := kids_len p ps 0
    obtain ⟨b4, e2⟩ := within_loop A a0 n (F ++ [(p, .nd k ps)]) (kids p 0 ps ++ ws) (some (pd2 (p, .nd k ps))) (by rw [tot_app]; omega) (by rw [tot_app]; simp; omega) (fun x hx => by
      rcases List.mem_append.mp hx with hx | hx
      · have key : ∀ (ts : List T) (j : Int), x ∈ kids p j ts → x.1.length = p.length + 1 ∧ x.2.subs.length ≤ (subsL ts).length := by
          intro ts
          induction ts with
          | nil => intro j hx; simp [kids] at hx
          | cons t r ih =>
            intro j hx
            rw [kids] at hx
            rw [subsL, List.length_append]
            rcases List.mem_cons.mp hx with rfl | hx
            · exact ⟨by simp, by simp⟩
            · obtain ⟨i1, i2⟩ := ih _ hx
              exact ⟨i1, by omega⟩
        obtain ⟨i1, i2⟩ := key ps 0 hx
        omega
      · exact hw x (by simp [hx]))
    refine ⟨b4, ?_⟩
    have e1 := within_turn A a0 a4 (F.map pd2) (ws.map pd2).reverse ((kids p 0 ps).map pd2) (pd2 (p, .nd k ps)) (parts_eq p k ps (by omega) (by omega)) (closedL_map closed_pd2) (by simp; omega) (by simp; omega)
    have er : (((p, T.nd k ps) :: ws).map pd2).reverse = (ws.map pd2).reverse ++ [pd2 (p, .nd k ps)] := by simp
    have er2 : ((ws.map pd2).reverse ++ ((kids p 0 ps).map pd2).reverse) = ((kids p 0 ps ++ ws).map pd2).reverse := by simp
    have ef : F.map pd2 ++ [pd2 (p, T.nd k ps)] = (F ++ [(p, T.nd k ps)]).map pd2 := by simp
    have eb : (F ++ ((p, T.nd k ps) :: ws).flatMap fun x => x.2.prs x.1) = (F ++ [(p, .nd k ps)] ++ (kids p 0 ps ++ ws).flatMap fun x => x.2.prs x.1) := by
      rw [List.flatMap_cons, T.prs, List.flatMap_append, ← prsL_kids]; simp
    rw [er2, ef] at e1
    rw [er, eb]
    have hpos : decide ((0 : Int) < (((ws.map pd2).reverse ++ [pd2 (p, .nd k ps)]).length : Int)) = true := by simp
    have et : tBl (eOp dGt (eArgs dLen (aCons (eVar 3) (aNil))) (eC (.int 0))) [a0, some (.fn "placed_parts"), some (.obj A.length), some (.obj (A.length + 1)), a4] (A ++ [.lst (F.map pd2), .lst ((ws.map pd2).reverse ++ [pd2 (p, .nd k ps)])]) = .ok true (A ++ [.lst (F.map pd2), .lst ((ws.map pd2).reverse ++ [pd2 (p, .nd k ps)])]) := by
      generalize (ws.map pd2).reverse ++ [pd2 (p, .nd k ps)] = L at hpos
      simp only [tBl_l, eOp_l, eArgs_l, aCons_l, aNil_l, eVar_l, eC_l, List.getElem?_cons_succ, List.getElem?_cons_zero, bd_ok, bind_l, ret_l, dLen, seqOf, ga1, dInt2, if_true, asBl_b, hpos]
    rw [sWhile_l, et, cs_t, whB_l, e1, lp_nx, e2]
theorem within_eq (t : T) (ht : t.subs.length ≤ 500) (G : DH) : m_all_within [pd2 ([], t), .fn "placed_parts"] G = .ok (.con ((t.prs []).map pd2)) G := by
  have z1 : (1 : Nat) ≤ sizeLine := lz (by omega)
  obtain ⟨b4, e⟩ := within_loop G (some (pd2 ([], t))) fuel [] [([], t)] none (by simp [tot, fuel]; omega) (by simp [tot]; omega) (fun x hx => by rw [List.mem_singleton.mp hx]; simp; omega)
  simp only [List.map_nil, List.map_cons, List.reverse_cons, List.reverse_nil, List.nil_append, List.flatMap_cons, List.flatMap_nil, List.append_nil] at e
  refine pure_of (R := [.dead, .lst []]) ?_ (by rw [closed_con]; exact closedL_map closed_pd2)
  have hn : dNew [] G = .ok (.obj G.length) (G ++ [.lst []]) := by simp [dNew]
  generalize (t.prs []).map pd2 = L at e
  generalize pd2 ([], t) = d at e
  have hn2 : dNew [d] (G ++ [.lst []]) = .ok (.obj (G.length + 1)) (G ++ [.lst [], .lst [d]]) := by simp [dNew, z1]
  unfold b_all_within
  simp [sSeq_l, sq_nx, sq_rt, sq_st, sq_bk, sq_ct, sq_xn, sIf_l, cs_t, cs_f, cs_x, sSet_l, st_ok, st_x, sExpr_l, xp_ok, xp_x, sRet_l, rn_ok, rn_x, sSkip_l, sRetN_l, bd_ok, bd_x, bd_s, bind_l, ret_l, stop_l, eVar_l, eC_l, eOp_l, eArgs_l, aNil_l, aCons_l, tBl_l, asBl_b, tTruth_l, tNotD_l, tOrD_l, tAndD_l, eIsi_l, eCall_l, eMethT_l, eIf_l, sForRng_l, sForIn_l, sForV_l, sb_ok, sb_x, eComp_l, eCompR_l, eCompV_l, runB_l, fn_nx, fn_rt, fn_x, eSl_l, oNone_l, oSome_l, asInt_i, eNeg_l, neg1_i, iEnum_l, eCallV_l, sRaise_l, eUn_l, sWhile_l, whB_l, lp_nx, lp_ct, lp_bk, lp_rt, lp_xn, fw_tup, fw_con, fw_str, fw_int, fz_at, iRev_l, iZip_l, iEnumX_l, iRng3_l, eDNew_l, eDGet2_l, sDPut_l, eFz_l, dTru, dIx, seqOf, dInt2, dInt2L, dLen, dAddX, dTup, kindOk, dAppend, dPop, dIsi, tyD, Ty.is, hn, hn2, e]
theorem placed_eq (t : T) (ht : t.subs.length ≤ 500) (G : DH) : m_placed_trees [t.d] G = .ok (.con ((t.prs []).map pd2)) G := by
  have z0 : (0 : Nat) ≤ sizeLine := Nat.zero_le _
  have z2 : (2 : Nat) ≤ sizeLine := lz (by omega)
  have e := within_eq t ht G
  have ep : pd2 ([], t) = .tup [.tup [], t.d] := rfl
  rw [ep] at e
  refine pure_of0 ?_ (by rw [closed_con]; exact closedL_map closed_pd2)
  generalize t.d = d at e
  unfold b_placed_trees
  simp [sSeq_l, sq_nx, sq_rt, sq_st, sq_bk, sq_ct, sq_xn, sIf_l, cs_t, cs_f, cs_x, sSet_l, st_ok, st_x, sExpr_l, xp_ok, xp_x, sRet_l, rn_ok, rn_x, sSkip_l, sRetN_l, bd_ok, bd_x, bd_s, bind_l, ret_l, stop_l, eVar_l, eC_l, eOp_l, eArgs_l, aNil_l, aCons_l, tBl_l, asBl_b, tTruth_l, tNotD_l, tOrD_l, tAndD_l, eIsi_l, eCall_l, eMethT_l, eIf_l, sForRng_l, sForIn_l, sForV_l, sb_ok, sb_x, eComp_l, eCompR_l, eCompV_l, runB_l, fn_nx, fn_rt, fn_x, eSl_l, oNone_l, oSome_l, asInt_i, eNeg_l, neg1_i, iEnum_l, eCallV_l, sRaise_l, eUn_l, sWhile_l, whB_l, lp_nx, lp_ct, lp_bk, lp_rt, lp_xn, fw_tup, fw_con, fw_str, fw_int, fz_at, iRev_l, iZip_l, iEnumX_l, iRng3_l, eDNew_l, eDGet2_l, sDPut_l, eFz_l, dTru, dIx, seqOf, dInt2, dInt2L, dLen, dAddX, dTup, kindOk, dAppend, dPop, dIsi, tyD, Ty.is, e, z2]
noncomputable def fst2 : D → D
  | .tup [x, _] => x
  | _ => .non
theorem comp_places (t : T) (ht : t.subs.length ≤ 500) (G : DH) : eComp (oT 2) [] (eCall 1 m_placed_trees (aCons (eVar 0) (aNil))) (tYes) (eVar 0) [some t.d] G = .ok (.obj G.length) (G ++ [.lst (((t.prs []).map (·.1)).map pl)]) := by
  have hl : (t.prs []).length = t.subs.length := by rw [← prs_subs [] t, List.length_map]
  have c1 := compP_map (τ := [some t.d]) (G := G) (gO := oT 2) (ks := []) (te := eVar 0) (own := kown) (f := fst2) ((t.prs []).map pd2) [] (by simp; omega) (fun x hx => by
      obtain ⟨y, _, rfl⟩ := List.mem_map.mp hx
      rfl) (fun x hx acc => by
      obtain ⟨y, _, rfl⟩ := List.mem_map.mp hx
      rfl)
  have ef : ((t.prs []).map pd2).map fst2 = ((t.prs []).map (·.1)).map pl := by
    rw [List.map_map, List.map_map]; rfl
  rw [ef, List.nil_append] at c1
  have e := placed_eq t ht G
  rw [← c1]
  generalize ((t.prs []).map pd2) = L at e
  generalize t.d = d at e
  simp only [eComp_l, eCall_l, aCons_l, aNil_l, eVar_l, List.getElem?_cons_zero, bd_ok, bind_l, ret_l, List.length_cons, List.length_nil, if_true, e]
theorem places_eq (t : T) (ht : t.subs.length ≤ 500) (G : DH) : m_all_places [t.d] G = .ok (.con (((t.prs []).map (·.1)).map pl)) G := by
  have hc : closedL (((t.prs []).map (·.1)).map pl) = true := closedL_map closed_pl'
  refine pure_of0 ?_ (by rw [closed_con]; exact hc)
  have e := comp_places t ht G
  have e2 : eFn (eComp (oT 2) [] (eCall 1 m_placed_trees (aCons (eVar 0) (aNil))) (tYes) (eVar 0)) [some t.d] G = .ok (.con (((t.prs []).map (·.1)).map pl)) G := by rw [eFn_l, e, fw_new hc]
  unfold b_all_places
  simp only [runB_l, List.map_cons, List.map_nil, List.length_cons, List.length_nil, Nat.sub_self, List.replicate_zero, List.append_nil, sRet_l, e2, rn_ok, fn_rt]
theorem places_o (t : T) (ht : t.subs.length ≤ 500) (G : DH) : m_all_places_o [t.d] G = .ok (.obj G.length) (G ++ [.lst (((t.prs []).map (·.1)).map pl)]) := by
  have hc : closedL (((t.prs []).map (·.1)).map pl) = true := closedL_map closed_pl'
  refine fresh_of ?_ hc
  have e := comp_places t ht G
  unfold b_all_places_o
  simp only [runB_l, List.map_cons, List.map_nil, List.length_cons, List.length_nil, Nat.sub_self, List.replicate_zero, List.append_nil, sRet_l, e, rn_ok, fn_rt]
end K31
end
section
set_option Elab.async false
set_option linter.all false
set_option maxRecDepth 100000
set_option maxHeartbeats 1000000
namespace K31
open PySem PySem.Spec L2 L3
theorem prsL_mem (p : List Int) : ∀ (ts : List T) (j : Int) (x : List Int × T), x ∈ prsL p j ts → ∃ (i : Nat) (t : T), ts[i]? = some t ∧ x ∈ t.prs (p ++ [j + (i : Int)])
  | [], j, x, h => by simp [prsL] at h
  | t :: r, j, x, h => by
    rw [prsL] at h
    rcases List.mem_append.mp h with h | h
    · exact ⟨0, t, rfl, by simpa using h⟩
    · obtain ⟨i, t', e, m⟩ := prsL_mem p r (j + 1) x h
      refine ⟨i + 1, t', by simpa using e, ?_⟩
      rw [show j + ((i + 1 : Nat) : Int) = j + 1 + (i : Int) by omega]; exact m
theorem sub_mem : ∀ (ts : List T) (i : Nat) (t : T), ts[i]? = some t → t.subs.length ≤ (subsL ts).length
  | [], i, t, h => by simp at h
  | x :: r, 0, t, h => by
    simp at h; subst h
    rw [subsL, List.length_append]; omega
  | x :: r, i + 1, t, h => by
    have := sub_mem r i t (by simpa using h)
    rw [subsL, List.length_append]; omega
theorem at_turn (k : Str) (ps : List T) (i : Nat) (t : T) (h : ps[i]? = some t) (b1 : Option D) (G : DH) : L0_tree_at [some (T.nd k ps).d, b1, some (.int (i : Int))] G = .nx [some t.d, b1, some (.int (i : Int))] G := by
  have a1 : ∀ (x y : D), atI [x, y] 1 = some y := fun x y => by
    have := atI_nat (xs := [x, y]) (j := 1) (v := y) rfl
    simpa using this
  have a2 : atI (dL ps) (i : Int) = some t.d := by
    refine atI_nat ?_
    rw [dL_map, List.getElem?_map, h]; rfl
  rw [T.d]
  generalize t.d = d at a2
  unfold L0_tree_at
  simp only [sSet_l, eOp_l, eVar_l, eC_l, List.getElem?_cons_succ, List.getElem?_cons_zero, bd_ok, bind_l, dIx, seqOf, a1, a2, st_ok, List.set_cons_zero]
theorem at_walk (b1 : Option D) (G : DH) : ∀ (n : Nat) (t : T) (p : List Int) (x : List Int × T), t.subs.length ≤ n → x ∈ t.prs p → ∃ w : List Int, x.1 = p ++ w ∧ ∀ b2, ∃ c2, forP (gN 2) L0_tree_at (w.map .int) [some t.d, b1, b2] G = .nx [some x.2.d, b1, c2] G
  | 0, t, p, x, hn, h => by have := subs_pos t; omega
  | n + 1, .nd k ps, p, x, hn, h => by
    rw [T.prs] at h
    rcases List.mem_cons.mp h with rfl | h
    · exact ⟨[], by simp, fun b2 => ⟨b2, by simp [forP]⟩⟩
    · obtain ⟨i, t, e, m⟩ := prsL_mem p ps 0 x h
      have hs := sub_mem ps i t e
      rw [T.subs, List.length_cons] at hn
      obtain ⟨w, e1, e2⟩ := at_walk b1 G n t _ x (by omega) m
      refine ⟨(0 + (i : Int)) :: w, by rw [e1]; simp, fun b2 => ?_⟩
      obtain ⟨c2, e3⟩ := e2 (some (.int (i : Int)))
      refine ⟨c2, ?_⟩
      rw [List.map_cons, forP_cons rfl]
      have := at_turn k ps i t e b1 G
      simp only [List.set_cons_succ, List.set_cons_zero, Int.zero_add, this, lp_nx]
      exact e3
theorem at_eq (t : T) (x : List Int × T) (h : x ∈ t.prs []) (G : DH) : m_tree_at [t.d, pl x.1] G = .ok x.2.d G := by
  obtain ⟨w, e1, e2⟩ := at_walk (some (pl x.1)) G _ t [] x (Nat.le_refl _) h
  obtain ⟨c2, e3⟩ := e2 none
  rw [List.nil_append] at e1
  refine pure_of0 ?_ (closed_d _)
  have hp : pl x.1 = .tup (w.map .int) := by rw [e1]; rfl
  rw [hp] at e3 ⊢
  generalize x.2.d = y at e3
  generalize t.d = z at e3
  generalize w.map D.int = ws at e3
  unfold b_tree_at
  simp [sSeq_l, sq_nx, sq_rt, sq_st, sq_bk, sq_ct, sq_xn, sIf_l, cs_t, cs_f, cs_x, sSet_l, st_ok, st_x, sExpr_l, xp_ok, xp_x, sRet_l, rn_ok, rn_x, sSkip_l, sRetN_l, bd_ok, bd_x, bd_s, bind_l, ret_l, stop_l, eVar_l, eC_l, eOp_l, eArgs_l, aNil_l, aCons_l, tBl_l, asBl_b, tTruth_l, tNotD_l, tOrD_l, tAndD_l, eIsi_l, eCall_l, eMethT_l, eIf_l, sForRng_l, sForIn_l, sForV_l, sb_ok, sb_x, eComp_l, eCompR_l, eCompV_l, runB_l, fn_nx, fn_rt, fn_x, eSl_l, oNone_l, oSome_l, asInt_i, eNeg_l, neg1_i, iEnum_l, eCallV_l, sRaise_l, eUn_l, sWhile_l, whB_l, lp_nx, lp_ct, lp_bk, lp_rt, lp_xn, fw_tup, fw_con, fw_str, fw_int, fz_at, iRev_l, iZip_l, iEnumX_l, iRng3_l, eDNew_l, eDGet2_l, sDPut_l, eFz_l, dTru, dIx, seqOf, dInt2, dInt2L, dLen, dAddX, dTup, kindOk, dAppend, dPop, dIsi, tyD, Ty.is, e3]
theorem blsOf_false : ∀ n : Nat, blsOf (List.replicate n (.bl false)) = some (List.replicate n false)
  | 0 => rfl
  | n + 1 => by rw [List.replicate_succ, blsOf, blsOf_false n]; rfl
theorem same_turn (p : List Int) (hp : p.length ≤ 1000) (a0 a1 : Option D) (G : DH) : L0__law_same [a0, a1, some (pl p)] G = .nx [a0, a1, some (pl p)] G := by
  have c1 := compP_map (τ := [a0, a1, some (pl p)]) (G := G) (gO := oN) (ks := []) (te := eIsi .bl (eVar 0)) (own := fun x => [x]) (f := fun _ => .bl false) (p.map .int) [] (by simp; omega) (fun x _ => rfl) (fun x hx acc => by
    obtain ⟨i, _, rfl⟩ := List.mem_map.mp hx
    rfl)
  have er : (p.map D.int).map (fun _ => D.bl false) = List.replicate p.length (.bl false) := List.eq_replicate_iff.mpr ⟨by simp, fun b hb => by obtain ⟨_, _, rfl⟩ := List.mem_map.mp hb; rfl⟩
  rw [er, List.nil_append] at c1
  have e1 : eFn (eComp oN [] (eVar 2) (tYes) (eIsi .bl (eVar 0))) [a0, a1, some (pl p)] G = .ok (.con (List.replicate p.length (.bl false))) G := by
    rw [eFn_l]
    have e2 : eComp oN [] (eVar 2) (tYes) (eIsi .bl (eVar 0)) [a0, a1, some (pl p)] G = .ok (.obj G.length) (G ++ [.lst (List.replicate p.length (.bl false))]) := by
      rw [← c1]
      simp only [eComp_l, eVar_l, List.getElem?_cons_succ, List.getElem?_cons_zero, bd_ok, pl]
    rw [e2, fw_new (closedL_of fun x hx => by rw [(List.mem_replicate.mp hx).2]; exact closed_bl)]
  have hb := blsOf_false p.length
  generalize List.replicate p.length (D.bl false) = L at e1 hb
  generalize hE : eFn (eComp oN [] (eVar 2) (tYes) (eIsi .bl (eVar 0))) = E at e1
  have hany : (List.replicate p.length false).any id = false := by simp
  unfold L0__law_same
  rw [hE]
  have ht : dIsi .tup (pl p) G = .ok (.bl true) G := rfl
  generalize pl p = d at ht e1
  simp only [sIf_l, tOrD_l, tNotD_l, tTruth_l, eIsi_l, eVar_l, List.getElem?_cons_succ, List.getElem?_cons_zero, bd_ok, ht, dTru, ret_l, Bool.not_true, Bool.false_eq_true, if_false, bind_l, eArgs_l, aCons_l, aNil_l, e1, dAll, seqOf, hb, if_true, hany, cs_f, sSkip_l]
theorem same_forP (a0 a1 : Option D) (G : DH) : ∀ (ps : List (List Int)) (a2 : Option D), (∀ p ∈ ps, p.length ≤ 1000) → ∃ b2, forP (gN 2) L0__law_same (ps.map pl) [a0, a1, a2] G = .nx [a0, a1, b2] G
  | [], a2, _ => ⟨a2, by simp [forP]⟩
  | p :: ps, a2, h => by
    obtain ⟨b2, e⟩ := same_forP a0 a1 G ps (some (pl p)) fun q hq => h q (by simp [hq])
    refine ⟨b2, ?_⟩
    rw [List.map_cons, forP_cons rfl]
    simp only [List.set_cons_succ, List.set_cons_zero, same_turn p (h p (by simp)), lp_nx]
    exact e
theorem same_forO (a0 a1 : Option D) (G : DH) (n : Nat) (ps : List (List Int)) (hg : G[n]? = some (.lst (ps.map pl))) (h : ∀ p ∈ ps, p.length ≤ 1000) : ∀ (fu j : Nat) (a2 : Option D), ps.length < fu + j → j ≤ ps.length → ∃ b2, forO (gN 2) L0__law_same n fu j [a0, a1, a2] G = .nx [a0, a1, b2] G
  | 0, j, a2, h1, h2 => by omega
  | fu + 1, j, a2, h1, h2 => by
    by_cases hj : j < ps.length
    · obtain ⟨b2, e⟩ := same_forO a0 a1 G n ps hg h fu (j + 1) (some (pl ps[j])) (by omega) (by omega)
      refine ⟨b2, ?_⟩
      rw [forO_l hg (x := pl ps[j]) (by rw [List.getElem?_map, List.getElem?_eq_getElem hj]; rfl) rfl]
      simp only [List.set_cons_succ, List.set_cons_zero, same_turn ps[j] (h _ (List.getElem_mem hj)), lp_nx]
      exact e
    · exact ⟨a2, forO_end hg (by rw [List.getElem?_eq_none]; simp; omega)⟩
theorem plain_pl (p : List Int) : (pl p).plain = true := by
  rw [pl, D.plain]
  exact plainL_of fun x hx => by
    obtain ⟨i, _, rfl⟩ := List.mem_map.mp hx
    simp [D.plain]
theorem dp_pl (p : List Int) : (pl p).dp ≤ 1 := by
  rw [pl, D.dp]
  have : dpL (p.map D.int) ≤ 0 := dpL_of fun x hx => by
    obtain ⟨i, _, rfl⟩ := List.mem_map.mp hx
    simp [D.dp]
  omega
theorem plain_pls (ps : List (List Int)) : plainL (ps.map pl) = true := plainL_of fun x hx => by
  obtain ⟨p, _, rfl⟩ := List.mem_map.mp hx
  exact plain_pl p
theorem dp_pls (ps : List (List Int)) : dpL (ps.map pl) ≤ 1 := dpL_of fun x hx => by
  obtain ⟨p, _, rfl⟩ := List.mem_map.mp hx
  exact dp_pl p
theorem same_con (ps : List (List Int)) (h : ∀ p ∈ ps, p.length ≤ 1000) (G : DH) : m__law_same [.con (ps.map pl), .con (ps.map pl)] G = .ok (.bl true) G := by
  obtain ⟨b2, e⟩ := same_forP (some (.con (ps.map pl))) (some (.con (ps.map pl))) G ps none h
  have hq := dEq_self true (.con (ps.map pl)) G (by rw [D.plain]; exact plain_pls ps) (by rw [D.dp]; have := dp_pls ps; omega)
  refine pure_of0 ?_ closed_bl
  generalize ps.map pl = L at e hq
  unfold b__law_same
  simp [sSeq_l, sq_nx, sq_rt, sq_st, sq_bk, sq_ct, sq_xn, sIf_l, cs_t, cs_f, cs_x, sSet_l, st_ok, st_x, sExpr_l, xp_ok, xp_x, sRet_l, rn_ok, rn_x, sSkip_l, sRetN_l, bd_ok, bd_x, bd_s, bind_l, ret_l, stop_l, eVar_l, eC_l, eOp_l, eArgs_l, aNil_l, aCons_l, tBl_l, asBl_b, tTruth_l, tNotD_l, tOrD_l, tAndD_l, eIsi_l, eCall_l, eMethT_l, eIf_l, sForRng_l, sForIn_l, sForV_l, sb_ok, sb_x, eComp_l, eCompR_l, eCompV_l, runB_l, fn_nx, fn_rt, fn_x, eSl_l, oNone_l, oSome_l, asInt_i, eNeg_l, neg1_i, iEnum_l, eCallV_l, sRaise_l, eUn_l, sWhile_l, whB_l, lp_nx, lp_ct, lp_bk, lp_rt, lp_xn, fw_tup, fw_con, fw_str, fw_int, fz_at, iRev_l, iZip_l, iEnumX_l, iRng3_l, eDNew_l, eDGet2_l, sDPut_l, eFz_l, dTru, dIx, seqOf, dInt2, dInt2L, dLen, dAddX, dTup, kindOk, dAppend, dPop, dIsi, tyD, Ty.is, hq, e]
theorem same_obj (ps : List (List Int)) (h : ∀ p ∈ ps, p.length ≤ 1000) (n : Nat) (G : DH) (hg : G[n]? = some (.lst (ps.map pl))) : m__law_same [.obj n, .con (ps.map pl)] G = .ok (.bl true) G := by
  obtain ⟨b2, e⟩ := same_forO (some (.obj n)) (some (.con (ps.map pl))) G n ps hg h (ps.length + 1) 0 none (by omega) (by omega)
  have hq := dEq_obj true (ps.map pl) n G hg (plain_pls ps) (by have := dp_pls ps; omega)
  refine pure_of0 ?_ closed_bl
  have hl : ps.length = (ps.map pl).length := by simp
  rw [hl] at e
  generalize ps.map pl = L at e hq hg
  unfold b__law_same
  simp [sSeq_l, sq_nx, sq_rt, sq_st, sq_bk, sq_ct, sq_xn, sIf_l, cs_t, cs_f, cs_x, sSet_l, st_ok, st_x, sExpr_l, xp_ok, xp_x, sRet_l, rn_ok, rn_x, sSkip_l, sRetN_l, bd_ok, bd_x, bd_s, bind_l, ret_l, stop_l, eVar_l, eC_l, eOp_l, eArgs_l, aNil_l, aCons_l, tBl_l, asBl_b, tTruth_l, tNotD_l, tOrD_l, tAndD_l, eIsi_l, eCall_l, eMethT_l, eIf_l, sForRng_l, sForIn_l, sForV_l, sb_ok, sb_x, eComp_l, eCompR_l, eCompV_l, runB_l, fn_nx, fn_rt, fn_x, eSl_l, oNone_l, oSome_l, asInt_i, eNeg_l, neg1_i, iEnum_l, eCallV_l, sRaise_l, eUn_l, sWhile_l, whB_l, lp_nx, lp_ct, lp_bk, lp_rt, lp_xn, fw_tup, fw_con, fw_str, fw_int, fz_at, iRev_l, iZip_l, iEnumX_l, iRng3_l, eDNew_l, eDGet2_l, sDPut_l, eFz_l, dTru, dIx, seqOf, dInt2, dInt2L, dLen, dAddX, dTup, kindOk, dAppend, dPop, dIsi, tyD, Ty.is, hq, hg, e]
end K31
end
section
set_option Elab.async false
set_option linter.all false
set_option maxRecDepth 100000
set_option maxHeartbeats 1000000
namespace K31
open PySem PySem.Spec L2 L3
mutual
theorem prs_short : ∀ (t : T) (p : List Int) (x : List Int × T), x ∈ t.prs p → x.1.length ≤ p.length + t.subs.length
  | .nd k ps, p, x, h => by
    rw [T.prs] at h
    rw [T.subs, List.length_cons]
    rcases List.mem_cons.mp h with rfl | h
    · simp
    · have := prsL_short ps p 0 x h; omega
theorem prsL_short : ∀ (ts : List T) (p : List Int) (j : Int) (x : List Int × T), x ∈ prsL p j ts → x.1.length ≤ p.length + 1 + (subsL ts).length
  | [], p, j, x, h => by simp [prsL] at h
  | t :: r, p, j, x, h => by
    rw [prsL] at h
    rw [subsL, List.length_append]
    rcases List.mem_append.mp h with h | h
    · have := prs_short t (p ++ [j]) x h
      simp at this; omega
    · have := prsL_short r p (j + 1) x h; omega
end
theorem law_loop (t : T) (hg : t.good = true) (hl : t.subs.length ≤ 100) (TS : D) (hT : ∀ G, dIx TS (.int 0) G = .ok t.d G) (a0 a1 a2 a4 a5 : Option D) (G : DH) : ∀ (xs : List (List Int × T)) (a6 a7 : Option D), (∀ x ∈ xs, x ∈ t.prs []) →
    ∃ b6 b7, forP (gP 6 7) L0_law (List.zipWith (fun x y => D.tup [x, y]) ((xs.map (·.1)).map pl) ((xs.map (·.2)).map T.d)) [a0, a1, a2, some TS, a4, a5, a6, a7] G = .nx [a0, a1, a2, some TS, a4, a5, b6, b7] G
  | [], a6, a7, h => ⟨a6, a7, by simp [forP]⟩
  | x :: xs, a6, a7, h => by
    obtain ⟨b6, b7, e⟩ := law_loop t hg hl TS hT a0 a1 a2 a4 a5 G xs (some (pl x.1)) (some x.2.d) fun y hy => h y (by simp [hy])
    refine ⟨b6, b7, ?_⟩
    have hx := h x (by simp)
    have ha := at_eq t x hx G
    have hs : x.2 ∈ t.subs := by rw [← prs_subs [] t]; exact List.mem_map.mpr ⟨x, hx, rfl⟩
    have hq := dEq_self true x.2.d G (good_plain _ (good_sub t _ hg hs)) (by have := dp_d x.2; have := sub_le t _ hs; omega)
    simp only [List.map_cons, List.zipWith_cons_cons]
    rw [forP_cons (τ1 := [a0, a1, a2, some TS, a4, a5, some (pl x.1), some x.2.d]) rfl]
    have e1 : L0_law [a0, a1, a2, some TS, a4, a5, some (pl x.1), some x.2.d] G = .nx [a0, a1, a2, some TS, a4, a5, some (pl x.1), some x.2.d] G := by
      generalize x.2.d = y at ha hq
      generalize pl x.1 = z at ha
      have hT' := hT G
      generalize t.d = w at ha hT'
      unfold L0_law
      simp only [sIf_l, tBl_l, eOp_l, eCall_l, aCons_l, aNil_l, eVar_l, eC_l, List.getElem?_cons_succ, List.getElem?_cons_zero, bd_ok, bind_l, ret_l, hT', List.length_cons, List.length_nil, if_true, ha, hq, asBl_b, Bool.true_xor, Bool.not_true, cs_f, sSkip_l]
    rw [e1, lp_nx]
    exact e
theorem law_true (ns : List Int) (hl : ns.length ≤ 63) : ∃ G, m_law [.con (ns.map .int)] [] = .ok (.bl true) G := by
  obtain ⟨c, e1⟩ := head_sum ns [none, none, none, none, none, none, none] []
  obtain ⟨ws, hws, hok, e2⟩ := names_eq c []
  obtain ⟨x0, hx0, _, e3⟩ := cells_eq ns hl 0 (by omega) []
  obtain ⟨x1, hx1, hx1', e4⟩ := cells_eq ns hl 1 (by omega) []
  obtain ⟨m, hm1, hm2, e5⟩ := most_eq ns []
  obtain ⟨rs, e, hv, hrl, hrs, e6⟩ := rows_eq (x0 ++ x1) (by simp; omega) ws hws hok m hm2 []
  obtain ⟨t, ht1, ht2⟩ := tree_of hv
  have hpl : t.subs.length ≤ 100 := by rw [← pre_len 0 t, ← ht1]; exact hrl
  have hgood : t.good = true := pre_good 0 t (by rw [← ht1]; exact hrs)
  have e7 := trees_eq rs hrl
  rw [ht2] at e7
  have e8 := spots_eq t hpl
  rw [← ht1] at e8
  have e9 := places_o t (by omega) []
  have e10 := places_eq t (by omega)
  have hshort : ∀ p ∈ (t.prs []).map (·.1), p.length ≤ 1000 := fun p hp => by
    obtain ⟨x, hx, rfl⟩ := List.mem_map.mp hp
    have := prs_short t [] x hx
    simp at this; omega
  have s1 := same_obj _ hshort 0 [.lst (((t.prs []).map (·.1)).map pl)] rfl
  have s2 := same_con _ hshort
  have h0 : atI (t.subs.map T.d) 0 = some t.d := by
    have := atI_nat (xs := t.subs.map T.d) (j := 0) (v := t.d) (by cases t; rw [T.subs]; rfl)
    simpa using this
  have hT : ∀ G, dIx (.con (t.subs.map T.d)) (.int 0) G = .ok t.d G := fun G => by
    simp only [dIx, seqOf, h0]
  obtain ⟨b6, b7, e11⟩ := law_loop t hgood hpl (.con (t.subs.map T.d)) hT (some (.con (ns.map .int))) (some (.con (ws.map .str))) (some (.con (rs.map row))) (some (.con (((t.prs []).map (·.1)).map pl))) (some (.obj 0)) [.lst (((t.prs []).map (·.1)).map pl)] (t.prs []) none none (fun x hx => hx)
  rw [prs_subs [] t] at e11
  have hfin : ∀ G, dEq false (.con (t.subs.map T.d)) (.con (t.subs.map T.d)) G = .ok (.bl (false ^^ true)) G := fun G => dEq_self false _ G (by
      rw [D.plain]
      exact plainL_of fun x hx => by
        obtain ⟨s, hs, rfl⟩ := List.mem_map.mp hx
        exact good_plain s (good_sub t s hgood hs)) (by
      rw [D.dp]
      have : dpL (t.subs.map T.d) ≤ 200 := dpL_of fun x hx => by
        obtain ⟨s, hs, rfl⟩ := List.mem_map.mp hx
        have := dp_d s
        have := sub_le t s hs
        omega
      omega)
  have hz1 : (0 : Nat) < sizeLine := Nat.lt_of_lt_of_le (by omega) (lz (n := 1) (by omega))
  have hc2 : closedL (x0.map D.int ++ x1.map D.int) = true := by rw [← List.map_append]; exact closedL_map fun _ => closed_int
  have hcz : (x0.map D.int ++ x1.map D.int).length ≤ sizeLine := lz (by simp; omega)
  rw [List.map_append] at e6
  rw [show (((0 : Nat) : Int)) = 0 from rfl] at e3
  rw [show (((1 : Nat) : Int)) = 1 from rfl] at e4
  generalize hx0' : x0.map D.int = X0 at e3 e6 hc2 hcz
  generalize hx1'' : x1.map D.int = X1 at e4 e6 hc2 hcz
  generalize ws.map D.str = W at e2 e6 e11
  generalize hR : rs.map row = R at e6 e7 e8 e11
  generalize ((t.prs []).map (·.1)).map pl = P at e8 e9 e10 s1 s2 e11
  generalize t.subs.map T.d = Q at e7 hT e11 hfin h0
  generalize t.d = z at e9 e10 hT h0
  generalize ns.map D.int = N at e1 e3 e4 e5 e11
  refine ⟨[], pure_of (R := [.lst [.tup []]]) ?_ closed_bl⟩
  have c1 : eFn (eOp dAddX (eCall 2 m__law_cells (aCons (eVar 0) (aCons (eC (.int 0)) (aNil)))) (eCall 2 m__law_cells (aCons (eVar 0) (aCons (eC (.int 1)) (aNil))))) [some (.con N), some (.con W), none, none, none, none, none, none] [] = .ok (.con (X0 ++ X1)) [] := by
    rw [eFn_l]
    simp only [eOp_l, eCall_l, aCons_l, aNil_l, eVar_l, eC_l, List.getElem?_cons_zero, bd_ok, bind_l, ret_l, List.length_cons, List.length_nil, if_true, e3, e4]
    show (dNew (X0 ++ X1) []).fw [] = _
    rw [fw_dNew hcz hc2]
  generalize hC : eFn (eOp dAddX (eCall 2 m__law_cells (aCons (eVar 0) (aCons (eC (.int 0)) (aNil)))) (eCall 2 m__law_cells (aCons (eVar 0) (aCons (eC (.int 1)) (aNil))))) = C at c1
  generalize hS : eArgs dSum (aCons (eFn (eSl (eVar 0) (oNone) (oSome (eC (.int 1))))) (aNil)) = S at e1
  unfold b_law
  rw [hC, hS]
  simp only [List.nil_append, List.length_nil] at e9
  have hz0 : (0 : Nat) ≤ sizeLine := Nat.zero_le _
  simp [sSeq_l, sq_nx, sq_rt, sq_st, sq_bk, sq_ct, sq_xn, sIf_l, cs_t, cs_f, cs_x, sSet_l, st_ok, st_x, sExpr_l, xp_ok, xp_x, sRet_l, rn_ok, rn_x, sSkip_l, sRetN_l, bd_ok, bd_x, bd_s, bind_l, ret_l, stop_l, eVar_l, eC_l, eOp_l, eArgs_l, aNil_l, aCons_l, tBl_l, asBl_b, tTruth_l, tNotD_l, tOrD_l, tAndD_l, eIsi_l, eCall_l, eMethT_l, eIf_l, sForRng_l, sForIn_l, sForV_l, sb_ok, sb_x, eComp_l, eCompR_l, eCompV_l, runB_l, fn_nx, fn_rt, fn_x, eSl_l, oNone_l, oSome_l, asInt_i, eNeg_l, neg1_i, iEnum_l, eCallV_l, sRaise_l, eUn_l, sWhile_l, whB_l, lp_nx, lp_ct, lp_bk, lp_rt, lp_xn, fw_tup, fw_con, fw_str, fw_int, fz_at, iRev_l, iZip_l, iEnumX_l, iRng3_l, eDNew_l, eDGet2_l, sDPut_l, eFz_l, dTru, dIx, seqOf, dInt2, dInt2L, dLen, dAddX, dTup, kindOk, dAppend, dPop, dIsi, tyD, Ty.is, e1, e2, e5, c1, e6, e7, e8, h0, e9, s1, for_zip, e11, T0_law, dClear, hz0, hz1, e10, s2, hfin, eAnd]
end K31
end
section
set_option Elab.async false
set_option linter.all false
set_option maxRecDepth 100000
set_option maxHeartbeats 4000000
namespace K31
open PySem PySem.Spec L2 L3
theorem walk {l : PySem.W.OpenLaw} {qq : Program} {loose : List Str} {XP : (Str → Option Value) → Heap → Prop} {YP : World → Heap → Prop} {d : DefRec} {K : Params → PySem.W.Frag} (hn : l.most = some 63) (hdf : d.params.defaults = [])
    (hY : ∀ (w : World) (h : Heap), YP w h → (K w.params).In h)
    (F : ∀ (w : World) (mg : Str → Option Value) (fa : Addr) (h : Heap), (K w.params).In h → h.Ns mainGlobals mg → mg d.name = some (.ref fa) → ∃ t, Txt (K w.params) mg t ∧ (t.f 13) = fa ∧ ∀ (s : Shared) (u : Value), BindsTo s (t.d 13) ⟨[u], []⟩ [("_law_script", u)]) :
    PySem.W.WalkO qq loose XP YP l.row.toRowW d [] (fun f vs => PySem.call f vs) :=
  L2.walk_of (n := 63) (k := 5) (x := "_law_script") (CX := fun w => CX1 l.prog w) (sp := fun w => spLaw (K w.params)) hn (by decide) hdf ⟨rfl, by decide, by decide⟩ hY (fun w mg fa h KX G hm => by
    obtain ⟨t, T, rfl, hb⟩ := F w mg fa h KX G hm
    exact ⟨(t.d 13), hb, fun base _ _ => (law_ok T).imp (spLaw_of law_true)⟩) (fun _ _ a ns hl hO hS => ⟨a, ns, rfl, sqC_of hO hS, hl, fun _ => rfl⟩) fun _ _ _ _ _ ⟨_, _, _, _, _, _, _, _, z⟩ => z
end K31
end
open PySem PySem.W PyProof.Rows
set_option maxRecDepth 100000 in
set_option maxHeartbeats 0 in
theorem PySem.Challenge.cw_pathshape_k31_places_holds : PySem.Challenge.rw_pathshape_k31_places.Holds := by
  w_on; o_law; k_head; (case hw => w_witness2)
  k_fill
  refine K31.walk (l := PySem.Challenge.rw_pathshape_k31_places) rfl rfl (fun w h Y => PySem.W.kIn_of Y) ?F
  case F =>
    intro w mg fa h KX G hmg
    have T : ∃ t, K31.Txt (L2.KOf KX) mg t ∧ ∃ kV dc pm an cd ct, (t.d 13) = PySem.W.fnOf "law" "law" (L2.defArgs K31.s_law) (L2.defBody K31.s_law) (L2.defScope K31.s_law) .none kV dc pm an cd ct := by
      dsimp only [L2.KOf]
      refine' K31.txt_mk KX G ?my_a0 ?my_l0 ?my_c0 ?my_k0 ?my_a1 ?my_l1 ?my_c1 ?my_k1 ?my_a2 ?my_l2 ?my_c2 ?my_k2 ?my_a3 ?my_l3 ?my_c3 ?my_k3 ?my_a4 ?my_l4 ?my_c4 ?my_k4 ?my_a5 ?my_l5 ?my_c5 ?my_k5 ?my_a6 ?my_l6 ?my_c6 ?my_k6 ?my_a7 ?my_l7 ?my_c7 ?my_k7 ?my_a8 ?my_l8 ?my_c8 ?my_k8 ?my_a9 ?my_l9 ?my_c9 ?my_k9 ?my_a10 ?my_l10 ?my_c10 ?my_k10 ?my_a11 ?my_l11 ?my_c11 ?my_k11 ?my_a12 ?my_l12 ?my_c12 ?my_k12 ?my_a13 ?my_l13 ?my_c13 ?my_k13 ?my_z0 ?my_z1 ?my_z2 ?my_z3 ?my_z4 ?my_z5 ?my_z6 ?my_z7 ?my_z8 ?my_z9 ?my_z10 ?my_z11 ?my_z12
      (case my_a0 => k_is)
      (case my_l0 => k_is)
      (case my_c0 => k_is)
      (case my_k0 => k_is)
      (case my_a1 => k_is)
      (case my_l1 => k_is)
      (case my_c1 => k_is)
      (case my_k1 => k_is)
      (case my_a2 => k_is)
      (case my_l2 => k_is)
      (case my_c2 => k_is)
      (case my_k2 => k_is)
      (case my_a3 => k_is)
      (case my_l3 => k_is)
      (case my_c3 => k_is)
      (case my_k3 => k_is)
      (case my_a4 => k_is)
      (case my_l4 => k_is)
      (case my_c4 => k_is)
      (case my_k4 => k_is)
      (case my_a5 => k_is)
      (case my_l5 => k_is)
      (case my_c5 => k_is)
      (case my_k5 => k_is)
      (case my_a6 => k_is)
      (case my_l6 => k_is)
      (case my_c6 => k_is)
      (case my_k6 => k_is)
      (case my_a7 => k_is)
      (case my_l7 => k_is)
      (case my_c7 => k_is)
      (case my_k7 => k_is)
      (case my_a8 => k_is)
      (case my_l8 => k_is)
      (case my_c8 => k_is)
      (case my_k8 => k_is)
      (case my_a9 => k_is)
      (case my_l9 => k_is)
      (case my_c9 => k_is)
      (case my_k9 => k_is)
      (case my_a10 => k_is)
      (case my_l10 => k_is)
      (case my_c10 => k_is)
      (case my_k10 => k_is)
      (case my_a11 => k_is)
      (case my_l11 => k_is)
      (case my_c11 => k_is)
      (case my_k11 => k_is)
      (case my_a12 => k_is)
      (case my_l12 => k_is)
      (case my_c12 => k_is)
      (case my_k12 => k_is)
      (case my_a13 => k_is)
      (case my_l13 => k_is)
      (case my_c13 => k_is)
      (case my_k13 => k_is)
      (case my_z0 => k_is)
      (case my_z1 => k_is)
      (case my_z2 => k_is)
      (case my_z3 => k_is)
      (case my_z4 => k_is)
      (case my_z5 => k_is)
      (case my_z6 => k_is)
      (case my_z7 => k_is)
      (case my_z8 => k_is)
      (case my_z9 => k_is)
      (case my_z10 => k_is)
      (case my_z11 => k_is)
      (case my_z12 => k_is)
    obtain ⟨t, T, kV, dc, pm, an, cd, ct, e⟩ := T
    have e0 := hmg.symm.trans T.M_law
    cases e0
    exact ⟨t, T, rfl, fun s u => by rw [e]; exact .of_eq rfl⟩
