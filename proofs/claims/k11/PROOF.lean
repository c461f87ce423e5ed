import PyProof.Rows.All
import Wide.All
import OpenK.AllK
import Wide.FinOn
import Lean
import PyProof.EqAt
import PyProof.EqKinds
import PyProof.TupleCall
import PyProof.StrWalks
import PySem.Challenge.RW_pathshape_k11_names
section
set_option Elab.async false
set_option linter.all false
set_option maxRecDepth 100000
/-! THE HAND LAYER, for ints, bools, texts, own classes, LISTS and tuples (index, slices, in, append, pop ..), calls, loops. Paste it whole ahead of your own text; what your proof does not reach may be deleted. -/
namespace L2
open PySem PySem.Spec PyProof.Rows

/-- a key: an int or a str -/
abbrev Key := Sum Int Str
def keyIs : Key → Value → Bool
  | .inl k, v => Value.isInt k v
  | .inr x, v => Value.isStrOf x v
def keyH (w : World) : Key → Int
  | .inl k => hashInt k
  | .inr x => hashStr w x
theorem keyIs_shape : ∀ {k : Key} {v : Value}, keyIs k v = true → (∃ i t, k = Sum.inl i ∧ v = Value.int i t) ∨ (∃ x t, k = Sum.inr x ∧ v = Value.str x t)
  | .inl i, v, h => by
    obtain ⟨t, e⟩ := Value.isInt_shape (k := i) (v := v) h
    exact .inl ⟨i, t, rfl, e⟩
  | .inr x, v, h => by
    obtain ⟨t, e⟩ := Value.isStrOf_shape (x := x) (v := v) h
    exact .inr ⟨x, t, rfl, e⟩
theorem keyIs_int (i : Int) (t : Tok) : keyIs (.inl i) (.int i t) = true := by simp [keyIs, Value.isInt]
theorem keyIs_str (x : Str) (t : Tok) : keyIs (.inr x) (.str x t) = true := by simp [keyIs, Value.isStrOf]
theorem key_ll (a b : Int) : decide ((Sum.inl a : Key) = Sum.inl b) = (a == b) := by
  by_cases e : a = b
  · subst e; simp
  · have h : ¬ (Sum.inl a : Key) = Sum.inl b := fun q => e (Sum.inl.inj q)
    rw [decide_eq_false h]
    exact (beq_eq_false_iff_ne.mpr e).symm
theorem key_rr (a b : Str) : decide ((Sum.inr a : Key) = Sum.inr b) = decide (a = b) := by
  by_cases e : a = b
  · subst e; simp
  · have h : ¬ (Sum.inr a : Key) = Sum.inr b := fun q => e (Sum.inr.inj q)
    rw [decide_eq_false h, decide_eq_false e]
theorem key_lr (a : Int) (b : Str) : decide ((Sum.inl a : Key) = Sum.inr b) = false := decide_eq_false (fun q => nomatch q)
theorem key_rl (a : Str) (b : Int) : decide ((Sum.inr a : Key) = Sum.inl b) = false := decide_eq_false (fun q => nomatch q)

def mixKind (prog : Program) (w : World) : PySem.KeyKind prog w Key where
  is := keyIs
  hash := keyH w
  inj := fun v a b ha hb => by
    rcases keyIs_shape ha with ⟨i, t, rfl, rfl⟩ | ⟨x, t, rfl, rfl⟩
    · rcases keyIs_shape hb with ⟨j, u, rfl, e⟩ | ⟨y, u, rfl, e⟩
      · injection e with e1 _; rw [e1]
      · exact nomatch e
    · rcases keyIs_shape hb with ⟨j, u, rfl, e⟩ | ⟨y, u, rfl, e⟩
      · exact nomatch e
      · injection e with e1 _; rw [e1]
  byValue := fun k v h => by
    rcases keyIs_shape h with ⟨i, t, rfl, rfl⟩ | ⟨x, t, rfl, rfl⟩ <;> rfl
  pyHash := fun hv h => by
    rcases keyIs_shape hv with ⟨i, t, rfl, rfl⟩ | ⟨x, t, rfl, rfl⟩
    · exact wpAny_pyHash_int h
    · exact wpAny_pyHash_str h
  eqBool := fun hu hv h => by
    rcases keyIs_shape hu with ⟨i, t, rfl, rfl⟩ | ⟨x, t, rfl, rfl⟩
    · rcases keyIs_shape hv with ⟨j, u, rfl, rfl⟩ | ⟨y, u, rfl, rfl⟩
      · rw [key_ll] at h; exact wpAny_eqBool_int h
      · rw [key_lr] at h; exact SeqAt.EqAt.int_str i t y u _ _ _ _ h
    · rcases keyIs_shape hv with ⟨j, u, rfl, rfl⟩ | ⟨y, u, rfl, rfl⟩
      · rw [key_rl] at h; exact SeqAt.EqAt.str_int x t j u _ _ _ _ h
      · rw [key_rr] at h; exact wpAny_eqBool_str h
  «strs» := fun k x t v h => by
    rcases keyIs_shape h with ⟨i, u, rfl, e⟩ | ⟨y, u, rfl, e⟩
    · exact nomatch e
    · injection e with e1 _
      subst e1
      cases v <;> rfl

theorem mixKind_is (prog : Program) (w : World) (k : Key) (v : Value) : (mixKind prog w).is k v = keyIs k v := rfl
theorem mixKind_int (prog : Program) (w : World) (i : Int) (t : Tok) : (mixKind prog w).is (.inl i) (.int i t) = true := keyIs_int i t
theorem mixKind_str (prog : Program) (w : World) (x : Str) (t : Tok) : (mixKind prog w).is (.inr x) (.str x t) = true := keyIs_str x t
end L2

namespace L2
open PySem PySem.Spec PyProof.Rows

/-- a value, without the heap -/
inductive V where
  | non | bl (b : Bool) | int (i : Int) | str (x : Str) | byt (b : Array UInt8) | flt (b : UInt64) | ref (a : Addr) | ty (n : String)
  deriving DecidableEq

def RelV : V → Value → Prop
  | .non, u => u = Value.none
  | .bl b, u => u = Value.bool b
  | .int i, u => ∃ t, u = Value.int i t
  | .str x, u => ∃ t, u = Value.str x t
  | .byt b, u => ∃ t, u = Value.bytes b t
  | .flt b, u => ∃ t, u = Value.float b t
  | .ref a, u => u = Value.ref a
  | .ty n, u => u = Value.type n

abbrev Vals : List V → List Value → Prop := Paired RelV
theorem Vals.length {xs : List V} {us : List Value} (r : Vals xs us) : xs.length = us.length := Paired.length r
theorem Vals.get : ∀ {xs : List V} {us : List Value} {i : Nat} {x : V}, Vals xs us → xs[i]? = some x → ∃ u, us[i]? = some u ∧ RelV x u
  | _, _, _, _, .nil, e => by simp at e
  | _, _, 0, _, .cons r _, e => by simp at e; subst e; exact ⟨_, rfl, r⟩
  | _, _, i + 1, x, .cons _ t, e => by
    obtain ⟨u, h1, h2⟩ := Vals.get (i := i) (x := x) t (by simpa using e)
    exact ⟨u, by simpa using h1, h2⟩
theorem Vals.set {x : V} {u : Value} (r : RelV x u) : ∀ {xs : List V} {us : List Value} (i : Nat), Vals xs us → Vals (xs.set i x) (us.set i u)
  | _, _, _, .nil => .nil
  | _, _, 0, .cons _ t => .cons r t
  | _, _, i + 1, .cons q t => .cons q (Vals.set r i t)
theorem Vals.append : ∀ {xs ys : List V} {us ws : List Value}, Vals xs us → Vals ys ws → Vals (xs ++ ys) (us ++ ws)
  | _, _, _, _, .nil, s => s
  | _, _, _, _, .cons r t, s => .cons r (Vals.append t s)
theorem Vals.take : ∀ {xs : List V} {us : List Value} (n : Nat), Vals xs us → Vals (xs.take n) (us.take n)
  | _, _, 0, _ => .nil
  | _, _, _ + 1, .nil => .nil
  | _, _, n + 1, .cons r t => .cons r (Vals.take n t)
theorem Vals.drop : ∀ {xs : List V} {us : List Value} (n : Nat), Vals xs us → Vals (xs.drop n) (us.drop n)
  | _, _, 0, r => r
  | _, _, _ + 1, .nil => .nil
  | _, _, n + 1, .cons _ t => Vals.drop n t
theorem Vals.none_of : ∀ {xs : List V} {us : List Value} {i : Nat}, Vals xs us → xs[i]? = none → us[i]? = none := fun {xs us i} r e => by
  have h1 := r.length
  have h2 : xs.length ≤ i := List.getElem?_eq_none_iff.mp e
  exact List.getElem?_eq_none_iff.mpr (by omega)

def RelO : Option V → Option Value → Prop
  | some v, some u => RelV v u
  | none, none => True
  | _, _ => False
def KV {κ : Type} : List (κ × V) → List (κ × Value) → Prop := Paired fun (p : κ × V) (q : κ × Value) => p.1 = q.1 ∧ RelV p.2 q.2

/-- a key of a dict (00_mix): an int or a text -/
def kV : Key → V
  | .inl i => .int i
  | .inr x => .str x

/-- what stands at a tracked address -/
inductive HO where
  /-- a list -/
  | lst (xs : List V)
  /-- a tuple (never changes) -/
  | tup (xs : List V)
  /-- a dict whose keys are ints and texts; one whose keys are tuples of ints and texts (the empty one is both) -/
  | dK (kvs : List (Key × V)) | dT (kvs : List (List Key × V))
  /-- a set of ints: its members, its size -/
  | set (S : Int → Bool) (n : Nat)
  /-- an instance of the class at C, its dict at dx, its attributes -/
  | ins (C dx : Addr) (fs : List (Str × V))
  /-- the dict of the instance at x -/
  | own (x : Addr)
  /-- the dict of an exception -/
  | xd (fs : List (Str × V))
  /-- a bound method, f of x -/
  | met (f x : Addr)
  /-- a range object lo, lo + 1, .. below hi -/
  | rng (lo hi : Int)
  /-- a thing that is known to the object (the script; a dict while a loop walks it): read, never written while it is so -/
  | frz (o : Obj) (u : HO)
  /-- a code object's table -/
  | tbl (ps : Array Value)
  /-- any other thing, by what is true of its one object (a def of one's own: SetO a S n := HO.ext fun h => ..) -/
  | ext (φ : Heap → Prop)

abbrev Hp := Addr → Option HO
def upd (H : Hp) (a : Addr) (o : HO) : Hp := fun b => if b = a then some o else H b
theorem upd_same {H : Hp} {a : Addr} {o : HO} : upd H a o a = some o := by unfold upd; rw [if_pos rfl]
theorem upd_ne {H : Hp} {a b : Addr} {o : HO} (h : b ≠ a) : upd H a o b = H b := by unfold upd; rw [if_neg h]
theorem upd_upd {H : Hp} {a : Addr} {o u : HO} : upd (upd H a o) a u = upd H a u := by
  funext b; unfold upd; split <;> rfl
/-- two objects of different content stand apart -/
theorem ne_of {H : Hp} {a b : Addr} {o u : HO} (h : H a = some o) (h' : H b = some u) (d : o ≠ u) : a ≠ b := by
  intro e; subst e; rw [h] at h'; exact d (Option.some.inj h')
theorem ne_of_none {H : Hp} {a b : Addr} {o : HO} (h : H a = some o) (h' : H b = none) : a ≠ b := by
  intro e; subst e; rw [h] at h'; cases h'

section
variable (P : Program) (w : World)
def ObjOk (H : Hp) (h : Heap) (a : Addr) : HO → Prop
  | .lst xs => xs.length ≤ sizeLine ∧ ∃ (its : List Value) (n : Nat), Vals xs its ∧ h.get? a = some { cls := .type "list", data := .seq its.toArray n }
  | .tup xs => xs.length ≤ sizeLine ∧ ∃ its : List Value, Vals xs its ∧ IsTup h a its.toArray
  | .dK kvs => kvs.length ≤ sizeLine ∧ (a == sysModules) = false ∧ ∃ vs, KV kvs vs ∧ h.DictOf (mixKind P w) a vs
  | .dT kvs => kvs.length ≤ sizeLine ∧ (a == sysModules) = false ∧ ∃ xs : List (List Key × Addr × Value),
      Paired (fun (p : List Key × V) (q : List Key × Addr × Value) => p.1 = q.1 ∧ H q.2.1 = some (.tup (p.1.map kV)) ∧ RelV p.2 q.2.2) kvs xs ∧
      ∃ o es ep, h.get? a = some o ∧ o.ExactDict ∧ o.data = .dict es ep ∧ es.toList = xs.map (entryOfKey (tupleKind (mixKind P w))) ∧ (xs.map (·.1)).Nodup
  | .set S n => h.SetOf (intKind P w) a S n
  | .ins C dx fs => H dx = some (.own a) ∧ fs.length ≤ 1000 ∧ dx ≠ a ∧ h.get? a = some (PySem.W.instObj C dx) ∧
      ∃ mA, h.Ns1 dx mA ∧ (∀ f, RelO (fs.lookup f) (mA f)) ∧ PySem.Within mA (fs.map (·.1))
  | .own _ => ∃ o, h.get? a = some o
  | .xd fs => ∃ mA, h.Ns1 a mA ∧ ∀ f, RelO (fs.lookup f) (mA f)
  | .rng lo hi => ∃ t u v, h.get? a = some { cls := .type "range", data := .fields #[.int lo t, .int hi u, .int 1 v] }
  | .frz o u => h.get? a = some o ∧ ObjOk H h a u
  | .tbl ps => h.get? a = some { cls := .none, data := .fields ps }
  | .met f x => h.get? a = some (PySem.W.methodObj (.ref f) (.ref x))
  | .ext φ => φ h ∧ (∃ o, h.get? a = some o) ∧ ∀ h1 h2 : Heap, φ h1 → (∀ o, h1.get? a = some o → h2.get? a = some o) → φ h2
/-- the abstract heap is held -/
def HOk (H : Hp) (h : Heap) : Prop := ∀ a o, H a = some o → ObjOk P w H h a o
end

section
variable {P : Program} {w : World} {H H' : Hp} {h h' : Heap} {a : Addr} {o : HO}
theorem ObjOk.lt (x : ObjOk P w H h a o) : a < h.objs.size := by
  cases o with
  | lst xs => obtain ⟨_, _, _, _, e⟩ := x; exact Heap.lt_size e
  | tup xs => obtain ⟨_, _, _, p⟩ := x; exact p.lt
  | dK kvs => obtain ⟨_, _, _, _, o, _, _, e, _⟩ := x; exact Heap.lt_size e
  | dT kvs => obtain ⟨_, _, _, _, o, _, _, e, _⟩ := x; exact Heap.lt_size e
  | set S n => obtain ⟨o, _, _, _, e, _⟩ := x; exact Heap.lt_size e
  | ins C dx fs => obtain ⟨_, _, _, e, _⟩ := x; exact Heap.lt_size e
  | own y => obtain ⟨_, e⟩ := x; exact Heap.lt_size e
  | xd fs => obtain ⟨_, ⟨_, _, _, e, _⟩, _⟩ := x; exact Heap.lt_size e
  | rng lo hi => obtain ⟨_, _, _, e⟩ := x; exact Heap.lt_size e
  | frz ob u => obtain ⟨e, _⟩ := x; exact Heap.lt_size e
  | tbl ps => exact Heap.lt_size (show h.get? a = some _ from x)
  | met f y => exact Heap.lt_size (show h.get? a = some _ from x)
  | ext φ => obtain ⟨_, ⟨_, e⟩, _⟩ := x; exact Heap.lt_size e
theorem Paired.mapP {α β : Type} {F G : α → β → Prop} : ∀ {l₁ : List α} {l₂ : List β}, Paired F l₁ l₂ → (∀ a b, F a b → G a b) → Paired G l₁ l₂
  | _, _, .nil, _ => .nil
  | _, _, .cons r t, f => .cons (f _ _ r) (Paired.mapP t f)
theorem Paired.imp' {α β : Type} {F G : α → β → Prop} (f : ∀ a b, F a b → G a b) {l₁ : List α} {l₂ : List β} (r : Paired F l₁ l₂) : Paired G l₁ l₂ := Paired.mapP r f
/-- what an object's description leans on: its own object, its own dict, the tuples -/
theorem ObjOk.stay (x : ObjOk P w H h a o) (k : ∀ b u, (b = a ∨ H b = some (.own a)) → h.get? b = some u → h'.get? b = some u)
    (ho : ∀ b, H b = some (.own a) → H' b = some (.own a)) (ht : ∀ b xs, H b = some (.tup xs) → H' b = some (.tup xs)) : ObjOk P w H' h' a o := by
  induction o with
  | lst xs => obtain ⟨z, its, n, r, e⟩ := x; exact ⟨z, its, n, r, k _ _ (.inl rfl) e⟩
  | tup xs => obtain ⟨z, its, r, ob, e, c⟩ := x; exact ⟨z, its, r, ob, k _ _ (.inl rfl) e, c⟩
  | dK kvs => obtain ⟨z, y, vs, r, ob, es, ep, e, c⟩ := x; exact ⟨z, y, vs, r, ob, es, ep, k _ _ (.inl rfl) e, c⟩
  | dT kvs =>
    obtain ⟨z, y, xs, r, ob, es, ep, e, c⟩ := x
    exact ⟨z, y, xs, Paired.mapP r fun p q z => ⟨z.1, ht _ _ z.2.1, z.2.2⟩, ob, es, ep, k _ _ (.inl rfl) e, c⟩
  | set S n => obtain ⟨ob, es, ep, t, e, c⟩ := x; exact ⟨ob, es, ep, t, k _ _ (.inl rfl) e, c⟩
  | ins C dx fs =>
    obtain ⟨d, z, ne, e, mA, ⟨od, es, ep, e2, c⟩, r⟩ := x
    exact ⟨ho _ d, z, ne, k _ _ (.inl rfl) e, mA, ⟨od, es, ep, k _ _ (.inr d) e2, c⟩, r⟩
  | own y => obtain ⟨ob, e⟩ := x; exact ⟨ob, k _ _ (.inl rfl) e⟩
  | xd fs => obtain ⟨mA, ⟨od, es, ep, e, c⟩, r⟩ := x; exact ⟨mA, ⟨od, es, ep, k _ _ (.inl rfl) e, c⟩, r⟩
  | rng lo hi => obtain ⟨t, u, v, e⟩ := x; exact ⟨t, u, v, k _ _ (.inl rfl) e⟩
  | frz ob u ih => obtain ⟨e, q⟩ := x; exact ⟨k _ _ (.inl rfl) e, ih q⟩
  | tbl ps =>
    have e : h.get? a = some { cls := .none, data := .fields ps } := x
    show h'.get? a = some { cls := .none, data := .fields ps }
    exact k a _ (.inl rfl) e
  | met f y =>
    have e : h.get? a = some (PySem.W.methodObj (.ref f) (.ref y)) := x
    show h'.get? a = some (PySem.W.methodObj (.ref f) (.ref y))
    exact k a _ (.inl rfl) e
  | ext φ => obtain ⟨p, ⟨o, e⟩, st⟩ := x; exact ⟨st _ _ p fun o q => k _ _ (.inl rfl) q, ⟨o, k _ _ (.inl rfl) e⟩, st⟩
theorem HOk.lt (x : HOk P w H h) (e : H a = some o) : a < h.objs.size := (x a o e).lt
theorem HOk.fresh (x : HOk P w H h) (e : h.objs.size ≤ a) : H a = none := by
  cases q : H a with
  | none => rfl
  | some u => exact absurd (Nat.lt_of_lt_of_le (x.lt q) e) (Nat.lt_irrefl _)
/-- every object of the heap is kept -/
theorem HOk.kept (x : HOk P w H h) (k : ∀ b u, h.get? b = some u → h'.get? b = some u) : HOk P w H h' := fun a o e =>
  (x a o e).stay (fun b u _ q => k b u q) (fun _ q => q) fun _ _ q => q
/-- a new object is laid and tracked -/
theorem HOk.laid (x : HOk P w H h) (k : ∀ b u, h.get? b = some u → h'.get? b = some u) (hp : h.objs.size ≤ a) (new : ObjOk P w (upd H a o) h' a o) : HOk P w (upd H a o) h' := fun b u e => by
  have hn := x.fresh hp
  by_cases hb : b = a
  · subst hb; rw [upd_same] at e; cases e; exact new
  · rw [upd_ne hb] at e
    exact (x b u e).stay (fun c v _ q => k c v q) (fun c q => by rw [upd_ne (ne_of_none q hn)]; exact q) fun c xs q => by rw [upd_ne (ne_of_none q hn)]; exact q
end

/-- what may be read as u: it is u, or a known u -/
def Rd (H : Hp) (a : Addr) (u : HO) : Prop := H a = some u ∨ ∃ o, H a = some (.frz o u)
theorem Rd.of {H : Hp} {a : Addr} {u : HO} (h : H a = some u) : Rd H a u := .inl h
theorem Rd.ok {P : Program} {w : World} {H : Hp} {h : Heap} {a : Addr} {u : HO} (r : Rd H a u) (x : HOk P w H h) : ObjOk P w H h a u := by
  rcases r with r | ⟨o, r⟩
  · exact x a u r
  · obtain ⟨_, q⟩ := x a _ r
    exact q
/-- what may be written -/
def Mut : Option HO → Prop
  | some (.lst _) => True
  | some (.dK _) => True
  | some (.dT _) => True
  | some (.set _ _) => True
  | some (.ins _ _ _) => True
  | some (.ext _) => True
  | _ => False
section
variable {P : Program} {w : World} {H : Hp} {h h' : Heap} {x e : Addr} {o' : HO}
/-- the object at e is changed: x itself, or the dict of the instance x -/
theorem HOk.write (ok : HOk P w H h) (mu : Mut (H x)) (he : e = x ∨ H e = some (.own x)) (k : ∀ b u, b ≠ e → h.get? b = some u → h'.get? b = some u) (heo : ∃ u, h'.get? e = some u)
    (new : ObjOk P w (upd H x o') h' x o') : HOk P w (upd H x o') h' := fun b u q => by
  have nown : ∀ c y, H c = some (.own y) → c ≠ x := fun c y r z => by subst z; rw [r] at mu; exact mu
  have ntup : ∀ c xs, H c = some (.tup xs) → c ≠ x := fun c xs r z => by subst z; rw [r] at mu; exact mu
  by_cases hb : b = x
  · subst hb; rw [upd_same] at q; cases q; exact new
  · rw [upd_ne hb] at q
    by_cases hbe : b = e
    · have q' : H b = some (.own x) := by
        rcases he with z | z
        · exact absurd (hbe.trans z) hb
        · rw [hbe]; exact z
      rw [q] at q'; cases q'
      obtain ⟨v, hv⟩ := heo
      exact ⟨v, by rw [hbe]; exact hv⟩
    · refine (ok b u q).stay (fun c v hc r => k c v ?_ r) (fun c r => by rw [upd_ne (nown c b r)]; exact r) fun c xs r => by rw [upd_ne (ntup c xs r)]; exact r
      rcases hc with rfl | hc
      · exact hbe
      · rintro rfl
        rcases he with z | z
        · exact nown c b hc z
        · rw [hc] at z; cases z; exact hb rfl
end

/-! ### kept unless tracked; of the frames at fs (the callers') the slots may change (an exception that passes writes there); of the records at ex (iterators) nothing is said -/
structure Un (fs ex : List Addr) (H H' : Hp) (h h' : Heap) : Prop where
  keep : ∀ b o, h.get? b = some o → H b = none → b ∉ fs → b ∉ ex → h'.get? b = some o
  slot : ∀ b o, h.get? b = some o → H b = none → b ∈ fs → b ∉ ex → ∃ sl, h'.get? b = some { o with slots := sl }
  free : ∀ b o, h.get? b = some o → H b = none → b ∉ ex → H' b = none
  there : ∀ b o, h.get? b = some o → b ∉ ex → ∃ o', h'.get? b = some o'
  tups : ∀ b xs, H b = some (.tup xs) → H' b = some (.tup xs)
  frzs : ∀ b o u, H b = some (.frz o u) → H' b = some (.frz o u)
  tbls : ∀ b ps, H b = some (.tbl ps) → ∃ more, H' b = some (.tbl (ps ++ more))
section
variable {fs fs' ex ex' : List Addr} {H H1 H2 : Hp} {h h1 h2 h' : Heap} {a x e : Addr} {o : HO}
theorem Un.any (u : Un fs ex H H1 h h1) {b : Addr} {ob : Obj} (q : h.get? b = some ob) (n : H b = none) (hx : b ∉ ex) : ∃ sl, h1.get? b = some { ob with slots := sl } := by
  by_cases hb : b ∈ fs
  · exact u.slot b ob q n hb hx
  · exact ⟨ob.slots, u.keep b ob q n hb hx⟩
theorem Un.trans (a : Un fs ex H H1 h h1) (b : Un fs ex H1 H2 h1 h2) : Un fs ex H H2 h h2 where
  keep := fun c ob q n hc hx => b.keep c ob (a.keep c ob q n hc hx) (a.free c ob q n hx) hc hx
  slot := fun c ob q n hc hx => by
    obtain ⟨sl, e1⟩ := a.slot c ob q n hc hx
    obtain ⟨sl', e2⟩ := b.slot c _ e1 (a.free c ob q n hx) hc hx
    exact ⟨sl', e2⟩
  free := fun c ob q n hx => by
    obtain ⟨o', e1⟩ := a.there c ob q hx
    exact b.free c o' e1 (a.free c ob q n hx) hx
  there := fun c ob q hx => by
    obtain ⟨o', e1⟩ := a.there c ob q hx
    exact b.there c o' e1 hx
  tups := fun c xs q => b.tups c xs (a.tups c xs q)
  frzs := fun c ob xs q => b.frzs c ob xs (a.frzs c ob xs q)
  tbls := fun c ps q => by
    obtain ⟨m1, e1⟩ := a.tbls c ps q
    obtain ⟨m2, e2⟩ := b.tbls c _ e1
    exact ⟨m1 ++ m2, by rw [e2, Array.append_assoc]⟩
theorem Un.kept (k : ∀ b u, h.get? b = some u → h'.get? b = some u) : Un fs ex H H h h' :=
  ⟨fun b ob q _ _ _ => k b ob q, fun b ob q _ _ _ => ⟨ob.slots, k b ob q⟩, fun _ _ _ n _ => n, fun b ob q _ => ⟨ob, k b ob q⟩, fun _ _ q => q, fun _ _ _ q => q, fun _ ps q => ⟨#[], by rw [q]; simp⟩⟩
theorem Un.refl : Un fs ex H H h h := Un.kept fun _ _ q => q
theorem Un.laid (k : ∀ b u, h.get? b = some u → h'.get? b = some u) (hp : h.objs.size ≤ a) (hn : H a = none) : Un fs ex H (upd H a o) h h' where
  keep := fun b u q _ _ _ => k b u q
  slot := fun b u q _ _ _ => ⟨u.slots, k b u q⟩
  free := fun b u q n _ => by rw [upd_ne (Nat.ne_of_lt (Nat.lt_of_lt_of_le (Heap.lt_size q) hp))]; exact n
  there := fun b u q _ => ⟨u, k b u q⟩
  tups := fun b xs q => by rw [upd_ne (ne_of_none q hn)]; exact q
  frzs := fun b u xs q => by rw [upd_ne (ne_of_none q hn)]; exact q
  tbls := fun b ps q => ⟨#[], by rw [upd_ne (ne_of_none q hn), q]; simp⟩
theorem Un.write (mu : Mut (H x)) (he : e = x ∨ H e = some (.own x)) (k : ∀ b u, b ≠ e → h.get? b = some u → h'.get? b = some u) (heo : ∃ u, h'.get? e = some u) : Un fs ex H (upd H x o) h h' := by
  have hx : ∀ b, H b = none → b ≠ x := fun b n z => by subst z; rw [n] at mu; exact mu
  have hb : ∀ b, H b = none → b ≠ e := fun b n z => by
    subst z
    rcases he with r | r
    · exact hx b n r
    · rw [n] at r; cases r
  have hm : ∀ b u, H b = some u → ¬ Mut (some u) → b ≠ x := fun b u q nm z => by subst z; rw [q] at mu; exact nm mu
  refine ⟨fun b u q n _ _ => k b u (hb b n) q, fun b u q n _ _ => ⟨u.slots, k b u (hb b n) q⟩, fun b u q n _ => by rw [upd_ne (hx b n)]; exact n, fun b u q _ => ?_,
    fun b xs q => by rw [upd_ne (hm b _ q fun z => z)]; exact q, fun b u xs q => by rw [upd_ne (hm b _ q fun z => z)]; exact q, fun b ps q => ⟨#[], by rw [upd_ne (hm b _ q fun z => z), q]; simp⟩⟩
  by_cases hbe : b = e
  · subst hbe; exact heo
  · exact ⟨u, k b u hbe q⟩
theorem Un.mono (u : Un fs ex H H1 h h1) (hs : ∀ b ∈ fs, b ∈ fs') (hx : ∀ b ∈ ex, b ∈ ex') : Un fs' ex' H H1 h h1 :=
  ⟨fun b ob q n hb he => u.keep b ob q n (fun z => hb (hs b z)) fun z => he (hx b z), fun _ _ q n _ he => u.any q n fun z => he (hx _ z), fun b ob q n he => u.free b ob q n fun z => he (hx b z), fun b ob q he => u.there b ob q fun z => he (hx b z), u.tups, u.frzs, u.tbls⟩
end

/-! ### the heap without what is tracked -/
def trk (h : Heap) (H : Hp) : List Addr := (List.range h.objs.size).filter fun a => (H a).isSome
def hidT (h : Heap) (H : Hp) : Heap := PySem.W.hideAll h (trk h H)
theorem hidT_size (h : Heap) (H : Hp) : (hidT h H).objs.size = h.objs.size := PySem.W.hideAll_size _ _
theorem hidT_get {h : Heap} {H : Hp} {b : Addr} {o : Obj} (e : h.get? b = some o) (n : H b = none) : (hidT h H).get? b = some o :=
  PySem.W.hideAll_get _ e fun hm => by
    have q : (H b).isSome = true := (List.mem_filter.mp hm).2
    rw [n] at q; simp at q
theorem of_hidT {h : Heap} {H : Hp} {b : Addr} {o : Obj} (e : (hidT h H).get? b = some o) : h.get? b = some o ∧ H b = none := by
  have e' : h.get? b = some o := PySem.W.of_hideAll (trk h H) e
  refine ⟨e', ?_⟩
  cases q : H b with
  | none => rfl
  | some x =>
    have hm : b ∈ trk h H := List.mem_filter.mpr ⟨List.mem_range.mpr (Heap.lt_size e'), by simp [q]⟩
    have z : (hidT h H).get? b = none := PySem.W.hideAll_none (trk h H) hm
    rw [z] at e; cases e

/-! ### OpenK's ledger, filled with every new object but one -/
def allNews (g h : Heap) (L : Addr) : List (Addr × Obj) := (List.range h.objs.size).filterMap fun a => if a = L ∨ (g.get? a).isSome = true then none else (h.get? a).map fun o => (a, o)
theorem mem_allNews {g h : Heap} {L a : Addr} {o : Obj} (h1 : a ≠ L) (h2 : g.get? a = none) (h3 : h.get? a = some o) : (a, o) ∈ allNews g h L :=
  List.mem_filterMap.mpr ⟨a, List.mem_range.mpr (Heap.lt_size h3), by simp [h1, h2, h3]⟩
theorem of_mem_allNews {g h : Heap} {L : Addr} {p : Addr × Obj} (hp : p ∈ allNews g h L) : p.1 ≠ L ∧ g.get? p.1 = none ∧ h.get? p.1 = some p.2 := by
  obtain ⟨b, _, e⟩ := List.mem_filterMap.mp hp
  split at e
  · cases e
  · rename_i hn
    cases q : h.get? b with
    | none => rw [q] at e; simp at e
    | some u =>
      rw [q] at e
      simp only [Option.map_some, Option.some.injEq] at e
      subst e
      refine ⟨fun z => hn (.inl z), ?_, q⟩
      show g.get? b = none
      cases r : g.get? b with
      | none => rfl
      | some v => exact (hn (.inr (by simp [r]))).elim
def rest (g h : Heap) (L d : Addr) : List (Addr × Obj) := (allNews g h L).filter fun p => decide (p.1 ≠ d)
theorem rest_ne {g h : Heap} {L d : Addr} : ∀ p ∈ rest g h L d, p.1 ≠ d := fun p hp => of_decide_eq_true (List.mem_filter.mp hp).2
theorem mem_rest {g h : Heap} {L d a : Addr} {o : Obj} (h1 : a ≠ L) (h2 : g.get? a = none) (h3 : h.get? a = some o) (h4 : a ≠ d) : (a, o) ∈ rest g h L d :=
  List.mem_filter.mpr ⟨mem_allNews h1 h2 h3, decide_eq_true h4⟩
theorem news_all {g h : Heap} {L : Addr} : News g L h (allNews g h L) := fun p hp => let ⟨a, b, c⟩ := of_mem_allNews hp; ⟨c, a, b⟩
theorem news_at {g h : Heap} {L d : Addr} {o : Obj} (h1 : d ≠ L) (h2 : g.get? d = none) (h3 : h.get? d = some o) : News g L h ((d, o) :: rest g h L d) := fun p hp => by
  rcases List.mem_cons.mp hp with rfl | hp
  · exact ⟨h3, h1, h2⟩
  · exact news_all p (List.mem_filter.mp hp).1
/-- behind a rule that changed d alone: all else but the frame is kept -/
theorem kept_of_news {g h h' : Heap} {L d : Addr} {m : Str → Option Value} (k : ∀ b o, g.get? b = some o → h.get? b = some o) (F : Fr g L h' m) (N : News g L h' (rest g h L d)) :
    ∀ b o, b ≠ L → b ≠ d → h.get? b = some o → h'.get? b = some o := fun b o h1 h2 e => by
  cases q : g.get? b with
  | some u =>
    have := k b u q
    rw [e] at this; cases this
    exact F.keep b _ q
  | none => exact (N (b, o) (mem_rest h1 q e h2)).1
end L2

namespace L2
open PySem PySem.Spec PyProof.Rows

/-- the module's facts, over the base: the heap at the law's entry without what is tracked there -/
structure Mod (K : PySem.W.Frag) (mg : Str → Option Value) (base : Heap) : Prop where
  kin : K.In base
  glob : base.Ns mainGlobals mg
  blt : ∃ mb, base.Ns builtinsNs mb ∧ ∀ x : Str, x ≠ "__name__" → mb x = bootBuiltins x
  nolimit : base.NoLimit

/-- the context: a def's body (or a comprehension's block) running. base: fixed through the whole law; s₀, H₀: the entry; outer: the frames whose slots others may change (a def's callers); stack: all frames that run;
   ex: iterators that were made ahead of the entry and are walked here (a comprehension's); fn: the names whose cells were made at the entry (a def: all; a comprehension's block: its own); calm: not within an except suite; pn: pins that every state bears; xe: what is wanted of an exception that leaves the code -/
structure Cx where
  prog : Program
  w : World
  K : PySem.W.Frag
  mg : Str → Option Value
  base : Heap
  A : Around
  N : List Str
  s₀ : Shared
  H₀ : Hp
  env : Env
  outer : List Env
  stack : List Env
  ex : List Addr
  fn : Str → Bool
  calm : Bool
  pn : List (Addr × Obj)
  xe : Value → Shared → Prop
/-- the callers' frames -/
def frs (l : List Env) : List Addr := l.filterMap (·.frame)
abbrev Cx.fs (X : Cx) : List Addr := frs X.outer

def Vis (sc : Scope) (x : Str) : Prop := sc.names.lookup x = some .local ∨ sc.names.lookup x = some .cell ∨ sc.names.lookup x = some .free
def Loc (sc : Scope) (x : Str) : Prop := sc.names.lookup x = some .local ∨ sc.names.lookup x = some .cell
def Look (env : Env) (h : Heap) (m : Str → Option Value) (x : Str) (u : Value) : Prop :=
  (env.kindOf x = some .local ∧ m x = some u) ∨ ((env.kindOf x = some .cell ∨ env.kindOf x = some .free) ∧ ∃ c, env.cells.lookup x = some c ∧ h.IsCell c (some u))

structure Cx.Ok (X : Cx) : Prop where
  mod : Mod X.K X.mg X.base
  kind : X.env.scope.kind = .function
  glob : X.env.globals = mainGlobals
  blt : X.env.builtins = builtinsNs
  above : X.s₀.heap.objs.size ≤ X.env.locals
  inj : ∀ x y c, X.env.cells.lookup x = some c → X.env.cells.lookup y = some c → x = y
  has : ∀ x, (X.env.kindOf x = some .cell ∨ X.env.kindOf x = some .free) → ∃ c, X.env.cells.lookup x = some c
  cab : ∀ x c, X.fn x = true → X.env.cells.lookup x = some c → X.s₀.heap.objs.size ≤ c
  hd : X.calm = true → X.A.handled = none
  frames : X.A.frames = some X.stack
  stk : X.stack = X.outer ∨ (X.stack = X.env :: X.outer ∧ X.env.frame = some X.env.locals)
  exf : ∀ b ∈ X.ex, b ≠ X.env.locals ∧ ∀ x c, X.env.cells.lookup x = some c → c ≠ b
  bs : ∀ b o, X.base.get? b = some o → X.s₀.heap.get? b = some o ∧ X.H₀ b = none
  bsz : X.base.objs.size ≤ X.s₀.heap.objs.size
  noex : ∀ b o, X.base.get? b = some o → b ∉ X.ex
  exfs : ∀ b ∈ X.ex, b ∉ X.fs
  funs : X.s₀.heap.FunFrames X.base X.outer
  frf : ∀ b ∈ X.fs, X.H₀ b = none

structure Inv (X : Cx) (pins : List (Addr × Obj)) (σ : List (Option V)) (H : Hp) (s : Shared) : Prop where
  ok : X.Ok
  os : s.os = X.s₀.os
  bare : AllBare s.gens
  base : Un X.fs X.ex X.H₀ H X.s₀.heap s.heap
  loc : ∃ m, s.heap.Ns X.env.locals m ∧ ∀ (i : Nat) (x : Str) (v : V), X.N[i]? = some x → σ[i]? = some (some v) → Vis X.env.scope x → ∃ u, RelV v u ∧ Look X.env s.heap m x u
  cell : ∀ x c, X.env.cells.lookup x = some c → ∃ v, s.heap.IsCell c v
  free : H X.env.locals = none
  freeC : ∀ x c, X.env.cells.lookup x = some c → H c = none
  pin : ∀ p ∈ X.pn ++ pins, s.heap.get? p.1 = some p.2 ∧ H p.1 = none ∧ p.1 ≠ X.env.locals ∧ p.1 ∉ X.fs ∧ ∀ v, p.2.data ≠ .cell v
  hok : HOk X.prog X.w H s.heap
  len : σ.length = X.N.length

section
variable {X : Cx} {pins : List (Addr × Obj)} {σ : List (Option V)} {H H' : Hp} {s : Shared} {h' : Heap}

theorem Cx.Ok.nofr (ok : X.Ok) {b : Addr} {o : Obj} (e : X.base.get? b = some o) : b ∉ X.fs := fun hb => by
  have := (ok.funs.mem hb).1
  rw [e] at this; cases this
theorem Inv.bs (I : Inv X pins σ H s) : ∀ b o, X.base.get? b = some o → s.heap.get? b = some o ∧ H b = none := fun b o e =>
  ⟨I.base.keep b o (I.ok.bs b o e).1 (I.ok.bs b o e).2 (I.ok.nofr e) (I.ok.noex b o e), I.base.free b o (I.ok.bs b o e).1 (I.ok.bs b o e).2 (I.ok.noex b o e)⟩
theorem Inv.bk (I : Inv X pins σ H s) : ∀ b o, X.base.get? b = some o → s.heap.get? b = some o := fun b o e => (I.bs b o e).1
theorem Inv.mod (I : Inv X pins σ H s) : Mod X.K X.mg X.base := I.ok.mod
theorem Inv.kIn (I : Inv X pins σ H s) : X.K.In s.heap := I.ok.mod.kin.keeps I.bk
theorem Inv.nolimit (I : Inv X pins σ H s) : s.heap.NoLimit := I.ok.mod.nolimit.keeps I.bk
/-- the frame over the base: for OpenK's rules (K.In X.base is I.mod.kin) -/
theorem Inv.fr (I : Inv X pins σ H s) : ∃ m, Fr X.base X.env.locals s.heap m :=
  let ⟨m, hn, _⟩ := I.loc
  ⟨m, hn, I.bk, Nat.le_trans I.ok.bsz I.ok.above⟩
theorem Inv.lt (I : Inv X pins σ H s) : X.env.locals < s.heap.objs.size := let ⟨_, hn, _⟩ := I.loc; hn.lt
theorem Inv.sz (I : Inv X pins σ H s) : X.s₀.heap.objs.size ≤ s.heap.objs.size := Nat.le_trans I.ok.above (Nat.le_of_lt I.lt)
theorem Inv.nofs (I : Inv X pins σ H s) {a : Addr} (h : s.heap.objs.size ≤ a) : a ∉ X.fs := fun hb => by
  obtain ⟨_, o, ho, _⟩ := I.ok.funs.mem hb
  exact absurd (Nat.lt_of_lt_of_le (Heap.lt_size ho) (Nat.le_trans I.sz h)) (Nat.lt_irrefl _)
theorem Inv.cne (I : Inv X pins σ H s) : ∀ x c, X.env.cells.lookup x = some c → c ≠ X.env.locals := fun x c e z => by
  obtain ⟨v, o, ho, hd⟩ := I.cell x c e
  obtain ⟨m, ⟨o', es, ep, ho', hd', _⟩, _⟩ := I.loc
  rw [z, ho'] at ho; cases ho; rw [hd'] at hd; cases hd
theorem Inv.funs (I : Inv X pins σ H s) : s.heap.FunFrames X.base X.outer := by
  have all : ∀ (l : List Env), (∀ b ∈ frs l, b ∈ X.fs) → X.s₀.heap.FunFrames X.base l → s.heap.FunFrames X.base l := by
    intro l
    induction l with
    | nil => intro _ _; trivial
    | cons env r ih =>
      intro hs hl
      obtain ⟨hk, ⟨L, o, hf, hn, ho, hd⟩, hr⟩ := hl
      have hL : L ∈ X.fs := hs L (by unfold frs; rw [List.filterMap_cons, hf]; exact List.mem_cons_self)
      obtain ⟨sl, e⟩ := I.base.slot L o ho (I.ok.frf L hL) hL fun z => I.ok.exfs L z hL
      exact ⟨hk, ⟨L, _, hf, hn, e, hd⟩, ih (fun b hb => hs b (by unfold frs; rw [List.filterMap_cons, hf]; exact List.mem_cons_of_mem _ hb)) hr⟩
  exact all X.outer (fun _ hb => hb) I.ok.funs

/-- the frames that run, for a call -/
theorem Inv.stack (I : Inv X pins σ H s) : s.heap.FunFrames X.base X.stack := by
  rcases I.ok.stk with e | ⟨e, hf⟩
  · rw [e]; exact I.funs
  · rw [e]
    obtain ⟨m, hn, _⟩ := I.loc
    refine .cons (by rw [I.ok.kind]; decide) hf hn ?_ I.funs
    exact Heap.get?_none_of_le (Nat.le_trans I.ok.bsz I.ok.above)
theorem Inv.stkSub (I : Inv X pins σ H s) : ∀ b ∈ frs X.stack, b ∈ X.env.locals :: X.fs := fun b hb => by
  rcases I.ok.stk with e | ⟨e, hf⟩
  · rw [e] at hb; exact List.mem_cons_of_mem _ hb
  · rw [e] at hb
    unfold frs at hb
    rw [List.filterMap_cons, hf] at hb
    exact hb
theorem Inv.stkFree (I : Inv X pins σ H s) : ∀ b ∈ frs X.stack, H b = none := fun b hb => by
  rcases List.mem_cons.mp (I.stkSub b hb) with e | hb
  · rw [e]; exact I.free
  · obtain ⟨_, o, ho, _⟩ := I.ok.funs.mem hb
    exact I.base.free b o ho (I.ok.frf b hb) fun z => I.ok.exfs b z hb

/-- THE STEP: the untracked objects but the frame and the records at ch are kept (the callers' frames up to slots), the frame's map is kept, the new abstract heap is held -/
theorem Inv.step {g' : Array GenState} {t' : Nat} {d' : Drawn} {ch : List Addr} (I : Inv X pins σ H s)
    (hch : ∀ b ∈ ch, (b ∈ X.ex ∨ X.s₀.heap.objs.size ≤ b) ∧ b ≠ X.env.locals ∧ (∀ x c, X.env.cells.lookup x = some c → c ≠ b) ∧ ∀ p ∈ X.pn ++ pins, p.1 ≠ b)
    (keep : ∀ b o, b ≠ X.env.locals → b ∉ X.fs → b ∉ ch → s.heap.get? b = some o → H b = none → h'.get? b = some o)
    (slot : ∀ b o, b ≠ X.env.locals → b ∈ X.fs → b ∉ ch → s.heap.get? b = some o → H b = none → ∃ sl, h'.get? b = some { o with slots := sl }) (free : ∀ b o, b ∉ ch → s.heap.get? b = some o → H b = none → H' b = none)
    (there : ∀ b o, b ∉ ch → s.heap.get? b = some o → ∃ o', h'.get? b = some o')
    (tups : ∀ b xs, H b = some (.tup xs) → H' b = some (.tup xs)) (frzs : ∀ b o u, H b = some (.frz o u) → H' b = some (.frz o u)) (tbls : ∀ b ps, H b = some (.tbl ps) → ∃ more, H' b = some (.tbl (ps ++ more)))
    (ns : ∀ m, s.heap.Ns X.env.locals m → h'.Ns X.env.locals m) (hok : HOk X.prog X.w H' h') (hg : AllBare g') :
    Inv X pins σ H' { s with heap := h', gens := g', drawn := d', toks := t' } := by
  have neL : ∀ b o, X.s₀.heap.get? b = some o → b ≠ X.env.locals := fun b o e => Nat.ne_of_lt (Nat.lt_of_lt_of_le (Heap.lt_size e) I.ok.above)
  have neC : ∀ b o, X.s₀.heap.get? b = some o → b ∉ X.ex → b ∉ ch := fun b o e hx hb => by
    rcases (hch b hb).1 with z | z
    · exact hx z
    · exact absurd (Nat.lt_of_lt_of_le (Heap.lt_size e) z) (Nat.lt_irrefl _)
  have cellK : ∀ x c, X.env.cells.lookup x = some c → ∀ v, s.heap.IsCell c v → h'.IsCell c v := fun x c e v ⟨o, ho, hd⟩ => by
    have nch : c ∉ ch := fun z => (hch c z).2.2.1 x c e rfl
    by_cases hc : c ∈ X.fs
    · obtain ⟨sl, q⟩ := slot c o (I.cne x c e) hc nch ho (I.freeC x c e)
      exact ⟨_, q, hd⟩
    · exact ⟨o, keep c o (I.cne x c e) hc nch ho (I.freeC x c e), hd⟩
  refine ⟨I.ok, I.os, hg, ⟨fun b o e n hb hx => ?_, fun b o e n hb hx => ?_, fun b o e n hx => ?_, fun b o e hx => ?_, fun b xs e => tups b xs (I.base.tups b xs e), fun b o xs e => frzs b o xs (I.base.frzs b o xs e), fun b ps e => ?_⟩, ?_, fun x c e => ?_, ?_, fun x c e => ?_, fun p hp => ?_, hok, I.len⟩
  · exact keep b o (neL b o e) hb (neC b o e hx) (I.base.keep b o e n hb hx) (I.base.free b o e n hx)
  · obtain ⟨sl, e1⟩ := I.base.slot b o e n hb hx
    obtain ⟨sl', e2⟩ := slot b _ (neL b o e) hb (neC b o e hx) e1 (I.base.free b o e n hx)
    exact ⟨sl', e2⟩
  · obtain ⟨o', e1⟩ := I.base.there b o e hx
    exact free b o' (neC b o e hx) e1 (I.base.free b o e n hx)
  · obtain ⟨o', e1⟩ := I.base.there b o e hx
    exact there b o' (neC b o e hx) e1
  · obtain ⟨m1, e1⟩ := I.base.tbls b ps e
    obtain ⟨m2, e2⟩ := tbls b _ e1
    exact ⟨m1 ++ m2, by rw [e2, Array.append_assoc]⟩
  · obtain ⟨m, hn, hl⟩ := I.loc
    refine ⟨m, ns m hn, fun i x v e1 e2 e3 => ?_⟩
    obtain ⟨u, r, l⟩ := hl i x v e1 e2 e3
    refine ⟨u, r, ?_⟩
    rcases l with l | ⟨k, c, e, z⟩
    · exact .inl l
    · exact .inr ⟨k, c, e, cellK x c e _ z⟩
  · obtain ⟨v, z⟩ := I.cell x c e
    exact ⟨v, cellK x c e v z⟩
  · obtain ⟨m, ⟨o, _, _, ho, _⟩, _⟩ := I.loc
    exact free _ o (fun z => (hch _ z).2.1 rfl) ho I.free
  · obtain ⟨v, o, ho, hd⟩ := I.cell x c e
    exact free c o (fun z => (hch c z).2.2.1 x c e rfl) ho (I.freeC x c e)
  · obtain ⟨e, n, ne, nf, d⟩ := I.pin p hp
    have nch : p.1 ∉ ch := fun z => (hch p.1 z).2.2.2 p hp rfl
    exact ⟨keep p.1 p.2 ne nf nch e n, free p.1 p.2 nch e n, ne, nf, d⟩
/-- .. where the frame's own object is kept too -/
theorem Inv.un {t' : Nat} (I : Inv X pins σ H s) (u : Un X.fs [] H H' s.heap h') (hok : HOk X.prog X.w H' h') : Inv X pins σ H' { s with heap := h', toks := t' } := by
  obtain ⟨m, ⟨o, es, ep, ho, r⟩, _⟩ := id I.loc
  obtain ⟨sl, hL⟩ := u.any ho I.free (by simp)
  exact I.step (g' := s.gens) (d' := s.drawn) (ch := []) (fun _ z => nomatch z) (fun b o _ hb _ e n => u.keep b o e n hb (by simp)) (fun b o _ hb _ e n => u.slot b o e n hb (by simp)) (fun b o _ e n => u.free b o e n (by simp)) (fun b o _ e => u.there b o e (by simp)) u.tups u.frzs u.tbls (fun m' hm => by
    obtain ⟨o', es', ep', ho', r'⟩ := hm
    rw [ho] at ho'; cases ho'
    exact ⟨_, es', ep', hL, r'⟩) hok I.bare
/-- behind a call (or a comprehension's block): the slots of this frame may have changed too, the records at ch may have turned -/
theorem Inv.call {g' : Array GenState} {t' : Nat} {d' : Drawn} {ch : List Addr} (I : Inv X pins σ H s) (u : Un (frs X.stack) ch H H' s.heap h') (hok : HOk X.prog X.w H' h') (hg : AllBare g')
    (hch : ∀ b ∈ ch, (b ∈ X.ex ∨ X.s₀.heap.objs.size ≤ b) ∧ b ≠ X.env.locals ∧ (∀ x c, X.env.cells.lookup x = some c → c ≠ b) ∧ ∀ p ∈ X.pn ++ pins, p.1 ≠ b) :
    Inv X pins σ H' { s with heap := h', gens := g', drawn := d', toks := t' } := by
  obtain ⟨m, ⟨o, es, ep, ho, r⟩, _⟩ := id I.loc
  obtain ⟨sl, hL⟩ := u.any ho I.free fun z => (hch _ z).2.1 rfl
  exact I.step (ch := ch) hch (fun b o hL hb hc e n => u.keep b o e n (fun z => (List.mem_cons.mp (I.stkSub b z)).elim hL hb) hc) (fun b o _ _ hc e n => u.any e n hc) (fun b o hc e n => u.free b o e n hc) (fun b o hc e => u.there b o e hc) u.tups u.frzs u.tbls (fun m' hm => by
    obtain ⟨o', es', ep', ho', r'⟩ := hm
    rw [ho] at ho'; cases ho'
    exact ⟨_, es', ep', hL, r'⟩) hok hg
/-- an untracked record of ours (an iterator) has turned -/
theorem Inv.turned {t' : Nat} {it : Addr} (I : Inv X pins σ H s) (k : ∀ b o, b ≠ it → s.heap.get? b = some o → h'.get? b = some o) (hn : H it = none) (hL : it ≠ X.env.locals)
    (h1 : it ∈ X.ex ∨ X.s₀.heap.objs.size ≤ it) (h2 : ∀ x c, X.env.cells.lookup x = some c → c ≠ it) (h3 : ∀ p ∈ X.pn ++ pins, p.1 ≠ it) : Inv X pins σ H { s with heap := h', toks := t' } := by
  have nit : ∀ b u, H b = some u → b ≠ it := fun b u e z => by rw [z, hn] at e; cases e
  refine I.step (g' := s.gens) (d' := s.drawn) (ch := [it]) (fun b hb => ?_) (fun b o _ _ hc e _ => k b o (fun z => hc (by simp [z])) e) (fun b o _ _ hc e _ => ⟨o.slots, k b o (fun z => hc (by simp [z])) e⟩) (fun _ _ _ _ n => n)
    (fun b o hc e => ⟨o, k b o (fun z => hc (by simp [z])) e⟩) (fun _ _ e => e) (fun _ _ _ e => e) (fun b ps e => ⟨#[], by rw [e]; simp⟩) (fun m hm => ?_) (fun b u e => ?_) I.bare
  · have e : b = it := by simpa using hb
    subst e
    exact ⟨h1, hL, h2, h3⟩
  · obtain ⟨o, es, ep, ho, r⟩ := hm
    exact ⟨o, es, ep, k _ o (Ne.symm hL) ho, r⟩
  · refine (I.hok b u e).stay (fun c v hc q => k c v ?_ q) (fun _ q => q) fun _ _ q => q
    rcases hc with z | z
    · rw [z]; exact nit b u e
    · exact nit c _ z
theorem Inv.tok (I : Inv X pins σ H s) (t : Nat) : Inv X pins σ H { s with toks := t } := I.un (h' := s.heap) (t' := t) Un.refl I.hok
/-- all objects kept -/
theorem Inv.kept {t' : Nat} (I : Inv X pins σ H s) (k : ∀ b u, s.heap.get? b = some u → h'.get? b = some u) : Inv X pins σ H { s with heap := h', toks := t' } := I.un (Un.kept k) (I.hok.kept k)
/-- a new object laid and tracked -/
theorem Inv.laid {a : Addr} {o : HO} {t' : Nat} (I : Inv X pins σ H s) (k : ∀ b u, s.heap.get? b = some u → h'.get? b = some u) (hp : s.heap.objs.size ≤ a) (new : ObjOk X.prog X.w (upd H a o) h' a o) :
    Inv X pins σ (upd H a o) { s with heap := h', toks := t' } := I.un (Un.laid k hp (I.hok.fresh hp)) (I.hok.laid k hp new)
/-- an object written -/
theorem Inv.write {x e : Addr} {o : HO} {t' : Nat} (I : Inv X pins σ H s) (mu : Mut (H x)) (he : e = x ∨ H e = some (.own x)) (k : ∀ b u, b ≠ e → s.heap.get? b = some u → h'.get? b = some u) (heo : ∃ u, h'.get? e = some u)
    (new : ObjOk X.prog X.w (upd H x o) h' x o) : Inv X pins σ (upd H x o) { s with heap := h', toks := t' } := I.un (Un.write mu he k heo) (I.hok.write mu he k heo new)
/-- forgetting slots, pins -/
theorem Inv.weak {σ' : List (Option V)} (I : Inv X pins σ H s) (hl : σ'.length = σ.length) (w : ∀ (i : Nat) v, σ'[i]? = some (some v) → σ[i]? = some (some v)) : Inv X pins σ' H s :=
  ⟨I.ok, I.os, I.bare, I.base, let ⟨m, hn, hl'⟩ := I.loc; ⟨m, hn, fun i x v e1 e2 e3 => hl' i x v e1 (w i v e2) e3⟩, I.cell, I.free, I.freeC, I.pin, I.hok, hl.trans I.len⟩
theorem Inv.pins_of {pins' : List (Addr × Obj)} (I : Inv X pins σ H s) (h : ∀ p ∈ pins', s.heap.get? p.1 = some p.2 ∧ H p.1 = none ∧ p.1 ≠ X.env.locals ∧ p.1 ∉ X.fs ∧ ∀ v, p.2.data ≠ .cell v) : Inv X pins' σ H s :=
  ⟨I.ok, I.os, I.bare, I.base, I.loc, I.cell, I.free, I.freeC, fun p hp => (List.mem_append.mp hp).elim (fun z => I.pin p (List.mem_append_left _ z)) (h p), I.hok, I.len⟩

theorem nodup_ix {N : List Str} (hN : N.Nodup) {i j : Nat} {x : Str} (a : N[i]? = some x) (b : N[j]? = some x) : i = j := by
  obtain ⟨h1, e1⟩ := List.getElem?_eq_some_iff.mp a
  obtain ⟨h2, e2⟩ := List.getElem?_eq_some_iff.mp b
  exact (List.getElem_inj hN).mp (e1.trans e2.symm)

/-- a name is stored; what changed -/
theorem store_ok2 {M : Model} {A : Around} {E : Value → Shared → Prop} {i : Nat} {x : Str} {v : V} {u : Value} {Q : Unit → Shared → Prop} (I : Inv X pins σ H s) (hN : X.N.Nodup) (hi : X.N[i]? = some x) (hx : Loc X.env.scope x) (r : RelV v u)
    (h : ∀ s', Inv X pins (σ.set i (some v)) H s' → (∃ a, Heap.SameBut a s.heap s'.heap ∧ (a = X.env.locals ∨ X.env.cells.lookup x = some a)) → Q () s') (hf : X.fn x = true ∨ X.env.scope.names.lookup x = some .local := by first | exact .inl rfl | exact .inr rfl | assumption) : wpAny M A (storeName X.env x u) Q E s := by
  obtain ⟨m, hn, hl⟩ := id I.loc
  have hcls : (X.env.scope.kind == .class || (X.env.scope.kind == .module && X.env.locals != X.env.globals)) = false := by rw [I.ok.kind]; rfl
  have hiσ : i < σ.length := by rw [I.len]; exact (List.getElem?_eq_some_iff.mp hi).1
  have cne := I.cne
  have tracked : ∀ {a : Addr} {h' : Heap}, (∃ o, s.heap.get? a = some o ∧ H a = none) → Heap.SameBut a s.heap h' → HOk X.prog X.w H h' := fun {a h'} ha hs b ob e => by
    obtain ⟨_, _, hfree⟩ := ha
    refine (I.hok b ob e).stay (fun c w' hc q => (hs.2 c ?_).trans q) (fun _ q => q) fun _ _ q => q
    rintro rfl
    rcases hc with rfl | hc
    · rw [hfree] at e; cases e
    · rw [hfree] at hc; cases hc
  rcases hx with hk | hk
  · refine wpAny_storeName_local hk hn (fun h' hn' hs => ?_) hcls
    obtain ⟨oL, _, _, hoL, _⟩ := id hn
    refine h _ ⟨I.ok, I.os, I.bare, ⟨fun b o e n hb hx => ?_, fun b o e n hb hx => ?_, I.base.free, fun b o e hx => ?_, I.base.tups, I.base.frzs, I.base.tbls⟩, ⟨_, hn', fun j y v' e1 e2 e3 => ?_⟩, fun y c e => ?_, I.free, I.freeC, fun p hp => ?_, tracked ⟨oL, hoL, I.free⟩ hs, by simpa using I.len⟩ ⟨_, hs, .inl rfl⟩
    · exact (hs.2 b (Nat.ne_of_lt (Nat.lt_of_lt_of_le (Heap.lt_size e) I.ok.above))).trans (I.base.keep b o e n hb hx)
    · obtain ⟨sl, e1⟩ := I.base.slot b o e n hb hx
      exact ⟨sl, (hs.2 b (Nat.ne_of_lt (Nat.lt_of_lt_of_le (Heap.lt_size e) I.ok.above))).trans e1⟩
    · obtain ⟨o', e1⟩ := I.base.there b o e hx
      exact ⟨o', (hs.2 b (Nat.ne_of_lt (Nat.lt_of_lt_of_le (Heap.lt_size e) I.ok.above))).trans e1⟩
    · by_cases hj : j = i
      · subst hj
        rw [hi] at e1; cases e1
        rw [List.getElem?_set_self hiσ] at e2
        cases e2
        exact ⟨u, r, .inl ⟨hk, by simp⟩⟩
      · rw [List.getElem?_set_ne (Ne.symm hj)] at e2
        obtain ⟨u', r', q⟩ := hl j y v' e1 e2 e3
        refine ⟨u', r', ?_⟩
        rcases q with ⟨k, e⟩ | ⟨k, c, e, z⟩
        · refine .inl ⟨k, ?_⟩
          have : y ≠ x := fun e => hj (nodup_ix hN e1 (e ▸ hi))
          simp [this, e]
        · exact .inr ⟨k, c, e, z.sameBut hs (cne y c e)⟩
    · obtain ⟨w', z⟩ := I.cell y c e
      exact ⟨w', z.sameBut hs (cne y c e)⟩
    · obtain ⟨e, n, ne, nf, d⟩ := I.pin p hp
      exact ⟨(hs.2 p.1 ne).trans e, n, ne, nf, d⟩
  · have hfn : X.fn x = true := by
      rcases hf with z | z
      · exact z
      · rw [z] at hk; cases hk
    obtain ⟨c, hc⟩ := I.ok.has x (.inl hk)
    obtain ⟨w', z⟩ := I.cell x c hc
    refine wpAny_storeName_cell I.ok.kind hk hc z (fun h' hc' hs => ?_)
    obtain ⟨oc, hoc, hocd⟩ := id z
    refine h { s with heap := h' } ⟨I.ok, I.os, I.bare, ⟨fun b o e n hb hx => ?_, fun b o e n hb hx => ?_, I.base.free, fun b o e hx => ?_, I.base.tups, I.base.frzs, I.base.tbls⟩, ⟨m, hn.sameBut hs (Ne.symm (cne x c hc)), fun j y v' e1 e2 e3 => ?_⟩, fun y c' e => ?_, I.free, I.freeC, fun p hp => ?_, tracked ⟨oc, hoc, I.freeC x c hc⟩ hs, by simpa using I.len⟩ ⟨c, hs, .inr hc⟩
    · exact (hs.2 b (Nat.ne_of_lt (Nat.lt_of_lt_of_le (Heap.lt_size e) (I.ok.cab x c hfn hc)))).trans (I.base.keep b o e n hb hx)
    · obtain ⟨sl, e1⟩ := I.base.slot b o e n hb hx
      exact ⟨sl, (hs.2 b (Nat.ne_of_lt (Nat.lt_of_lt_of_le (Heap.lt_size e) (I.ok.cab x c hfn hc)))).trans e1⟩
    · obtain ⟨o', e1⟩ := I.base.there b o e hx
      exact ⟨o', (hs.2 b (Nat.ne_of_lt (Nat.lt_of_lt_of_le (Heap.lt_size e) (I.ok.cab x c hfn hc)))).trans e1⟩
    · by_cases hj : j = i
      · subst hj
        rw [hi] at e1; cases e1
        rw [List.getElem?_set_self hiσ] at e2
        cases e2
        exact ⟨u, r, .inr ⟨.inl hk, c, hc, hc'⟩⟩
      · rw [List.getElem?_set_ne (Ne.symm hj)] at e2
        obtain ⟨u', r', q⟩ := hl j y v' e1 e2 e3
        refine ⟨u', r', ?_⟩
        rcases q with q | ⟨k, c', e, z'⟩
        · exact .inl q
        · refine .inr ⟨k, c', e, z'.sameBut hs ?_⟩
          rintro rfl
          exact hj (nodup_ix hN e1 (I.ok.inj _ _ _ e hc ▸ hi))
    · by_cases hcc : c' = c
      · subst hcc; exact ⟨_, hc'⟩
      · obtain ⟨w2, z2⟩ := I.cell y c' e
        exact ⟨w2, z2.sameBut hs hcc⟩
    · obtain ⟨e, n, ne, nf, d⟩ := I.pin p hp
      refine ⟨(hs.2 p.1 ?_).trans e, n, ne, nf, d⟩
      intro q
      rw [q, hoc] at e
      have q' : oc = p.2 := Option.some.inj e
      exact d w' (by rw [← q']; exact hocd)
theorem store_ok {M : Model} {A : Around} {E : Value → Shared → Prop} {i : Nat} {x : Str} {v : V} {u : Value} {Q : Unit → Shared → Prop} (I : Inv X pins σ H s) (hN : X.N.Nodup) (hi : X.N[i]? = some x) (hx : Loc X.env.scope x) (r : RelV v u)
    (h : ∀ s', Inv X pins (σ.set i (some v)) H s' → Q () s') (hf : X.fn x = true ∨ X.env.scope.names.lookup x = some .local := by first | exact .inl rfl | exact .inr rfl | assumption) : wpAny M A (storeName X.env x u) Q E s :=
  store_ok2 I hN hi hx r (fun s' I' _ => h s' I') hf
/-- behind a call or a block, the state as it is -/
theorem Inv.call' {s' : Shared} {ch : List Addr} (I : Inv X pins σ H s) (ho : s'.os = s.os) (u : Un (frs X.stack) ch H H' s.heap s'.heap) (hok : HOk X.prog X.w H' s'.heap) (hg : AllBare s'.gens)
    (hch : ∀ b ∈ ch, (b ∈ X.ex ∨ X.s₀.heap.objs.size ≤ b) ∧ b ≠ X.env.locals ∧ (∀ x c, X.env.cells.lookup x = some c → c ≠ b) ∧ ∀ p ∈ X.pn ++ pins, p.1 ≠ b) : Inv X pins σ H' s' := by
  obtain ⟨h', g', d', t', o'⟩ := s'
  have e : o' = s.os := ho
  subst e
  exact I.call (g' := g') (t' := t') (d' := d') u hok hg hch
end

/-! ### the judgements -/
/-- an exception: its class, its own dict's address (where it has one), the abstract heap behind it -/
abbrev XK := Value → Option Addr → Hp → Prop
abbrev St := List (Option V)
abbrev VK := V → Hp → Prop
/-- an expression's reading; a test's; an argument list's -/
abbrev TE := St → Hp → VK → Prop
abbrev TT := St → Hp → (Bool → Hp → Prop) → Prop
abbrev TA := St → Hp → (List V → Hp → Prop) → Prop
/-- what is wanted behind a statement -/
structure Ends where
  nx : St → Hp → Prop
  rt : VK
  bk : St → Hp → Prop := fun _ _ => False
  ct : St → Hp → Prop := fun _ _ => False
abbrev TS := Ends → St → Hp → Prop

def EP (X : Cx) (pins : List (Addr × Obj)) (σ : St) (Q : VK) (u : Value) (s' : Shared) : Prop := ∃ v H', Inv X pins σ H' s' ∧ RelV v u ∧ Q v H'
def TP (X : Cx) (pins : List (Addr × Obj)) (σ : St) (Q : Bool → Hp → Prop) (b : Bool) (s' : Shared) : Prop := ∃ H', Inv X pins σ H' s' ∧ Q b H'
def AP (X : Cx) (pins : List (Addr × Obj)) (σ : St) (Q : List V → Hp → Prop) (us : List Value) (s' : Shared) : Prop := ∃ vs H', Inv X pins σ H' s' ∧ Vals vs us ∧ Q vs H'
def SP (X : Cx) (pins : List (Addr × Obj)) (D : Ends) (f : Flow) (s' : Shared) : Prop :=
  match f with
  | .next => ∃ σ' H', Inv X pins σ' H' s' ∧ D.nx σ' H'
  | .brk => ∃ σ' H', Inv X pins σ' H' s' ∧ D.bk σ' H'
  | .cont => ∃ σ' H', Inv X pins σ' H' s' ∧ D.ct σ' H'
  | .ret u => ∃ v σ' H', Inv X pins σ' H' s' ∧ RelV v u ∧ D.rt v H'

def PE (X : Cx) (e : Expr) (t : TE) : Prop :=
  ∀ (pins : List (Addr × Obj)) (s : Shared) (σ : St) (H : Hp) (Q : VK), Inv X pins σ H s → t σ H Q → wpAny (model X.prog X.w) X.A (eval e X.env) (EP X pins σ Q) X.xe s
def PT (X : Cx) (e : Expr) (t : TT) : Prop :=
  ∀ (pins : List (Addr × Obj)) (s : Shared) (σ : St) (H : Hp) (Q : Bool → Hp → Prop), Inv X pins σ H s → t σ H Q → wpAny (model X.prog X.w) X.A (isTrue e X.env (eval e X.env)) (TP X pins σ Q) X.xe s
/-- a test whatever its 'whole' is (and, or) -/
def PW (X : Cx) (e : Expr) (t : TT) : Prop :=
  ∀ (whole : Sem Value) (pins : List (Addr × Obj)) (s : Shared) (σ : St) (H : Hp) (Q : Bool → Hp → Prop), Inv X pins σ H s → t σ H Q → wpAny (model X.prog X.w) X.A (isTrue e X.env whole) (TP X pins σ Q) X.xe s
theorem PW.pt {X : Cx} {e : Expr} {t : TT} (h : PW X e t) : PT X e t := h _
/-- an argument list (no star), from the left -/
def PA (X : Cx) (es : List Expr) (t : TA) : Prop :=
  ∀ (pos : Pos) (pins : List (Addr × Obj)) (s : Shared) (σ : St) (H : Hp) (Q : List V → Hp → Prop), Inv X pins σ H s → t σ H Q → wpAny (model X.prog X.w) X.A (spliced (backTo pos (starEach es X.env))) (AP X pins σ Q) X.xe s
def PS (X : Cx) (st : Stmt) (t : TS) : Prop :=
  ∀ (pins : List (Addr × Obj)) (s : Shared) (σ : St) (H : Hp) (D : Ends), Inv X pins σ H s → t D σ H → wpAny (model X.prog X.w) X.A (exec st X.env) (SP X pins D) X.xe s
def PSs (X : Cx) (st : List Stmt) (t : TS) : Prop :=
  ∀ (pins : List (Addr × Obj)) (s : Shared) (σ : St) (H : Hp) (D : Ends), Inv X pins σ H s → t D σ H → wpAny (model X.prog X.w) X.A (execs st X.env) (SP X pins D) X.xe s
/-- weaken the end -/
theorem thn {α : Type} {t : Sem α} {Q Q' : α → Shared → Prop} {M : Model} {A : Around} {E : Value → Shared → Prop} {s : Shared} (h : wpAny M A t Q E s) (hQ : ∀ a s, Q a s → Q' a s) : wpAny M A t Q' E s := wpAny_mono h hQ fun _ _ x => x
end L2

namespace L2
open PySem PySem.Spec PyProof.Rows
section
variable {X : Cx}

/-- two expressions in a row -/
theorem bin {a b : Expr} {ta tb : TE} (ha : PE X a ta) (hb : PE X b tb) {pins : List (Addr × Obj)} {s : Shared} {σ : St} {H : Hp} {R : V → V → Hp → Prop} (I : Inv X pins σ H s) (h : ta σ H fun x H1 => tb σ H1 fun y H2 => R x y H2)
    {α : Type} {Q : α → Shared → Prop} {f : Value → Value → Sem α}
    (hf : ∀ v u s2 x y H2, Inv X pins σ H2 s2 → RelV x v → RelV y u → R x y H2 → wpAny (model X.prog X.w) X.A (f v u) Q X.xe s2) :
    wpAny (model X.prog X.w) X.A (eval a X.env) (fun v s₁ => wpAny (model X.prog X.w) X.A (eval b X.env) (fun u s₂ => wpAny (model X.prog X.w) X.A (f v u) Q X.xe s₂) X.xe s₁) X.xe s := by
  refine thn (ha pins s σ H _ I h) fun v s1 ⟨x, H1, I1, r1, q1⟩ => ?_
  refine thn (hb pins s1 σ H1 _ I1 q1) fun u s2 ⟨y, H2, I2, r2, q2⟩ => ?_
  exact hf v u s2 x y H2 I2 r1 r2 q2

/-! ### names and constants -/
def tVar (i : Nat) : TE := fun σ H Q => ∃ v, σ[i]? = some (some v) ∧ Q v H
def tC (v : V) : TE := fun _ H Q => Q v H
theorem pe_var {i : Nat} {x : Str} {pos : Pos} (hN : X.N[i]? = some x) (hv : Vis X.env.scope x) (hd : (x == ("__debug__" : Str)) = false := by decide) (hcd : (x == ("__classdict__" : Str)) = false := by decide) : PE X (.Name x pos) (tVar i) := by
  intro pins s σ H Q I h
  obtain ⟨v, e, h⟩ := h
  obtain ⟨m, hn, hl⟩ := I.loc
  obtain ⟨u, r, l⟩ := hl i x v hN e hv
  have fin : EP X pins σ Q u s := ⟨v, H, I, r, h⟩
  rcases l with ⟨hk, hm⟩ | ⟨hk, c, hc, hcell⟩
  · exact wpAny_Name (wpAny_loadName_local I.ok.kind hk hn hm fin) hd
  · rcases hk with hk | hk
    · exact wpAny_Name (wpAny_loadName_cell I.ok.kind hk hc hcell fin) hd
    · exact wpAny_Name (wpAny_loadName_free I.ok.kind hk hc hcell fin hcd) hd
theorem pe_int {i j pos} : PE X (.Constant (.int i) j pos) (tC (.int i)) := fun _ _ _ H _ I h => wpAny_Constant_int ⟨.int i, H, I.tok _, ⟨_, rfl⟩, h⟩
theorem pe_bl {b j pos} : PE X (.Constant (.bool b) j pos) (tC (.bl b)) := fun _ _ _ H _ I h => Constant_bool ⟨.bl b, H, I, rfl, h⟩
theorem pe_non {j pos} : PE X (.Constant .none j pos) (tC .non) := fun _ _ _ H _ I h => Constant_none ⟨.non, H, I, rfl, h⟩
theorem pe_str {x j pos} : PE X (.Constant (.str x) j pos) (tC (.str x)) := fun _ _ _ H _ I h => Calls.Constant_str ⟨.str x, H, I.tok _, ⟨_, rfl⟩, h⟩

/-- a global name of the def -/
def Gl (X : Cx) (x : Str) : Prop := X.env.kindOf x = some .globalImplicit
theorem ld_glob {E : Value → Shared → Prop} {pins : List (Addr × Obj)} {s : Shared} {σ : St} {H : Hp} {x : Str} {u : Value} {pos : Pos} {Q : Value → Shared → Prop} (I : Inv X pins σ H s) (hg : Gl X x) (hm : X.mg x = some u) (h : Q u s)
    (hd : (x == ("__debug__" : Str)) = false := by decide) : wpAny (model X.prog X.w) X.A (eval (.Name x pos) X.env) Q E s :=
  Calls.Name_function_global I.ok.kind hg (Calls.loadGlobal_global (by rw [I.ok.glob]; exact I.mod.glob.keeps I.bk) hm h) hd
theorem ld_blt {E : Value → Shared → Prop} {pins : List (Addr × Obj)} {s : Shared} {σ : St} {H : Hp} {x : Str} {u : Value} {pos : Pos} {Q : Value → Shared → Prop} (I : Inv X pins σ H s) (hg : Gl X x) (hm : X.mg x = none) (hv : bootBuiltins x = some u) (h : Q u s)
    (hn : x ≠ "__name__" := by decide) (hd : (x == ("__debug__" : Str)) = false := by decide) : wpAny (model X.prog X.w) X.A (eval (.Name x pos) X.env) Q E s := by
  obtain ⟨mb, h1, h2⟩ := I.mod.blt
  exact Calls.Name_function_global I.ok.kind hg (Calls.loadGlobal_builtin (by rw [I.ok.glob]; exact I.mod.glob.keeps I.bk) hm (by rw [I.ok.blt]; exact h1.keeps I.bk) ((h2 x hn).trans hv) h) hd
/-- a module's constant, a class, a function, as a value -/
theorem pe_glob {x : Str} {v : V} {u : Value} {pos : Pos} (hg : Gl X x) (hm : X.mg x = some u) (r : RelV v u) (hd : (x == ("__debug__" : Str)) = false := by decide) : PE X (.Name x pos) (tC v) :=
  fun _ _ _ H _ I h => ld_glob I hg hm ⟨v, H, I, r, h⟩ hd
theorem pe_bltn {x : Str} {v : V} {u : Value} {pos : Pos} (hg : Gl X x) (hm : X.mg x = none) (hv : bootBuiltins x = some u) (r : RelV v u) (hn : x ≠ "__name__" := by decide) (hd : (x == ("__debug__" : Str)) = false := by decide) : PE X (.Name x pos) (tC v) :=
  fun _ _ _ H _ I h => ld_blt I hg hm hv ⟨v, H, I, r, h⟩ hn hd

/-! ### arithmetic -/
/-- two ints -/
def t2I (ta tb : TE) (k : Int → Int → Hp → Prop) : St → Hp → Prop := fun σ H => ta σ H fun x H1 => tb σ H1 fun y H2 => ∃ i j, x = .int i ∧ y = .int j ∧ k i j H2
def tAdd (ta tb : TE) : TE := fun σ H Q => t2I ta tb (fun i j H2 => Q (.int (i + j)) H2) σ H
def tSub (ta tb : TE) : TE := fun σ H Q => t2I ta tb (fun i j H2 => Q (.int (i - j)) H2) σ H
/-- the left factor below 2^64 -/
def tMul (ta tb : TE) : TE := fun σ H Q => t2I ta tb (fun i j H2 => (-(2 ^ 64) < i ∧ i < 2 ^ 64) ∧ Q (.int (i * j)) H2) σ H
variable {a b : Expr} {ta tb : TE} {pos : Pos}
theorem pe_add (ha : PE X a ta) (hb : PE X b tb) : PE X (.BinOp a .Add b pos) (tAdd ta tb) := by
  intro pins s σ H Q I h
  refine wpAny_BinOp (bin ha hb I h fun v u s2 x y H2 I2 rx ry q => ?_)
  obtain ⟨i, j, rfl, rfl, q⟩ := q
  obtain ⟨t, rfl⟩ := rx
  obtain ⟨t', rfl⟩ := ry
  exact add_int ⟨.int _, H2, I2.tok _, ⟨_, rfl⟩, q⟩
theorem pe_sub (ha : PE X a ta) (hb : PE X b tb) : PE X (.BinOp a .Sub b pos) (tSub ta tb) := by
  intro pins s σ H Q I h
  refine wpAny_BinOp (bin ha hb I h fun v u s2 x y H2 I2 rx ry q => ?_)
  obtain ⟨i, j, rfl, rfl, q⟩ := q
  obtain ⟨t, rfl⟩ := rx
  obtain ⟨t', rfl⟩ := ry
  exact sub_int ⟨.int _, H2, I2.tok _, ⟨_, rfl⟩, q⟩
theorem pe_mul (ha : PE X a ta) (hb : PE X b tb) : PE X (.BinOp a .Mult b pos) (tMul ta tb) := by
  intro pins s σ H Q I h
  refine wpAny_BinOp (bin ha hb I h fun v u s2 x y H2 I2 rx ry q => ?_)
  obtain ⟨i, j, rfl, rfl, ⟨q1, q2⟩, q⟩ := q
  obtain ⟨t, rfl⟩ := rx
  obtain ⟨t', rfl⟩ := ry
  exact mul_int ⟨.int _, H2, I2.tok _, ⟨_, rfl⟩, q⟩ (.of_left (intBits_le_64 q1 q2))

/-! ### comparisons -/
def PC (X : Cx) (op : CmpOp) (a b : Expr) (t : TE) : Prop :=
  ∀ (pins : List (Addr × Obj)) (s : Shared) (σ : St) (H : Hp) (Q : VK), Inv X pins σ H s → t σ H Q →
    wpAny (model X.prog X.w) X.A (eval a X.env) (fun v s₁ => wpAny (model X.prog X.w) X.A (eval b X.env) (fun u s₂ => wpAny (model X.prog X.w) X.A (compareOp op v u) (EP X pins σ Q) X.xe s₂) X.xe s₁) X.xe s
theorem nobehind (b : Expr) {op : CmpOp} (h : op ≠ .In) (h2 : op ≠ .NotIn) : behindInMarks op b = false := by
  have e1 : (op == CmpOp.In) = false := by cases op <;> first | rfl | exact absurd rfl h
  have e2 : (op == CmpOp.NotIn) = false := by cases op <;> first | rfl | exact absurd rfl h2
  cases b <;> simp [behindInMarks, e1, e2]
def tCmp (p : Int → Int → Bool) (ta tb : TE) : TE := fun σ H Q => t2I ta tb (fun i j H2 => Q (.bl (p i j)) H2) σ H
abbrev tLt : TE → TE → TE := tCmp fun i j => decide (i < j)
abbrev tLe : TE → TE → TE := tCmp fun i j => decide (i ≤ j)
abbrev tGt : TE → TE → TE := tCmp fun i j => decide (j < i)
abbrev tGe : TE → TE → TE := tCmp fun i j => decide (j ≤ i)
abbrev tEqI : TE → TE → TE := tCmp fun i j => decide (i = j)
abbrev tNeI : TE → TE → TE := tCmp fun i j => !decide (i = j)
/-- a comparison of two ints, by its rule -/
theorem pc_int {op : CmpOp} {p : Int → Int → Bool} (ha : PE X a ta) (hb : PE X b tb)
    (rule : ∀ (i j : Int) (t u : Tok) (Q : Value → Shared → Prop) (s : Shared), Q (.bool (p i j)) s → wpAny (model X.prog X.w) X.A (compareOp op (.int i t) (.int j u)) Q X.xe s) : PC X op a b (tCmp p ta tb) := by
  intro pins s σ H Q I h
  refine bin ha hb I h fun v u s2 x y H2 I2 rx ry q => ?_
  obtain ⟨i, j, rfl, rfl, q⟩ := q
  obtain ⟨t, rfl⟩ := rx
  obtain ⟨t', rfl⟩ := ry
  exact rule i j t t' _ s2 ⟨.bl _, H2, I2, rfl, q⟩
theorem pc_lt (ha : PE X a ta) (hb : PE X b tb) : PC X .Lt a b (tLt ta tb) := pc_int ha hb fun _ _ _ _ _ _ h => lt_int h
theorem pc_le (ha : PE X a ta) (hb : PE X b tb) : PC X .LtE a b (tLe ta tb) := pc_int ha hb fun _ _ _ _ _ _ h => le_int h
theorem pc_gt (ha : PE X a ta) (hb : PE X b tb) : PC X .Gt a b (tGt ta tb) := pc_int ha hb fun _ _ _ _ _ _ h => gt_int h
theorem pc_ge (ha : PE X a ta) (hb : PE X b tb) : PC X .GtE a b (tGe ta tb) := pc_int ha hb fun _ _ _ _ _ _ h => ge_int h
theorem pc_eqI (ha : PE X a ta) (hb : PE X b tb) : PC X .Eq a b (tEqI ta tb) := pc_int ha hb fun _ _ _ _ _ _ h => eq_int (by rw [Bool.beq_eq_decide_eq]; exact h)
theorem pc_neI (ha : PE X a ta) (hb : PE X b tb) : PC X .NotEq a b (tNeI ta tb) := pc_int ha hb fun _ _ _ _ _ _ h => ne_int (by rw [bne, Bool.beq_eq_decide_eq]; exact h)
/-- is None -/
def tIsN (ta : TE) : TE := fun σ H Q => ta σ H fun x H1 => Q (.bl (decide (x = .non))) H1
def tNotN (ta : TE) : TE := fun σ H Q => ta σ H fun x H1 => Q (.bl (!decide (x = .non))) H1
theorem RelV.none_iff {x : V} {v : Value} (r : RelV x v) : (v == Value.none) = decide (x = .non) := by
  cases x with
  | non => cases r; rfl
  | bl _ => cases r; rfl
  | int _ => obtain ⟨t, rfl⟩ := r; rfl
  | str _ => obtain ⟨t, rfl⟩ := r; rfl
  | byt _ => obtain ⟨t, rfl⟩ := r; rfl
  | flt _ => obtain ⟨t, rfl⟩ := r; rfl
  | ref _ => cases r; rfl
  | ty _ => cases r; rfl
theorem pc_isN {j pos'} (ha : PE X a ta) : PC X .Is a (.Constant .none j pos') (tIsN ta) := by
  intro pins s σ H Q I h
  refine thn (ha pins s σ H _ I h) fun v s1 ⟨x, H1, I1, r1, q1⟩ => ?_
  exact Constant_none (is_none_gen ⟨.bl _, H1, I1, by rw [r1.none_iff]; rfl, q1⟩)
theorem pc_notN {j pos'} (ha : PE X a ta) : PC X .IsNot a (.Constant .none j pos') (tNotN ta) := by
  intro pins s σ H Q I h
  refine thn (ha pins s σ H _ I h) fun v s1 ⟨x, H1, I1, r1, q1⟩ => ?_
  exact Constant_none (isnot_none_gen ⟨.bl _, H1, I1, by rw [r1.none_iff]; rfl, q1⟩)
/-- a comparison as a value, as a test -/
def tB (t : TE) : TT := fun σ H Q => t σ H fun x H1 => ∃ c, x = .bl c ∧ Q c H1
theorem pe_cmp {op : CmpOp} {t : TE} (h : PC X op a b t) (h1 : behindInMarks op b = false := by first | exact nobehind _ (by decide) (by decide) | rfl) : PE X (.Compare a [op] [b] pos) t := fun pins s σ H Q I hw => wpAny_Compare1 (h pins s σ H Q I hw) h1
theorem pt_cmp {op : CmpOp} {t : TE} (h : PC X op a b t) (h1 : behindInMarks op b = false := by first | exact nobehind _ (by decide) (by decide) | rfl) : PT X (.Compare a [op] [b] pos) (tB t) := by
  intro pins s σ H Q I hw
  refine wpAny_isTrue_Compare1 (thn (h pins s σ H _ I hw) fun v s1 h1 => thn h1 fun u s2 h2 => thn h2 fun c s3 ⟨x, H1, I1, r1, q1⟩ => ?_) h1
  obtain ⟨d, rfl, q⟩ := q1
  cases r1
  exact wpAny_truthy_bool ⟨H1, I1, q⟩
/-- an expression whose value is a bool, as a test -/
theorem pt_val {e : Expr} {t : TE} (h : PE X e t) (he : ∀ whole, isTrue e X.env whole = (do let v ← whole; standAt e.pos; holding [v] (truthy v)) := by intro _; rfl) : PT X e (tB t) := by
  intro pins s σ H Q I hw
  refine isTrue_plain (thn (h pins s σ H _ I hw) fun v s1 ⟨x, H1, I1, r1, q1⟩ => ?_) (he _)
  obtain ⟨d, rfl, q⟩ := q1
  cases r1
  exact wpAny_truthy_bool ⟨H1, I1, q⟩

/-! ### and, or, not -/
variable {tA tB' : TT} {rest : List Expr}
def tAnd (t u : TT) : TT := fun σ H Q => t σ H fun c H1 => if c = true then u σ H1 Q else Q false H1
def tOr (t u : TT) : TT := fun σ H Q => t σ H fun c H1 => if c = true then Q true H1 else u σ H1 Q
def tNot (t : TT) : TT := fun σ H Q => t σ H fun c H1 => Q (!c) H1
theorem pw_and1 (ha : PT X a tA) : PW X (.BoolOp .And [a] pos) tA := by
  intro wh pins s σ H Q I h
  refine isTrue_and (thn (ha pins s σ H Q I h) fun c s1 e => ?_)
  cases c with
  | true => exact isTrue_and_nil e
  | false => exact e
theorem pw_or1 (ha : PT X a tA) : PW X (.BoolOp .Or [a] pos) tA := by
  intro wh pins s σ H Q I h
  refine isTrue_or (thn (ha pins s σ H Q I h) fun c s1 e => ?_)
  cases c with
  | false => exact isTrue_or_nil e
  | true => exact e
theorem pw_and (ha : PT X a tA) (hb : PW X (.BoolOp .And (b :: rest) pos) tB') : PW X (.BoolOp .And (a :: b :: rest) pos) (tAnd tA tB') := by
  intro wh pins s σ H Q I h
  refine isTrue_and (thn (ha pins s σ H _ I h) fun c s1 ⟨H1, I1, q1⟩ => ?_)
  cases c with
  | true => exact hb wh pins s1 σ H1 Q I1 q1
  | false => exact ⟨H1, I1, q1⟩
theorem pw_or (ha : PT X a tA) (hb : PW X (.BoolOp .Or (b :: rest) pos) tB') : PW X (.BoolOp .Or (a :: b :: rest) pos) (tOr tA tB') := by
  intro wh pins s σ H Q I h
  refine isTrue_or (thn (ha pins s σ H _ I h) fun c s1 ⟨H1, I1, q1⟩ => ?_)
  cases c with
  | true => exact ⟨H1, I1, q1⟩
  | false => exact hb wh pins s1 σ H1 Q I1 q1
theorem pt_not (ha : PT X a tA) : PT X (.UnaryOp .Not a pos) (tNot tA) := by
  intro pins s σ H Q I h
  exact isTrue_not (ha pins s σ H (fun c H1 => Q (!c) H1) I h)
/-- .. as values (bools) -/
def tAndV (ta tb : TE) : TE := fun σ H Q => ta σ H fun x H1 => ∃ c, x = .bl c ∧ if c = true then tb σ H1 Q else Q (.bl false) H1
def tOrV (ta tb : TE) : TE := fun σ H Q => ta σ H fun x H1 => ∃ c, x = .bl c ∧ if c = true then Q (.bl true) H1 else tb σ H1 Q
def tNotV (ta : TE) : TE := fun σ H Q => ta σ H fun x H1 => ∃ c, x = .bl c ∧ Q (.bl (!c)) H1
theorem pe_one {op} {t : TE} (h : PE X a t) : PE X (.BoolOp op [a] pos) t := fun pins s σ H Q I hw => BoolOp_one (h pins s σ H Q I hw)
theorem pe_and (ha : PE X a ta) (hb : PE X (.BoolOp .And (b :: rest) pos) tb) : PE X (.BoolOp .And (a :: b :: rest) pos) (tAndV ta tb) := by
  intro pins s σ H Q I h
  refine BoolOp_and (thn (ha pins s σ H _ I h) fun v s1 ⟨x, H1, I1, r1, q1⟩ => ?_)
  obtain ⟨c, rfl, q1⟩ := q1
  cases r1
  refine wpAny_truthy_bool ?_
  cases c with
  | true => exact hb pins s1 σ H1 Q I1 q1
  | false => exact ⟨.bl false, H1, I1, rfl, q1⟩
theorem pe_or (ha : PE X a ta) (hb : PE X (.BoolOp .Or (b :: rest) pos) tb) : PE X (.BoolOp .Or (a :: b :: rest) pos) (tOrV ta tb) := by
  intro pins s σ H Q I h
  refine BoolOp_or (thn (ha pins s σ H _ I h) fun v s1 ⟨x, H1, I1, r1, q1⟩ => ?_)
  obtain ⟨c, rfl, q1⟩ := q1
  cases r1
  refine wpAny_truthy_bool ?_
  cases c with
  | false => exact hb pins s1 σ H1 Q I1 q1
  | true => exact ⟨.bl true, H1, I1, rfl, q1⟩
theorem pe_not (ha : PE X a ta) : PE X (.UnaryOp .Not a pos) (tNotV ta) := by
  intro pins s σ H Q I h
  refine UnaryOp_ (thn (ha pins s σ H _ I h) fun v s1 ⟨x, H1, I1, r1, q1⟩ => ?_)
  obtain ⟨c, rfl, q1⟩ := q1
  cases r1
  exact not_of (wpAny_truthy_bool ⟨.bl (!c), H1, I1, rfl, q1⟩)
/-- a if t else b -/
def tIf (t : TT) (ta tb : TE) : TE := fun σ H Q => t σ H fun c H1 => if c = true then ta σ H1 Q else tb σ H1 Q
theorem pe_ifExp {c : Expr} (hc : PT X c tA) (ha : PE X a ta) (hb : PE X b tb) : PE X (.IfExp c a b pos) (tIf tA ta tb) := by
  intro pins s σ H Q I h
  refine wpAny_IfExp (thn (hc pins s σ H _ I h) fun d s1 ⟨H1, I1, q1⟩ => ?_)
  cases d with
  | true => exact ha pins s1 σ H1 Q I1 q1
  | false => exact hb pins s1 σ H1 Q I1 q1
end
end L2

namespace L2
open PySem PySem.Spec PyProof.Rows

/-! ### a list, a tuple that is read: tracked, frozen, or an object of the module -/
def SqL (K : PySem.W.Frag) (H : Hp) (a : Addr) (xs : List V) : Prop :=
  Rd H a (.lst xs) ∨
    ∃ (o : Obj) (its : Array Value) (n : Nat), K.lookup a = some o ∧ o.cls = .type "list" ∧ o.dict = none ∧ o.data = .seq its n ∧ its.size ≤ sizeLine ∧ Vals xs its.toList
def SqT (K : PySem.W.Frag) (H : Hp) (a : Addr) (xs : List V) : Prop :=
  Rd H a (.tup xs) ∨
    ∃ (o : Obj) (its : Array Value) (n : Nat), K.lookup a = some o ∧ o.cls = .type "tuple" ∧ o.data = .seq its n ∧ its.size ≤ sizeLine ∧ Vals xs its.toList
def absV : Value → Option V
  | .none => some .non
  | .bool b => some (.bl b)
  | .int i _ => some (.int i)
  | .str x _ => some (.str x)
  | .bytes b _ => some (.byt b)
  | .float b _ => some (.flt b)
  | .ref a => some (.ref a)
  | .type n => some (.ty n)
  | _ => none
theorem RelV.abs {x : V} {u : Value} (r : RelV x u) : absV u = some x := by
  cases x with
  | non => cases r; rfl
  | bl _ => cases r; rfl
  | int _ => obtain ⟨t, rfl⟩ := r; rfl
  | str _ => obtain ⟨t, rfl⟩ := r; rfl
  | byt _ => obtain ⟨t, rfl⟩ := r; rfl
  | flt _ => obtain ⟨t, rfl⟩ := r; rfl
  | ref _ => cases r; rfl
  | ty _ => cases r; rfl
theorem RelV.inj {x y : V} {u : Value} (r : RelV x u) (q : RelV y u) : x = y := Option.some.inj (r.abs.symm.trans q.abs)
theorem Vals.inj : ∀ {xs ys : List V} {us : List Value}, Vals xs us → Vals ys us → xs = ys
  | _, _, _, .nil, .nil => rfl
  | _, _, _, .cons r t, .cons r' t' => by rw [r.inj r', Vals.inj t t']
section
variable {X : Cx} {pins : List (Addr × Obj)} {σ : St} {H : Hp} {s : Shared} {a : Addr} {xs ys : List V}
theorem SqL.of {K : PySem.W.Frag} (h : H a = some (.lst xs)) : SqL K H a xs := .inl (.inl h)
theorem SqT.of {K : PySem.W.Frag} (h : H a = some (.tup xs)) : SqT K H a xs := .inl (.inl h)
theorem Inv.list (I : Inv X pins σ H s) (h : SqL X.K H a xs) : ∃ its : List Value, Vals xs its ∧ PlainL s.heap a its.toArray ∧ xs.length ≤ sizeLine := by
  rcases h with h | ⟨o, its, n, hk, hc, hd, hs, hz, r⟩
  · obtain ⟨z, its, n, r, e⟩ := h.ok I.hok
    exact ⟨its, r, ⟨_, n, e, rfl, rfl, rfl⟩, z⟩
  · refine ⟨its.toList, r, ⟨o, n, I.kIn a o hk, hc, hd, by simpa using hs⟩, ?_⟩
    have e := r.length
    simp only [Array.length_toList] at e
    omega
theorem Inv.tuple (I : Inv X pins σ H s) (h : SqT X.K H a xs) : ∃ its : List Value, Vals xs its ∧ IsTup s.heap a its.toArray ∧ xs.length ≤ sizeLine := by
  rcases h with h | ⟨o, its, n, hk, hc, hs, hz, r⟩
  · obtain ⟨z, its, r, p⟩ := h.ok I.hok
    exact ⟨its, r, p, z⟩
  · refine ⟨its.toList, r, ⟨o, I.kIn a o hk, hc, n, by simpa using hs⟩, ?_⟩
    have e := r.length
    simp only [Array.length_toList] at e
    omega
theorem Inv.list_inj (I : Inv X pins σ H s) (h : SqL X.K H a xs) (h' : SqL X.K H a ys) : xs = ys := by
  obtain ⟨its, r, ⟨o, n, e, _, _, d⟩, _⟩ := I.list h
  obtain ⟨its', r', ⟨o', n', e', _, _, d'⟩, _⟩ := I.list h'
  rw [e] at e'; cases e'
  rw [d] at d'
  injection d' with d1 _
  have : its = its' := by simpa using congrArg Array.toList d1
  subst this
  exact r.inj r'
theorem Inv.tuple_inj (I : Inv X pins σ H s) (h : SqT X.K H a xs) (h' : SqT X.K H a ys) : xs = ys := by
  obtain ⟨its, r, ⟨o, e, _, n, d⟩, _⟩ := I.tuple h
  obtain ⟨its', r', ⟨o', e', _, n', d'⟩, _⟩ := I.tuple h'
  rw [e] at e'; cases e'
  rw [d] at d'
  injection d' with d1 _
  have : its = its' := by simpa using congrArg Array.toList d1
  subst this
  exact r.inj r'
end

/-! ### another wish about exceptions -/
abbrev Cx.wish (X : Cx) (E : Value → Shared → Prop) : Cx := { X with xe := E }
/-- no exception leaves -/
abbrev Cx.nox (X : Cx) : Cx := X.wish fun _ _ => False
theorem Cx.Ok.wish {X : Cx} (ok : X.Ok) (E : Value → Shared → Prop) : (X.wish E).Ok :=
  ⟨ok.mod, ok.kind, ok.glob, ok.blt, ok.above, ok.inj, ok.has, ok.cab, ok.hd, ok.frames, ok.stk, ok.exf, ok.bs, ok.bsz, ok.noex, ok.exfs, ok.funs, ok.frf⟩
theorem Cx.Ok.unwish {X : Cx} {E : Value → Shared → Prop} (ok : (X.wish E).Ok) : X.Ok :=
  ⟨ok.mod, ok.kind, ok.glob, ok.blt, ok.above, ok.inj, ok.has, ok.cab, ok.hd, ok.frames, ok.stk, ok.exf, ok.bs, ok.bsz, ok.noex, ok.exfs, ok.funs, ok.frf⟩
section
variable {X : Cx} {pins : List (Addr × Obj)} {σ : St} {H : Hp} {s : Shared} {E : Value → Shared → Prop}
theorem Inv.wish (I : Inv X pins σ H s) (E : Value → Shared → Prop) : Inv (X.wish E) pins σ H s := ⟨I.ok.wish E, I.os, I.bare, I.base, I.loc, I.cell, I.free, I.freeC, I.pin, I.hok, I.len⟩
theorem Inv.unwish (I : Inv (X.wish E) pins σ H s) : Inv X pins σ H s := ⟨I.ok.unwish, I.os, I.bare, I.base, I.loc, I.cell, I.free, I.freeC, I.pin, I.hok, I.len⟩
theorem SP.unwish {D : Ends} {f : Flow} {s' : Shared} (h : SP (X.wish E) pins D f s') : SP X pins D f s' := by
  cases f with
  | next => obtain ⟨σ', H', I, q⟩ := h; exact ⟨σ', H', I.unwish, q⟩
  | brk => obtain ⟨σ', H', I, q⟩ := h; exact ⟨σ', H', I.unwish, q⟩
  | cont => obtain ⟨σ', H', I, q⟩ := h; exact ⟨σ', H', I.unwish, q⟩
  | ret u => obtain ⟨v, σ', H', I, r, q⟩ := h; exact ⟨v, σ', H', I.unwish, r, q⟩
theorem PE.nox {e : Expr} {t : TE} (h : PE X.nox e t) : PE X e t := fun pins s σ H Q I hw =>
  wpAny_mono (h pins s σ H Q (I.wish _) hw) (fun _ _ ⟨v, H', I', r, q⟩ => ⟨v, H', I'.unwish, r, q⟩) fun _ _ z => False.elim z
theorem PT.nox {e : Expr} {t : TT} (h : PT X.nox e t) : PT X e t := fun pins s σ H Q I hw =>
  wpAny_mono (h pins s σ H Q (I.wish _) hw) (fun _ _ ⟨H', I', q⟩ => ⟨H', I'.unwish, q⟩) fun _ _ z => False.elim z
theorem PSs.nox {st : List Stmt} {t : TS} (h : PSs X.nox st t) : PSs X st t := fun pins s σ H D I hw =>
  wpAny_mono (h pins s σ H D (I.wish _) hw) (fun _ _ q => q.unwish) fun _ _ z => False.elim z
end

/-! ### blocks and small statements -/
section
variable {X : Cx} {st : Stmt} {rest : List Stmt} {t u : TS} {e : Expr} {te : TE} {pos : Pos}
def tNext : TS := fun D σ H => D.nx σ H
def tSeq (t u : TS) : TS := fun D σ H => t { D with nx := u D } σ H
theorem pss_nil : PSs X [] tNext := fun _ _ σ H _ I h => wpAny_execs_nil ⟨σ, H, I, h⟩
theorem pss_cons (h1 : PS X st t) (h2 : PSs X rest u) : PSs X (st :: rest) (tSeq t u) := by
  intro pins s σ H D I h
  refine wpAny_execs_cons (thn (h1 pins s σ H { D with nx := u D } I h) fun f s1 q => ?_)
  cases f with
  | next =>
    obtain ⟨σ', H', I', q⟩ := q
    exact h2 pins s1 σ' H' D I' q
  | ret v => exact q
  | brk => exact q
  | cont => exact q
theorem pss_one (h1 : PS X st t) : PSs X [st] t := by
  intro pins s σ H D I h
  refine wpAny_execs_cons (thn (h1 pins s σ H D I h) fun f s1 q => ?_)
  cases f with
  | next => exact wpAny_execs_nil q
  | ret v => exact q
  | brk => exact q
  | cont => exact q
def tBreak : TS := fun D σ H => D.bk σ H
def tCont : TS := fun D σ H => D.ct σ H
theorem ps_pass : PS X (.Pass pos) tNext := fun _ _ σ H _ I h => wpAny_Pass ⟨σ, H, I, h⟩
theorem ps_break : PS X (.Break pos) tBreak := fun _ _ σ H _ I h => wpAny_Break ⟨σ, H, I, h⟩
theorem ps_continue : PS X (.Continue pos) tCont := fun _ _ σ H _ I h => wpAny_Continue ⟨σ, H, I, h⟩
/-- in a def's body nothing is shown -/
theorem Inv.quiet {pins : List (Addr × Obj)} {σ : St} {H : Hp} {s : Shared} (I : Inv X pins σ H s) : interactive X.env = false := by simp [interactive, I.ok.kind]
/-- a docstring -/
theorem ps_doc {x j pos pos'} : PS X (.Expr (.Constant (.str x) j pos) pos') tNext := fun _ s σ H _ I h => wpAny_Expr (Calls.Constant_str (show SP X _ _ .next { s with toks := s.toks + 1 } from ⟨σ, H, I.tok _, h⟩)) I.quiet
/-- an expression whose value is dropped -/
def tDrop (te : TE) : TS := fun D σ H => te σ H fun _ H1 => D.nx σ H1
theorem ps_expr (he : PE X e te) (hs : swapsWith e none pos.line X.env = pure false := by rfl) : PS X (.Expr e pos) (tDrop te) := by
  intro pins s σ H D I h
  exact wpAny_Expr_any (thn (he pins s σ H _ I h) fun v s1 ⟨x, H1, I1, r1, q1⟩ => ⟨σ, H1, I1, q1⟩) I.quiet hs
def tRet (te : TE) : TS := fun D σ H => te σ H D.rt
theorem ps_ret (he : PE X e te) : PS X (.Return (some e) pos) (tRet te) := by
  intro pins s σ H D I h
  exact wpAny_Return_some (thn (he pins s σ H _ I h) fun v s1 ⟨x, H1, I1, r1, q1⟩ => ⟨x, σ, H1, I1, r1, q1⟩)
def tRetN : TS := fun D _ H => D.rt .non H
theorem ps_retN : PS X (.Return none pos) tRetN := fun _ _ σ H _ I h => wpAny_Return_none ⟨.non, σ, H, I, rfl, h⟩
def tIfS (c : TT) (t u : TS) : TS := fun D σ H => c σ H fun b H1 => if b = true then t D σ H1 else u D σ H1
theorem ps_if {c : Expr} {a b : List Stmt} {tc : TT} (hc : PT X c tc) (ha : PSs X a t) (hb : PSs X b u) : PS X (.If c a b pos) (tIfS tc t u) := by
  intro pins s σ H D I h
  refine wpAny_If (thn (hc pins s σ H _ I h) fun d s1 ⟨H1, I1, q1⟩ => ?_)
  cases d with
  | true => exact ha pins s1 σ H1 D I1 q1
  | false => exact hb pins s1 σ H1 D I1 q1
/-- code that the proof never comes to -/
def tNever : TS := fun _ _ _ => False
theorem ps_never : PS X st tNever := fun _ _ _ _ _ _ h => h.elim
theorem pss_never {sts : List Stmt} : PSs X sts tNever := fun _ _ _ _ _ _ h => h.elim
end

/-! ### targets -/
abbrev TG := V → St → Hp → (St → Hp → Prop) → Prop
abbrev TGs := List V → St → Hp → (St → Hp → Prop) → Prop
def PG (X : Cx) (target : Expr) (t : TG) : Prop :=
  ∀ (pins : List (Addr × Obj)) (s : Shared) (σ : St) (H : Hp) (v : V) (u : Value) (Q : St → Hp → Prop), Inv X pins σ H s → RelV v u → t v σ H Q →
    wpAny (model X.prog X.w) X.A (assign target X.env u) (fun _ s' => ∃ σ' H', Inv X pins σ' H' s' ∧ Q σ' H') X.xe s
/-- several targets, one after another -/
def PGs (X : Cx) (ts : List Expr) (t : TGs) : Prop :=
  ∀ (pins : List (Addr × Obj)) (s : Shared) (σ : St) (H : Hp) (vs : List V) (us : List Value) (Q : St → Hp → Prop), Inv X pins σ H s → Vals vs us → t vs σ H Q →
    wpAny (model X.prog X.w) X.A (assignInOrder ((assignEach ts X.env).map (·.2)) us) (fun _ s' => ∃ σ' H', Inv X pins σ' H' s' ∧ Q σ' H') X.xe s
/-- o[i] = v, by values -/
abbrev TSet := V → V → V → Hp → (Hp → Prop) → Prop
def PSet (X : Cx) (t : TSet) : Prop :=
  ∀ (pins : List (Addr × Obj)) (s : Shared) (σ : St) (H : Hp) (o i v : V) (ov iv u : Value) (Q : Hp → Prop), Inv X pins σ H s → RelV o ov → RelV i iv → RelV v u → t o i v H Q →
    wpAny (model X.prog X.w) X.A (setItem ov iv u) (fun _ s' => ∃ H', Inv X pins σ H' s' ∧ Q H') X.xe s
/-- a op= b, by values -/
abbrev TIp := V → V → Hp → VK → Prop
def PIp (X : Cx) (op : Operator) (t : TIp) : Prop :=
  ∀ (pins : List (Addr × Obj)) (s : Shared) (σ : St) (H : Hp) (x y : V) (v u : Value) (Q : VK), Inv X pins σ H s → RelV x v → RelV y u → t x y H Q →
    wpAny (model X.prog X.w) X.A (inplaceOp op v u) (EP X pins σ Q) X.xe s
section
variable {X : Cx} {pos : Pos}
def gName (i : Nat) : TG := fun v σ H Q => Q (σ.set i (some v)) H
theorem pg_name {i : Nat} {x : Str} (hN : X.N.Nodup) (hi : X.N[i]? = some x) (hx : Loc X.env.scope x) (hf : X.fn x = true ∨ X.env.scope.names.lookup x = some .local := by first | exact .inl rfl | exact .inr rfl | assumption) : PG X (.Name x pos) (gName i) := by
  intro pins s σ H v u Q I r h
  exact wpAny_assign_Name (store_ok I hN hi hx r (fun s' I' => ⟨_, H, I', h⟩) hf)
def gNil : TGs := fun vs σ H Q => vs = [] ∧ Q σ H
def gCons (t : TG) (u : TGs) : TGs := fun vs σ H Q => ∃ v r, vs = v :: r ∧ t v σ H fun σ' H' => u r σ' H' Q
theorem pgs_nil : PGs X [] gNil := by
  intro pins s σ H vs us Q I r h
  obtain ⟨e, h⟩ := h
  subst e
  cases r
  exact assignInOrder_nil ⟨σ, H, I, h⟩
theorem pgs_cons {e : Expr} {es : List Expr} {t : TG} {u : TGs} (h1 : PG X e t) (h2 : PGs X es u)
    (hs : (assignEach (e :: es) X.env).map (·.2) = assign e X.env :: (assignEach es X.env).map (·.2) := by rfl) : PGs X (e :: es) (gCons t u) := by
  intro pins s σ H vs us Q I r h
  obtain ⟨v, vr, e1, h⟩ := h
  subst e1
  cases r with
  | cons r rr =>
    rw [hs]
    refine assignInOrder_cons (thn (h1 pins s σ H _ _ _ I r h) fun _ s1 ⟨σ1, H1, I1, q1⟩ => ?_)
    exact h2 pins s1 σ1 H1 _ _ Q I1 rr q1
/-- (a, b, ..) = a tuple of that length -/
def gTup (K : PySem.W.Frag) (n : Nat) (t : TGs) : TG := fun v σ H Q => ∃ a xs, v = .ref a ∧ SqT K H a xs ∧ xs.length = n ∧ t xs σ H Q
theorem pg_tup {es : List Expr} {k : Nat} {t : TGs} {n : Nat} (hc : X.calm = true) (h : PGs X es t)
    (hn : (assignEach es X.env).length = n := by rfl) (hst : (assignEach es X.env).findIdx? (·.1) = none := by rfl) : PG X (.Tuple es k pos) (gTup X.K n t) := by
  intro pins s σ H v u Q I r hw
  obtain ⟨a, xs, e1, hq, hl, hw⟩ := hw
  subst e1
  cases r
  obtain ⟨its, rv, ht, hz⟩ := I.tuple hq
  refine assign_Tuple_tuple (I.ok.hd hc) ht (by simp [hn, ← hl, rv.length]) hst fun h' hx => ?_
  have I1 : Inv X pins σ H { s with heap := h' } := I.kept (t' := s.toks) fun b o e => hx b o (Nat.ne_of_lt (Heap.lt_size e)) e
  exact h pins _ σ H xs _ Q I1 (by simpa using rv) hw
/-- o[i] = .. -/
def gSub (to ti : TE) (t : TSet) : TG := fun v σ H Q => to σ H fun o H1 => ti σ H1 fun i H2 => t o i v H2 fun H3 => Q σ H3
theorem pg_sub {o i : Expr} {to ti : TE} {t : TSet} (ho : PE X o to) (hi : PE X i ti) (hs : PSet X t)
    (ha : ∀ v, assign (.Subscript o i pos) X.env v = (do
      let ov ← holding [v] (eval o X.env)
      let iv ← holding [v, ov] (eval i X.env)
      standAt pos
      holding [v, ov, iv] (setItem ov iv v)
      release [v, ov, iv] []) := by intro _; rfl) : PG X (.Subscript o i pos) (gSub to ti t) := by
  intro pins s σ H v u Q I r h
  rw [ha]
  refine wpAny_bind (wpAny_holding (thn (ho pins s σ H _ I h) fun ov s1 ⟨x, H1, I1, r1, q1⟩ => ?_))
  refine wpAny_bind (wpAny_holding (thn (hi pins s1 σ H1 _ I1 q1) fun iv s2 ⟨y, H2, I2, r2, q2⟩ => ?_))
  refine wpAny_bind (wpAny_standAt (wpAny_bind (wpAny_holding (thn (hs pins s2 σ H2 x y v ov iv u _ I2 r1 r2 r q2) fun _ s3 ⟨H3, I3, q3⟩ => ?_))))
  exact wpAny_release ⟨σ, H3, I3, q3⟩
/-- target = value -/
def tAsg (te : TE) (g : TG) : TS := fun D σ H => te σ H fun x H1 => g x σ H1 D.nx
theorem ps_asg {tg e : Expr} {te : TE} {g : TG} (he : PE X e te) (hg : PG X tg g) (hs : swapsWithSole [tg] e pos.line X.env = pure false := by rfl) (hw : swappedStores [tg] e X.env = pure none := by rfl)
    (h1 : (assignEach [tg] X.env).map (·.2) = [assign tg X.env] := by rfl) : PS X (.Assign [tg] e pos) (tAsg te g) := by
  intro pins s σ H D I h
  refine wpAny_Assign_stores (thn (he pins s σ H _ I h) fun v s1 ⟨x, H1, I1, r1, q1⟩ => ?_) hs hw
  rw [h1]
  exact thn (hg pins s1 σ H1 x v _ I1 r1 q1) fun _ s2 q => q
/-- name = value -/
theorem ps_set {i : Nat} {x : Str} {e : Expr} {te : TE} {pos' : Pos} (hN : X.N.Nodup) (hi : X.N[i]? = some x) (hx : Loc X.env.scope x) (he : PE X e te) (hs : swapsWith e (some (.Name x pos')) pos.line X.env = pure false := by rfl) (hf : X.fn x = true ∨ X.env.scope.names.lookup x = some .local := by first | exact .inl rfl | exact .inr rfl | assumption) :
    PS X (.Assign [.Name x pos'] e pos) (tAsg te (gName i)) := by
  intro pins s σ H D I h
  refine wpAny_Assign_Name (thn (he pins s σ H _ I h) fun v s1 ⟨y, H1, I1, r1, q1⟩ => ?_) hs
  exact store_ok I1 hN hi hx r1 (fun s2 I2 => ⟨_, H1, I2, q1⟩) hf
/-- a, b = x, y with plain local names: stored from the right; the pair itself is not tracked (the opening rows as in PyProof/Rows/TupAssign.lean:23) -/
def tPar (i j : Nat) (ta : TA) : TS := fun D σ H => ta σ H fun vs H1 => ∃ v w, vs = [v, w] ∧ D.nx ((σ.set i (some v)).set j (some w)) H1
theorem ps_par {i j : Nat} {x y : Str} {a b : Expr} {ta : TA} {px py pt : Pos} {kt k2 pt2} (hc : X.calm = true) (hN : X.N.Nodup) (hi : X.N[i]? = some x) (hj : X.N[j]? = some y) (hij : i ≠ j)
    (hx : X.env.scope.names.lookup x = some .local) (hy : X.env.scope.names.lookup y = some .local) (ha : PA X [a, b] ta)
    (hw : swappedStores [.Tuple [.Name x px, .Name y py] kt pt] (.Tuple [a, b] k2 pt2) X.env = pure (some [x, y]))
    (hs : swapsWithSole [.Tuple [.Name x px, .Name y py] kt pt] (.Tuple [a, b] k2 pt2) pos.line X.env = pure false := by rfl) :
    PS X (.Assign [.Tuple [.Name x px, .Name y py] kt pt] (.Tuple [a, b] k2 pt2) pos) (tPar i j ta) := by
  intro pins s σ H D I h
  rw [exec_Assign_arm]
  refine wpAny_bind (wpAny_standAt ?_)
  rw [hs]
  refine wpAny_bind (wpAny_pure ?_)
  rw [if_neg (by decide)]
  refine wpAny_bind (Tuple_ (thn (ha _ pins s σ H _ I h) fun us s1 ⟨vs, H1, I1, r1, q1⟩ => ?_))
  obtain ⟨v, w, e1, q1⟩ := q1
  subst e1
  obtain ⟨u1, u2, rfl, rv, rw'⟩ : ∃ u1 u2, us = [u1, u2] ∧ RelV v u1 ∧ RelV w u2 := by
    cases r1 with
    | cons p q =>
      cases q with
      | cons p' q' =>
        cases q'
        exact ⟨_, _, rfl, p, p'⟩
  refine wpAny_newObj_type ?_ (by show 2 ≤ sizeLine; decide)
  have I2 : Inv X pins σ H1 { s1 with heap := s1.heap.push { cls := .type "tuple", data := .seq [u1, u2].toArray } } := I1.kept (t' := s1.toks) fun b o e => Heap.get?_push_of_some _ e
  rw [hw]
  refine wpAny_bind (wpAny_pure ?_)
  show wpAny (model X.prog X.w) X.A (do rule "assign.swapped-stores"; let items ← unpackItems (.ref s1.heap.objs.size) 2 none; assignInOrder [fun v => bindName X.env y v, fun v => bindName X.env x v] items.reverse; pure Flow.next) _ _ _
  refine wpAny_bind (wpAny_rule (wpAny_bind (unpackItems_tuple (items := #[u1, u2]) (I.ok.hd hc) (IsTup.new s1.heap _) fun h' hx' => ?_)))
  have I3 := I2.kept (h' := h') (t' := s1.toks) fun b o e => hx' b o (Nat.ne_of_lt (Heap.lt_size e)) e
  show wpAny _ _ (assignInOrder [fun v => bindName X.env y v, fun v => bindName X.env x v] [u2, u1] >>= fun _ => pure Flow.next) _ _ _
  refine wpAny_bind (assignInOrder_cons (wpAny_bindName (store_ok I3 hN hj (.inl hy) rw' (fun s2 I4 => ?_) (.inr hy))))
  refine assignInOrder_cons (wpAny_bindName (store_ok I4 hN hi (.inl hx) rv (fun s3 I5 => assignInOrder_nil (wpAny_pure ?_)) (.inr hx)))
  rw [List.set_comm _ _ (Ne.symm hij)] at I5
  exact ⟨_, H1, I5, q1⟩
/-- name op= e -/
def tAug (i : Nat) (te : TE) (ti : TIp) : TS := fun D σ H => ∃ x, σ[i]? = some (some x) ∧ te σ H fun y H1 => ti x y H1 fun z H2 => D.nx (σ.set i (some z)) H2
theorem ps_aug {i : Nat} {x : Str} {e : Expr} {te : TE} {op : Operator} {ti : TIp} {pos' : Pos} (hN : X.N.Nodup) (hi : X.N[i]? = some x) (hx : Loc X.env.scope x) (he : PE X e te) (ho : PIp X op ti) (hf : X.fn x = true ∨ X.env.scope.names.lookup x = some .local := by first | exact .inl rfl | exact .inr rfl | assumption) :
    PS X (.AugAssign (.Name x pos') op e pos) (tAug i te ti) := by
  intro pins s σ H D I h
  obtain ⟨v, e1, h⟩ := h
  obtain ⟨m, hn, hl⟩ := I.loc
  have vis : Vis X.env.scope x := by rcases hx with k | k; exact .inl k; exact .inr (.inl k)
  obtain ⟨u, r, l⟩ := hl i x v hi e1 vis
  refine wpAny_AugAssign_Name ?_
  have go : wpAny (model X.prog X.w) X.A (eval e X.env) (fun w s₂ => wpAny (model X.prog X.w) X.A (inplaceOp op u w) (fun r s₃ => wpAny (model X.prog X.w) X.A (storeName X.env x r) (fun _ => SP X pins D .next) X.xe s₃) X.xe s₂) X.xe s := by
    refine thn (he pins s σ H _ I h) fun w s1 ⟨y, H1, I1, r1, q1⟩ => ?_
    refine thn (ho pins s1 σ H1 v y u w _ I1 r r1 q1) fun z s2 ⟨zv, H2, I2, r2, q2⟩ => ?_
    exact store_ok I2 hN hi hx r2 (fun s3 I3 => ⟨_, H2, I3, q2⟩) hf
  rcases l with ⟨hk, hm⟩ | ⟨hk, c, hc, hcell⟩
  · exact wpAny_loadName_local I.ok.kind hk hn hm go
  · rcases hk with hk | hk
    · exact wpAny_loadName_cell I.ok.kind hk hc hcell go
    · rcases hx with k | k
      · have : X.env.scope.names.lookup x = some .free := hk
        rw [k] at this; cases this
      · have : X.env.scope.names.lookup x = some .free := hk
        rw [k] at this; cases this
/-- o[i] op= e -/
def tAugS (to ti te : TE) (tget : V → V → Hp → VK → Prop) (tip : TIp) (tset : TSet) : TS := fun D σ H => to σ H fun o H1 => ti σ H1 fun i H2 => tget o i H2 fun x H3 => te σ H3 fun y H4 => tip x y H4 fun z H5 => tset o i z H5 fun H6 => D.nx σ H6
/-- o[i], by values -/
def PGet (X : Cx) (t : V → V → Hp → VK → Prop) : Prop :=
  ∀ (pins : List (Addr × Obj)) (s : Shared) (σ : St) (H : Hp) (o i : V) (ov iv : Value) (Q : VK), Inv X pins σ H s → RelV o ov → RelV i iv → t o i H Q →
    wpAny (model X.prog X.w) X.A (getItem ov iv) (EP X pins σ Q) X.xe s
theorem ps_augS {o i e : Expr} {to ti te : TE} {tget : V → V → Hp → VK → Prop} {tip : TIp} {tset : TSet} {op : Operator} {tpos : Pos} (ho : PE X o to) (hi : PE X i ti) (hg : PGet X tget) (he : PE X e te) (hp : PIp X op tip) (hs : PSet X tset)
    (ha : ∀ ov iv new, augStore i ov iv new = (do holding [new, ov, iv] (setItem ov iv new); release [new, ov, iv] []; pure .next) := by intros; rfl) : PS X (.AugAssign (.Subscript o i tpos) op e pos) (tAugS to ti te tget tip tset) := by
  intro pins s σ H D I h
  refine wpAny_AugAssign_SubscriptAny (thn (ho pins s σ H _ I h) fun ov s1 ⟨x1, H1, I1, r1, q1⟩ => ?_) ha
  refine thn (hi pins s1 σ H1 _ I1 q1) fun iv s2 ⟨x2, H2, I2, r2, q2⟩ => ?_
  refine thn (hg pins s2 σ H2 x1 x2 ov iv _ I2 r1 r2 q2) fun old s3 ⟨x3, H3, I3, r3, q3⟩ => ?_
  refine thn (he pins s3 σ H3 _ I3 q3) fun v s4 ⟨x4, H4, I4, r4, q4⟩ => ?_
  refine thn (hp pins s4 σ H4 x3 x4 old v _ I4 r3 r4 q4) fun new s5 ⟨x5, H5, I5, r5, q5⟩ => ?_
  exact thn (hs pins s5 σ H5 x1 x2 x5 ov iv new _ I5 r1 r2 r5 q5) fun _ s6 ⟨H6, I6, q6⟩ => ⟨σ, H6, I6, q6⟩
/-- ints -/
def ipI (f : Int → Int → Int) : TIp := fun x y H Q => ∃ i j, x = .int i ∧ y = .int j ∧ Q (.int (f i j)) H
theorem ip_add : PIp X .Add (ipI fun i j => i + j) := by
  intro pins s σ H x y v u Q I r1 r2 h
  obtain ⟨i, j, e1, e2, q⟩ := h
  subst e1; subst e2
  obtain ⟨t, rfl⟩ := r1
  obtain ⟨t', rfl⟩ := r2
  exact iadd_int ⟨.int _, H, I.tok _, ⟨_, rfl⟩, q⟩
theorem ip_sub : PIp X .Sub (ipI fun i j => i - j) := by
  intro pins s σ H x y v u Q I r1 r2 h
  obtain ⟨i, j, e1, e2, q⟩ := h
  subst e1; subst e2
  obtain ⟨t, rfl⟩ := r1
  obtain ⟨t', rfl⟩ := r2
  exact isub_int ⟨.int _, H, I.tok _, ⟨_, rfl⟩, q⟩
end

/-! ### while -/
section
variable {X : Cx} {pos : Pos}
/-- the invariant W with its measure -/
def tWhile (c : TT) (tb : TS) : TS := fun D σ H => ∃ W : Nat → St → Hp → Prop, (∃ m, W m σ H) ∧ ∀ m σ H, W m σ H →
  c σ H fun b H1 => if b = true then ∃ N : St → Hp → Prop, (∀ σ' H', N σ' H' → ∃ m', m' < m ∧ W m' σ' H') ∧ tb { D with nx := N, ct := N, bk := D.nx } σ H1 else D.nx σ H1
theorem ps_while {c : Expr} {body : List Stmt} {tc : TT} {tb : TS} (hp : PassesOwn (model X.prog X.w) X.A X.env X.xe) (hc : PT X c tc) (hb : PSs X body tb) : PS X (.While c body [] pos) (tWhile tc tb) := by
  intro pins s σ H D I h
  obtain ⟨W, ⟨m0, w0⟩, turn⟩ := h
  refine wpAny_While (codeAny_whileLoop (fun n s' => ∃ σ' H', Inv X pins σ' H' s' ∧ W n σ' H') ?_ m0 ⟨σ, H, I, w0⟩)
  rintro n s1 ⟨σ1, H1, I1, w1⟩
  refine wpAny_passesOwn hp (thn (hc pins s1 σ1 H1 _ I1 (turn n σ1 H1 w1)) fun b s2 ⟨H2, I2, q2⟩ => ?_)
  cases b with
  | true =>
    obtain ⟨N, hN, q2⟩ := q2
    rw [if_pos rfl]
    refine wpAny_passesOwn hp (thn (hb pins s2 σ1 H2 _ I2 q2) fun f s3 q3 => ?_)
    cases f with
    | next =>
      obtain ⟨σ3, H3, I3, n3⟩ := q3
      obtain ⟨m', hm, w3⟩ := hN σ3 H3 n3
      exact ⟨m', hm, σ3, H3, I3, w3⟩
    | cont =>
      obtain ⟨σ3, H3, I3, n3⟩ := q3
      obtain ⟨m', hm, w3⟩ := hN σ3 H3 n3
      exact ⟨m', hm, σ3, H3, I3, w3⟩
    | brk => exact q3
    | ret v => exact q3
  | false =>
    rw [if_neg Bool.false_ne_true]
    exact wpAny_execs_nil ⟨σ1, H2, I2, q2⟩
end

/-! ### what a loop or a comprehension walks -/
/-- at turn i: it yields x (the heap may grow), or it stops -/
structure It where
  go : Nat → Hp → Prop
  yld : Nat → Hp → V → Hp → Prop
  stop : Nat → Hp → Prop
/-- the iterator's own objects may turn: they are not the frame's, not pinned, younger than the entry (or a comprehension's own) -/
def FpOk (X : Cx) (pins : List (Addr × Obj)) (H : Hp) (b : Addr) : Prop :=
  H b = none ∧ b ≠ X.env.locals ∧ b ∉ X.fs ∧ (b ∈ X.ex ∨ X.s₀.heap.objs.size ≤ b) ∧ (∀ x c, X.env.cells.lookup x = some c → c ≠ b) ∧ ∀ p ∈ X.pn ++ pins, p.1 ≠ b
theorem Inv.fpOk {X : Cx} {pins : List (Addr × Obj)} {σ : St} {H H' : Hp} {s : Shared} {b : Addr} (I : Inv X pins σ H s) (hb : s.heap.objs.size ≤ b) (hn : H' b = none) : FpOk X pins H' b := by
  refine ⟨hn, Nat.ne_of_gt (Nat.lt_of_lt_of_le I.lt hb), I.nofs hb, .inr (Nat.le_trans I.sz hb), fun x c e z => ?_, fun p hp z => ?_⟩
  · obtain ⟨v, q⟩ := I.cell x c e
    exact absurd (Nat.lt_of_lt_of_le q.lt (by rw [z]; exact hb)) (Nat.lt_irrefl _)
  · exact absurd (Nat.lt_of_lt_of_le (Heap.lt_size (I.pin p hp).1) (by rw [z]; exact hb)) (Nat.lt_irrefl _)
structure Turn (P : Program) (w : World) (K : PySem.W.Frag) (tg : Expr) (J : It) (fp : List Addr) (it : Addr) (tn : Nat → Heap → Prop) : Prop where
  mem : it ∈ fp
  obj : ∀ i h, tn i h → ∀ b ∈ fp, ∃ o, h.get? b = some o ∧ ∀ v, o.data ≠ .cell v
  keep : ∀ i h h', tn i h → (∀ b ∈ fp, ∀ o, h.get? b = some o → h'.get? b = some o) → tn i h'
  item : ∀ (X : Cx), X.prog = P → X.w = w → X.K = K → X.calm = true → ∀ (i : Nat) (pins : List (Addr × Obj)) (s : Shared) (σ : St) (H : Hp) (E : Value → Shared → Prop), Inv X pins σ H s → (∀ b ∈ fp, FpOk X pins H b) → tn i s.heap → J.go i H →
    wpAny (model P w) X.A (pyNext (.ref it)) (fun r s1 => ∃ u, r = some u ∧
      wpAny (model P w) X.A (letOwnedTupleGo tg (.ref it) u) (fun _ s2 => ∃ x H', Inv X pins σ H' s2 ∧ RelV x u ∧ J.yld i H x H' ∧ tn (i + 1) s2.heap ∧ ∀ b ∈ fp, H' b = none) E s1) E s
  done : ∀ (X : Cx), X.prog = P → X.w = w → X.K = K → X.calm = true → ∀ (i : Nat) (pins : List (Addr × Obj)) (s : Shared) (σ : St) (H : Hp) (E : Value → Shared → Prop), Inv X pins σ H s → (∀ b ∈ fp, FpOk X pins H b) → tn i s.heap → J.stop i H →
    wpAny (model P w) X.A (pyNext (.ref it)) (fun r s1 => r = none ∧ Inv X pins σ H s1) E s
  self : ∀ (A : Around) (i : Nat) (s : Shared) (Q : Value → Shared → Prop) (E : Value → Shared → Prop), tn i s.heap → Q (.ref it) s → wpAny (model P w) A (pyIter (.ref it)) Q E s
abbrev TI := St → Hp → (It → Hp → Prop) → Prop
/-- an iterator has come -/
def PIE (X : Cx) (pins : List (Addr × Obj)) (σ : St) (tg : Expr) (R : It → Hp → Prop) (itv : Value) (s2 : Shared) : Prop :=
  ∃ (it : Addr) (fp : List Addr) (tn : Nat → Heap → Prop) (J : It) (H' : Hp), itv = .ref it ∧ Inv X pins σ H' s2 ∧ Turn X.prog X.w X.K tg J fp it tn ∧ tn 0 s2.heap ∧ (∀ b ∈ fp, FpOk X pins H' b) ∧ R J H'
def PI (X : Cx) (tg iter : Expr) (wi : TI) : Prop :=
  ∀ (pins : List (Addr × Obj)) (s : Shared) (σ : St) (H : Hp) (R : It → Hp → Prop), Inv X pins σ H s → wi σ H R →
    wpAny (model X.prog X.w) X.A (eval iter X.env) (fun v s1 => wpAny (model X.prog X.w) X.A (pyIter v) (PIE X pins σ tg R) X.xe s1) X.xe s

/-- the step ahead of the store is nothing for an iterator that keeps no tuple -/
theorem go_of {M : Model} {A : Around} {E : Value → Shared → Prop} {s : Shared} {tg : Expr} {it : Addr} {u : Value} {o : Obj} {n : String} {vs : Array Value} {Q : Unit → Shared → Prop} (ho : s.heap.get? it = some o) (hc : o.cls = .type n) (hd : o.data = .fields vs)
    (hn : ["enumerate", "zip", "dict_itemiterator", "dict_reverseitemiterator", "odict_iterator", "itertools.zip_longest", "itertools.pairwise"].contains n = false) (hQ : Q () s) : wpAny M A (letOwnedTupleGo tg (.ref it) u) Q E s := by
  unfold letOwnedTupleGo
  cases tg <;> first
    | exact wpAny_pure hQ
    | (cases u <;> first
        | exact wpAny_pure hQ
        | (refine wpAny_bind (wpAny_load ho ?_)
           rw [hc, hd]
           show wpAny M A (if (["enumerate", "zip", "dict_itemiterator", "dict_reverseitemiterator", "odict_iterator", "itertools.zip_longest", "itertools.pairwise"].contains n && vs[0]? == some (rawInt _)) = true then _ else _) Q E s
           rw [if_neg (by intro h; rw [hn, Bool.false_and] at h; cases h)]
           exact wpAny_pure hQ))

/-- the list at a, as it stands at each turn (a loop may append to it) -/
def Itl (K : PySem.W.Frag) (a : Addr) : It :=
  ⟨fun i H => ∃ xs x, SqL K H a xs ∧ xs[i]? = some x, fun i H x H' => H' = H ∧ ∀ xs, SqL K H a xs → xs[i]? = some x, fun i H => ∃ xs, SqL K H a xs ∧ xs.length ≤ i⟩
def Itt (K : PySem.W.Frag) (a : Addr) : It :=
  ⟨fun i H => ∃ xs x, SqT K H a xs ∧ xs[i]? = some x, fun i H x H' => H' = H ∧ ∀ xs, SqT K H a xs → xs[i]? = some x, fun i H => ∃ xs, SqT K H a xs ∧ xs.length ≤ i⟩
/-- lo, lo + 1, .. (n of them) -/
def Itr (lo : Int) (n : Nat) : It := ⟨fun i _ => i < n, fun i H x H' => H' = H ∧ x = .int (lo + i), fun i _ => n ≤ i⟩
theorem turn_list {P : Program} {w : World} {K : PySem.W.Frag} {tg : Expr} (a it : Addr) : Turn P w K tg (Itl K a) [it] it (fun i h => h.IsListIter it a i) where
  mem := by simp
  obj := fun i h st b hb => by
    have e : b = it := by simpa using hb
    subst e
    obtain ⟨o, e, c, d⟩ := st
    exact ⟨o, e, fun v z => by rw [d] at z; cases z⟩
  keep := fun i h h' st k => st.at fun o e => k it (by simp) o e
  item := by
    intro X hP hw hK hc i pins s σ H E I hf st hg
    subst hP hw hK
    obtain ⟨xs, x, hq, hx⟩ := hg
    obtain ⟨its, rv, p, hz⟩ := I.list hq
    obtain ⟨u, hu, ru⟩ := rv.get hx
    obtain ⟨f0, f1, f2, f3, f4, f5⟩ := hf it (by simp)
    refine wpAny_pyNext_list_item st p.isList (x := u) (by simpa using hu) fun h' st' sb => ?_
    have I1 : Inv X pins σ H { s with heap := h' } := I.turned (t' := s.toks) (fun b o hb e => (sb.2 b hb).trans e) f0 f1 f3 f4 f5
    obtain ⟨o, e, c, d⟩ := id st'
    exact ⟨u, rfl, go_of (s := { s with heap := h' }) e c d (by decide) ⟨x, H, I1, ru, ⟨rfl, fun ys hy => by rw [I.list_inj hy hq]; exact hx⟩, st', fun b hb => (hf b hb).1⟩⟩
  done := by
    intro X hP hw hK hc i pins s σ H E I hf st hg
    subst hP hw hK
    obtain ⟨xs, hq, hx⟩ := hg
    obtain ⟨its, rv, p, hz⟩ := I.list hq
    obtain ⟨f0, f1, f2, f3, f4, f5⟩ := hf it (by simp)
    have hl := rv.length
    exact wpAny_pyNext_list_end (I.ok.hd hc) st p.isList (by simp; omega) fun h' eb => ⟨rfl, I.turned (t' := s.toks) (fun b o hb e => eb b o hb e) f0 f1 f3 f4 f5⟩
  self := fun _ _ _ _ _ st h => wpAny_pyIter_listiter st h
theorem turn_tuple {P : Program} {w : World} {K : PySem.W.Frag} {tg : Expr} (a it : Addr) : Turn P w K tg (Itt K a) [it] it (fun i h => h.IsTupleIter it a i) where
  mem := by simp
  obj := fun i h st b hb => by
    have e : b = it := by simpa using hb
    subst e
    obtain ⟨o, e, c, d⟩ := st
    exact ⟨o, e, fun v z => by rw [d] at z; cases z⟩
  keep := fun i h h' st k => st.at fun o e => k it (by simp) o e
  item := by
    intro X hP hw hK hc i pins s σ H E I hf st hg
    subst hP hw hK
    obtain ⟨xs, x, hq, hx⟩ := hg
    obtain ⟨its, rv, p, hz⟩ := I.tuple hq
    obtain ⟨u, hu, ru⟩ := rv.get hx
    obtain ⟨f0, f1, f2, f3, f4, f5⟩ := hf it (by simp)
    refine wpAny_pyNext_tuple_item st (show s.heap.IsTuple a its.toArray from p) (x := u) (by simpa using hu) fun h' st' sb => ?_
    have I1 : Inv X pins σ H { s with heap := h' } := I.turned (t' := s.toks) (fun b o hb e => (sb.2 b hb).trans e) f0 f1 f3 f4 f5
    obtain ⟨o, e, c, d⟩ := id st'
    exact ⟨u, rfl, go_of (s := { s with heap := h' }) e c d (by decide) ⟨x, H, I1, ru, ⟨rfl, fun ys hy => by rw [I.tuple_inj hy hq]; exact hx⟩, st', fun b hb => (hf b hb).1⟩⟩
  done := by
    intro X hP hw hK hc i pins s σ H E I hf st hg
    subst hP hw hK
    obtain ⟨xs, hq, hx⟩ := hg
    obtain ⟨its, rv, p, hz⟩ := I.tuple hq
    obtain ⟨f0, f1, f2, f3, f4, f5⟩ := hf it (by simp)
    have hl := rv.length
    exact wpAny_pyNext_tuple_end (I.ok.hd hc) st (show s.heap.IsTuple a its.toArray from p) (by simp; omega) fun h' eb => ⟨rfl, I.turned (t' := s.toks) (fun b o hb e => eb b o hb e) f0 f1 f3 f4 f5⟩
  self := fun _ _ _ _ _ st h => wpAny_pyIter_tupleiter st h
theorem turn_range {P : Program} {w : World} {K : PySem.W.Frag} {tg : Expr} (it : Addr) (lo : Int) (n : Nat) : Turn P w K tg (Itr lo n) [it] it (fun i h => IsRangeIter h it (lo + (i : Nat) * 1) ((n : Int) - (i : Nat)) 1) where
  mem := by simp
  obj := fun i h st b hb => by
    have e : b = it := by simpa using hb
    subst e
    exact ⟨_, st, fun v z => by
      have z' : Data.fields _ = Data.cell v := z
      cases z'⟩
  keep := fun i h h' st k => k it (by simp) _ st
  item := by
    intro X hP hw hK hc i pins s σ H E I hf st hg
    subst hP hw hK
    obtain ⟨f0, f1, f2, f3, f4, f5⟩ := hf it (by simp)
    have W := Walks.range (prog := X.prog) (w := X.w) (I.ok.hd hc) it lo 1 n
    refine W.item i s _ _ hg st fun v h' tk hv st' kk => ?_
    obtain ⟨t, rfl⟩ := hv
    have I1 : Inv X pins σ H { s with heap := h', toks := tk } := I.turned (fun b o hb e => kk b o (by simpa using hb) e) f0 f1 f3 f4 f5
    refine ⟨_, rfl, go_of (s := { s with heap := h', toks := tk }) (n := "range_iterator") st' rfl rfl (by decide) ⟨.int (lo + i), H, I1, ⟨t, ?_⟩, ⟨rfl, rfl⟩, st', fun b hb => (hf b hb).1⟩⟩
    rw [Int.mul_one]
  done := by
    intro X hP hw hK hc i pins s σ H E I hf st hg
    subst hP hw hK
    obtain ⟨f0, f1, f2, f3, f4, f5⟩ := hf it (by simp)
    exact wpAny_pyNext_range_end (I.ok.hd hc) st (by have : n ≤ i := hg; omega) fun h' eb => ⟨rfl, I.turned (t' := s.toks) (fun b o hb e => eb b o hb e) f0 f1 f3 f4 f5⟩
  self := fun _ _ _ _ _ st h => wpAny_pyIter_rangeiter st h
end L2

namespace L2
open PySem PySem.Spec PyProof.Rows
section
variable {X : Cx} {tg : Expr}
def iList (K : PySem.W.Frag) (tl : TE) : TI := fun σ H R => tl σ H fun x H1 => ∃ a, x = .ref a ∧ (∃ xs, SqL K H1 a xs) ∧ R (Itl K a) H1
def iTup (K : PySem.W.Frag) (tl : TE) : TI := fun σ H R => tl σ H fun x H1 => ∃ a, x = .ref a ∧ (∃ xs, SqT K H1 a xs) ∧ R (Itt K a) H1
theorem pi_list {l : Expr} {tl : TE} (hl : PE X l tl) : PI X tg l (iList X.K tl) := by
  intro pins s σ H R I h
  refine thn (hl pins s σ H _ I h) fun v s1 ⟨x, H1, I1, r1, q1⟩ => ?_
  obtain ⟨a, e, ⟨xs, hq⟩, q⟩ := q1
  subst e
  cases r1
  obtain ⟨its, rv, p, hz⟩ := I1.list hq
  refine wpAny_pyIter_list p.isList ?_
  refine ⟨s1.heap.objs.size, [s1.heap.objs.size], _, _, H1, rfl, I1.kept (t' := s1.toks) fun b o e => Heap.get?_push_of_some _ e, turn_list a _, ⟨_, Heap.get?_push_size _ rfl, rfl, rfl⟩, fun b hb => ?_, q⟩
  have e : b = s1.heap.objs.size := by simpa using hb
  subst e
  exact I1.fpOk (Nat.le_refl _) (I1.hok.fresh (Nat.le_refl _))
theorem pi_tup {l : Expr} {tl : TE} (hl : PE X l tl) : PI X tg l (iTup X.K tl) := by
  intro pins s σ H R I h
  refine thn (hl pins s σ H _ I h) fun v s1 ⟨x, H1, I1, r1, q1⟩ => ?_
  obtain ⟨a, e, ⟨xs, hq⟩, q⟩ := q1
  subst e
  cases r1
  obtain ⟨its, rv, p, hz⟩ := I1.tuple hq
  refine wpAny_pyIter_tuple (show s1.heap.IsTuple a its.toArray from p) ?_
  refine ⟨s1.heap.objs.size, [s1.heap.objs.size], _, _, H1, rfl, I1.kept (t' := s1.toks) fun b o e => Heap.get?_push_of_some _ e, turn_tuple a _, ⟨_, Heap.get?_push_size _ rfl, rfl, rfl⟩, fun b hb => ?_, q⟩
  have e : b = s1.heap.objs.size := by simpa using hb
  subst e
  exact I1.fpOk (Nat.le_refl _) (I1.hok.fresh (Nat.le_refl _))
/-- a range object just made, walked -/
theorem range_it {pins : List (Addr × Obj)} {σ : St} {H : Hp} {s : Shared} {R : It → Hp → Prop} {E : Value → Shared → Prop} {lo hi : Int} {t u v : Tok} {tk : Nat} (I : Inv X pins σ H s) (h1 : -(2 ^ 62) ≤ lo) (h2 : lo < 2 ^ 62) (h3 : -(2 ^ 62) ≤ hi) (h4 : hi < 2 ^ 62)
    (q : R (Itr lo (hi - lo).toNat) H) : wpAny (model X.prog X.w) X.A (pyIter (.ref s.heap.objs.size)) (PIE X pins σ tg R) E { s with heap := s.heap.push { cls := .type "range", data := .fields #[.int lo t, .int hi u, .int 1 v] }, toks := tk } := by
  refine wpAny_pyIter_range (IsRange.new ..) (small_one h1 h2 h3 h4) ?_
  have I1 : Inv X pins σ H { s with heap := s.heap.push { cls := .type "range", data := .fields #[.int lo t, .int hi u, .int 1 v] }, toks := tk } := I.kept fun b o e => Heap.get?_push_of_some _ e
  refine ⟨(s.heap.push { cls := .type "range", data := .fields #[.int lo t, .int hi u, .int 1 v] }).objs.size, [(s.heap.push { cls := .type "range", data := .fields #[.int lo t, .int hi u, .int 1 v] }).objs.size], _, _, H, rfl,
    I1.kept (t' := tk) fun b o e => Heap.get?_push_of_some _ e, turn_range _ lo (hi - lo).toNat, ?_, fun b hb => ?_, q⟩
  · have e1 : lo + ((0 : Nat) : Int) * 1 = lo := by simp
    have e2 : (((hi - lo).toNat : Nat) : Int) - ((0 : Nat) : Int) = Builtin.Range.rangeSize lo hi 1 := by rw [rangeSize_one]; split <;> omega
    show IsRangeIter _ _ (lo + ((0 : Nat) : Int) * 1) ((((hi - lo).toNat : Nat) : Int) - ((0 : Nat) : Int)) 1
    rw [e1, e2]
    exact Heap.get?_push_size _ rfl
  · have e : b = (s.heap.push { cls := .type "range", data := .fields #[.int lo t, .int hi u, .int 1 v] }).objs.size := by simpa using hb
    subst e
    exact I1.fpOk (Nat.le_refl _) (I1.hok.fresh (Nat.le_refl _))
def iRng1 (ta : TA) : TI := fun σ H R => ta σ H fun vs H1 => ∃ j : Int, vs = [.int j] ∧ -(2 ^ 62) ≤ j ∧ j < 2 ^ 62 ∧ R (Itr 0 j.toNat) H1
def iRng2 (ta : TA) : TI := fun σ H R => ta σ H fun vs H1 => ∃ i j : Int, vs = [.int i, .int j] ∧ (-(2 ^ 62) ≤ i ∧ i < 2 ^ 62 ∧ -(2 ^ 62) ≤ j ∧ j < 2 ^ 62) ∧ R (Itr i (j - i).toNat) H1
theorem pi_range1 {a : Expr} {ta : TA} {p pos : Pos} (hg : Gl X "range") (hm : X.mg "range" = none) (ha : PA X [a] ta) (hs : starEach [a] X.env = [(false, eval a X.env)] := by rfl) : PI X tg (.Call (.Name "range" p) [a] [] pos) (iRng1 ta) := by
  intro pins s σ H R I h
  refine Call_ (ld_blt I hg hm boot_range (PyProof.Rows.callWith_type1 (thn (ha pos pins s σ H _ I h) fun us s1 ⟨vs, H1, I1, r1, q1⟩ => ?_) hs rfl))
  obtain ⟨j, e, q1, q2, q⟩ := q1
  subst e
  cases r1 with
  | cons r rr =>
    cases rr
    obtain ⟨t, rfl⟩ := r
    exact call_range_1 (range_it I1 (by omega) (by omega) q1 q2 (by simpa using q))
theorem pi_range2 {a b : Expr} {ta : TA} {p pos : Pos} (hg : Gl X "range") (hm : X.mg "range" = none) (ha : PA X [a, b] ta) (hs : starEach [a, b] X.env = [(false, eval a X.env), (false, eval b X.env)] := by rfl) (hs2 : starEach [b] X.env = [(false, eval b X.env)] := by rfl) :
    PI X tg (.Call (.Name "range" p) [a, b] [] pos) (iRng2 ta) := by
  intro pins s σ H R I h
  refine Call_ (ld_blt I hg hm boot_range (PyProof.Rows.callWith_type1 (thn (ha pos pins s σ H _ I h) fun us s1 ⟨vs, H1, I1, r1, q1⟩ => ?_) (by rw [hs, hs2]) (by rw [hs2]; rfl)))
  obtain ⟨i, j, e, ⟨q1, q2, q3, q4⟩, q⟩ := q1
  subst e
  cases r1 with
  | cons r rr =>
    cases rr with
    | cons r' rr =>
      cases rr
      obtain ⟨t, rfl⟩ := r
      obtain ⟨t', rfl⟩ := r'
      exact call_range_2 (range_it I1 q1 q2 q3 q4 q)

/-! ### for -/
/-- W: the invariant by the turn and a measure; N: what the body is to reach -/
def tFor (wi : TI) (g : TG) (tb : TS) : TS := fun D σ H => wi σ H fun J H1 => ∃ W : Nat → Nat → St → Hp → Prop, (∃ m, W 0 m σ H1) ∧ ∀ i m σ H, W i m σ H →
  (J.stop i H ∧ D.nx σ H) ∨ (J.go i H ∧ ∃ N : St → Hp → Prop, (∀ σ' H', N σ' H' → ∃ m', m' < m ∧ W (i + 1) m' σ' H') ∧ ∀ x H', J.yld i H x H' → g x σ H' fun σ2 H2 => tb { D with nx := N, ct := N, bk := D.nx } σ2 H2)
/-- the records at fp as they stand -/
def pinsAt (fp : List Addr) (h : Heap) : List (Addr × Obj) := fp.filterMap fun b => (h.get? b).map fun o => (b, o)
theorem mem_pinsAt {fp : List Addr} {h : Heap} {b : Addr} {o : Obj} (hb : b ∈ fp) (e : h.get? b = some o) : (b, o) ∈ pinsAt fp h := List.mem_filterMap.mpr ⟨b, hb, by rw [e]; rfl⟩
theorem of_pinsAt {fp : List Addr} {h : Heap} {p : Addr × Obj} (hp : p ∈ pinsAt fp h) : p.1 ∈ fp ∧ h.get? p.1 = some p.2 := by
  obtain ⟨b, hb, e⟩ := List.mem_filterMap.mp hp
  cases q : h.get? b with
  | none => rw [q] at e; cases e
  | some o =>
    rw [q] at e
    have e' : (b, o) = p := Option.some.inj e
    subst e'
    exact ⟨hb, q⟩
theorem Inv.pinned {pins : List (Addr × Obj)} {σ : St} {H : Hp} {s : Shared} {fp : List Addr} (I : Inv X pins σ H s) (hf : ∀ b ∈ fp, FpOk X pins H b) (ho : ∀ b ∈ fp, ∃ o, s.heap.get? b = some o ∧ ∀ v, o.data ≠ .cell v) : Inv X (pins ++ pinsAt fp s.heap) σ H s :=
  I.pins_of fun p hp => (List.mem_append.mp hp).elim (fun z => I.pin p (List.mem_append_right _ z)) fun z => by
    obtain ⟨hb, e⟩ := of_pinsAt z
    obtain ⟨f0, f1, f2, _⟩ := hf p.1 hb
    obtain ⟨o, e', d⟩ := ho p.1 hb
    rw [e] at e'; cases e'
    exact ⟨e, f0, f1, f2, d⟩
theorem Inv.unpinned {pins pl : List (Addr × Obj)} {σ : St} {H : Hp} {s : Shared} (I : Inv X (pins ++ pl) σ H s) : Inv X pins σ H s := I.pins_of fun p hp => I.pin p (List.mem_append_right _ (List.mem_append_left _ hp))
theorem ps_for {iter : Expr} {body : List Stmt} {wi : TI} {g : TG} {tb : TS} {pos : Pos} (hp : PassesOwn (model X.prog X.w) X.A X.env X.xe) (hc : X.calm = true) (hi : PI X tg iter wi) (hg : PG X tg g) (hb : PSs X body tb)
    (hs : ∀ x, foldedSetIterable iter X.env x = pure x := by intro _; rfl) : PS X (.For tg iter body [] pos) (tFor wi g tb) := by
  intro pins s σ H D I h
  refine wpAny_For (thn (hi pins s σ H _ I h) fun v s1 h1 => thn h1 fun itv s2 h2 => ?_) hs
  obtain ⟨it, fp, tn, J, H2, e, I2, T, st2, f2, W, ⟨m0, w0⟩, turn⟩ := h2
  subst e
  -- what stays true of the iterator's objects through the loop
  have stat : ∀ {H' : Hp}, (∀ b ∈ fp, H' b = none) → ∀ b ∈ fp, FpOk X pins H' b := fun hn b hb => ⟨hn b hb, (f2 b hb).2⟩
  refine codeAny_forLoop_any (fun n s' => ∃ i σ' H', Inv X pins σ' H' s' ∧ tn i s'.heap ∧ (∀ b ∈ fp, H' b = none) ∧ W i n σ' H') ?_ m0 ⟨0, σ, H2, I2, st2, fun b hb => (f2 b hb).1, w0⟩
  rintro n s3 ⟨i, σ3, H3, I3, st3, fr3, w3⟩
  rcases turn i n σ3 H3 w3 with ⟨stop, qn⟩ | ⟨go, N, hN, step⟩
  · refine wpAny_passesOwn hp (thn (T.done X rfl rfl rfl hc i pins s3 σ3 H3 X.xe I3 (stat fr3) st3 stop) fun r s4 ⟨hr, I4⟩ => ?_)
    subst hr
    exact wpAny_execs_nil ⟨σ3, H3, I4, qn⟩
  · refine wpAny_passesOwn hp (thn (T.item X rfl rfl rfl hc i pins s3 σ3 H3 X.xe I3 (stat fr3) st3 go) fun r s4 ⟨u, hr, h4⟩ => ?_)
    subst hr
    refine wpAny_passesOwn hp (thn h4 fun _ s5 ⟨x, H5, I5, r5, y5, st5, fr5⟩ => ?_)
    have I5' := I5.pinned (stat fr5) (T.obj _ _ st5)
    refine wpAny_passesOwn hp (thn (hg _ s5 σ3 H5 x u _ I5' r5 (step x H5 y5)) fun _ s6 ⟨σ6, H6, I6, q6⟩ => ?_)
    refine wpAny_passesOwn hp (thn (hb _ s6 σ6 H6 _ I6 q6) fun f s7 q7 => ?_)
    have again : ∀ {σ7 : St} {H7 : Hp}, Inv X (pins ++ pinsAt fp s5.heap) σ7 H7 s7 → N σ7 H7 → ∃ m, m < n ∧ ∃ i σ' H', Inv X pins σ' H' s7 ∧ tn i s7.heap ∧ (∀ b ∈ fp, H' b = none) ∧ W i m σ' H' := fun {σ7 H7} I7 n7 => by
      obtain ⟨m', hm, w7⟩ := hN σ7 H7 n7
      refine ⟨m', hm, i + 1, σ7, H7, I7.unpinned, T.keep _ _ _ st5 fun b hb o e => (I7.pin (b, o) (List.mem_append_right _ (List.mem_append_right _ (mem_pinsAt hb e)))).1, fun b hb => ?_, w7⟩
      obtain ⟨o, e, d⟩ := T.obj _ _ st5 b hb
      exact (I7.pin (b, o) (List.mem_append_right _ (List.mem_append_right _ (mem_pinsAt hb e)))).2.1
    cases f with
    | next => obtain ⟨σ7, H7, I7, n7⟩ := q7; exact again I7 n7
    | cont => obtain ⟨σ7, H7, I7, n7⟩ := q7; exact again I7 n7
    | brk => obtain ⟨σ7, H7, I7, q7⟩ := q7; exact ⟨σ7, H7, I7.unpinned, q7⟩
    | ret v => obtain ⟨x7, σ7, H7, I7, r7, q7⟩ := q7; exact ⟨x7, σ7, H7, I7.unpinned, r7, q7⟩
end

/-! ### the forms one uses -/
/-- over a list that the body leaves as it is -/
theorem for_list {K : PySem.W.Frag} {a : Addr} {xs : List V} {g : TG} {tb : TS} {D : Ends} {σ : St} {H : Hp} (Pv : Nat → St → Hp → Prop) (h0 : Pv 0 σ H) (hl : ∀ i σ H, i ≤ xs.length → Pv i σ H → SqL K H a xs)
    (hs : ∀ i x σ H, xs[i]? = some x → Pv i σ H → g x σ H fun σ2 H2 => tb { D with nx := Pv (i + 1), ct := Pv (i + 1), bk := D.nx } σ2 H2) (hd : ∀ σ H, Pv xs.length σ H → D.nx σ H) :
    ∃ W : Nat → Nat → St → Hp → Prop, (∃ m, W 0 m σ H) ∧ ∀ i m σ H, W i m σ H →
      ((Itl K a).stop i H ∧ D.nx σ H) ∨ ((Itl K a).go i H ∧ ∃ N : St → Hp → Prop, (∀ σ' H', N σ' H' → ∃ m', m' < m ∧ W (i + 1) m' σ' H') ∧ ∀ x H', (Itl K a).yld i H x H' → g x σ H' fun σ2 H2 => tb { D with nx := N, ct := N, bk := D.nx } σ2 H2) := by
  refine ⟨fun i m σ H => m = xs.length - i ∧ i ≤ xs.length ∧ Pv i σ H, ⟨xs.length, by simp, Nat.zero_le _, h0⟩, ?_⟩
  rintro i m σ H ⟨rfl, hi, p⟩
  have q := hl i σ H hi p
  by_cases hlt : i < xs.length
  · refine .inr ⟨⟨xs, xs[i], q, by simp [hlt]⟩, Pv (i + 1), fun σ' H' p' => ⟨xs.length - (i + 1), by omega, rfl, hlt, p'⟩, fun x H' y => ?_⟩
    obtain ⟨e, y⟩ := y
    subst e
    exact hs i x σ _ (y xs q) p
  · have e : i = xs.length := by omega
    subst e
    exact .inl ⟨⟨xs, q, Nat.le_refl _⟩, hd σ H p⟩
theorem for_tup {K : PySem.W.Frag} {a : Addr} {xs : List V} {g : TG} {tb : TS} {D : Ends} {σ : St} {H : Hp} (Pv : Nat → St → Hp → Prop) (h0 : Pv 0 σ H) (hl : ∀ i σ H, i ≤ xs.length → Pv i σ H → SqT K H a xs)
    (hs : ∀ i x σ H, xs[i]? = some x → Pv i σ H → g x σ H fun σ2 H2 => tb { D with nx := Pv (i + 1), ct := Pv (i + 1), bk := D.nx } σ2 H2) (hd : ∀ σ H, Pv xs.length σ H → D.nx σ H) :
    ∃ W : Nat → Nat → St → Hp → Prop, (∃ m, W 0 m σ H) ∧ ∀ i m σ H, W i m σ H →
      ((Itt K a).stop i H ∧ D.nx σ H) ∨ ((Itt K a).go i H ∧ ∃ N : St → Hp → Prop, (∀ σ' H', N σ' H' → ∃ m', m' < m ∧ W (i + 1) m' σ' H') ∧ ∀ x H', (Itt K a).yld i H x H' → g x σ H' fun σ2 H2 => tb { D with nx := N, ct := N, bk := D.nx } σ2 H2) := by
  refine ⟨fun i m σ H => m = xs.length - i ∧ i ≤ xs.length ∧ Pv i σ H, ⟨xs.length, by simp, Nat.zero_le _, h0⟩, ?_⟩
  rintro i m σ H ⟨rfl, hi, p⟩
  have q := hl i σ H hi p
  by_cases hlt : i < xs.length
  · refine .inr ⟨⟨xs, xs[i], q, by simp [hlt]⟩, Pv (i + 1), fun σ' H' p' => ⟨xs.length - (i + 1), by omega, rfl, hlt, p'⟩, fun x H' y => ?_⟩
    obtain ⟨e, y⟩ := y
    subst e
    exact hs i x σ _ (y xs q) p
  · have e : i = xs.length := by omega
    subst e
    exact .inl ⟨⟨xs, q, Nat.le_refl _⟩, hd σ H p⟩
theorem for_range {lo : Int} {n : Nat} {g : TG} {tb : TS} {D : Ends} {σ : St} {H : Hp} (Pv : Nat → St → Hp → Prop) (h0 : Pv 0 σ H)
    (hs : ∀ i σ H, i < n → Pv i σ H → g (.int (lo + i)) σ H fun σ2 H2 => tb { D with nx := Pv (i + 1), ct := Pv (i + 1), bk := D.nx } σ2 H2) (hd : ∀ σ H, Pv n σ H → D.nx σ H) :
    ∃ W : Nat → Nat → St → Hp → Prop, (∃ m, W 0 m σ H) ∧ ∀ i m σ H, W i m σ H →
      ((Itr lo n).stop i H ∧ D.nx σ H) ∨ ((Itr lo n).go i H ∧ ∃ N : St → Hp → Prop, (∀ σ' H', N σ' H' → ∃ m', m' < m ∧ W (i + 1) m' σ' H') ∧ ∀ x H', (Itr lo n).yld i H x H' → g x σ H' fun σ2 H2 => tb { D with nx := N, ct := N, bk := D.nx } σ2 H2) := by
  refine ⟨fun i m σ H => m = n - i ∧ i ≤ n ∧ Pv i σ H, ⟨n, by simp, Nat.zero_le _, h0⟩, ?_⟩
  rintro i m σ H ⟨rfl, hi, p⟩
  by_cases hlt : i < n
  · refine .inr ⟨hlt, Pv (i + 1), fun σ' H' p' => ⟨n - (i + 1), by omega, rfl, hlt, p'⟩, fun x H' y => ?_⟩
    obtain ⟨e, y⟩ := y
    subst e y
    exact hs i σ _ hlt p
  · have e : i = n := by omega
    subst e
    exact .inl ⟨Nat.le_refl _, hd σ H p⟩
/-- while, by a word and a measure of the state -/
theorem while_by {c : TT} {tb : TS} {D : Ends} {σ : St} {H : Hp} (Pv : St → Hp → Prop) (μ : St → Hp → Nat) (h0 : Pv σ H)
    (hs : ∀ σ H, Pv σ H → c σ H fun b H1 => if b = true then tb { D with nx := fun σ' H' => Pv σ' H' ∧ μ σ' H' < μ σ H, ct := fun σ' H' => Pv σ' H' ∧ μ σ' H' < μ σ H, bk := D.nx } σ H1 else D.nx σ H1)
    (mono : ∀ σ H Q Q', (∀ b H1, Q b H1 → Q' b H1) → c σ H Q → c σ H Q') : tWhile c tb D σ H := by
  refine ⟨fun m σ H => m = μ σ H ∧ Pv σ H, ⟨_, rfl, h0⟩, ?_⟩
  rintro m σ H ⟨rfl, p⟩
  refine mono σ H _ _ (fun b H1 q => ?_) (hs σ H p)
  cases b with
  | true => exact ⟨_, fun σ' H' ⟨p', l⟩ => ⟨_, l, rfl, p'⟩, q⟩
  | false => exact q
end L2

namespace L2
open PySem PySem.Spec PyProof.Rows

abbrev R2 := V → V → Hp → VK → Prop
/-- a two-place operation on values: f is binaryOp op, inplaceOp op or compareOp op -/
def OpR (X : Cx) (f : Value → Value → Sem Value) (r : R2) : Prop :=
  ∀ (pins : List (Addr × Obj)) (s : Shared) (σ : St) (H : Hp) (x y : V) (v u : Value) (Q : VK), Inv X pins σ H s → RelV x v → RelV y u → r x y H Q →
    wpAny (model X.prog X.w) X.A (f v u) (EP X pins σ Q) X.xe s
/-- a one-place operation -/
def UnR (X : Cx) (f : Value → Sem Value) (r : V → Hp → VK → Prop) : Prop :=
  ∀ (pins : List (Addr × Obj)) (s : Shared) (σ : St) (H : Hp) (x : V) (v : Value) (Q : VK), Inv X pins σ H s → RelV x v → r x H Q →
    wpAny (model X.prog X.w) X.A (f v) (EP X pins σ Q) X.xe s
/-- a call of a value that is known (a builtin, a type) with values -/
def CallR (X : Cx) (f : Value) (r : List V → Hp → VK → Prop) : Prop :=
  ∀ (pins : List (Addr × Obj)) (s : Shared) (σ : St) (H : Hp) (xs : List V) (us : List Value) (Q : VK), Inv X pins σ H s → Vals xs us → r xs H Q →
    wpAny (model X.prog X.w) X.A (call f us) (EP X pins σ Q) X.xe s
/-- a value's truth -/
def TruR (X : Cx) (r : V → Hp → (Bool → Hp → Prop) → Prop) : Prop :=
  ∀ (pins : List (Addr × Obj)) (s : Shared) (σ : St) (H : Hp) (x : V) (v : Value) (Q : Bool → Hp → Prop), Inv X pins σ H s → RelV x v → r x H Q →
    wpAny (model X.prog X.w) X.A (truthy v) (TP X pins σ Q) X.xe s

def tOp (r : R2) (ta tb : TE) : TE := fun σ H Q => ta σ H fun x H1 => tb σ H1 fun y H2 => r x y H2 Q
def tUn (r : V → Hp → VK → Prop) (ta : TE) : TE := fun σ H Q => ta σ H fun x H1 => r x H1 Q
/-- ints in, under C, and a value out -/
def rI (C : Int → Int → Prop) (g : Int → Int → V) : R2 := fun x y H Q => ∃ i j, x = .int i ∧ y = .int j ∧ C i j ∧ Q (g i j) H
def rI0 (g : Int → Int → V) : R2 := fun x y H Q => ∃ i j, x = .int i ∧ y = .int j ∧ Q (g i j) H
def rU (g : Int → V) : V → Hp → VK → Prop := fun x H Q => ∃ i, x = .int i ∧ Q (g i) H

section
variable {X : Cx} {a b c : Expr} {ta tb tc : TE} {pos : Pos}

theorem binT (ha : PE X a ta) (hb : PE X b tb) {pins : List (Addr × Obj)} {s : Shared} {σ : St} {H : Hp} {R : V → V → Hp → Prop} (I : Inv X pins σ H s)
    (h : ta σ H fun x H1 => tb σ H1 fun y H2 => R x y H2) {Q : Value → Shared → Prop} {f : Value → Value → Sem Value}
    (hf : ∀ v u s2 x y H2, Inv X pins σ H2 s2 → RelV x v → RelV y u → R x y H2 → wpAny (model X.prog X.w) X.A (f v u) Q X.xe s2) :
    wpAny (model X.prog X.w) X.A (eval a X.env) (fun v s₁ => wpAny (model X.prog X.w) X.A (eval b X.env) (fun u s₂ => wpAny (model X.prog X.w) X.A (f v u) Q X.xe s₂) X.xe s₁) X.xe s := by
  refine thn (ha pins s σ H _ I h) fun v s1 ⟨x, H1, I1, r1, q1⟩ => ?_
  refine thn (hb pins s1 σ H1 _ I1 q1) fun u s2 ⟨y, H2, I2, r2, q2⟩ => ?_
  exact hf v u s2 x y H2 I2 r1 r2 q2

theorem pe_op {op : Operator} {r : R2} (ho : OpR X (binaryOp op) r) (ha : PE X a ta) (hb : PE X b tb) : PE X (.BinOp a op b pos) (tOp r ta tb) := by
  intro pins s σ H Q I h
  exact wpAny_BinOp (binT ha hb I h fun v u s2 x y H2 I2 rx ry q => ho pins s2 σ H2 x y v u Q I2 rx ry q)
theorem pe_un {op : UnaryOp} {r : V → Hp → VK → Prop} (ho : UnR X (unaryOp op) r) (ha : PE X a ta) : PE X (.UnaryOp op a pos) (tUn r ta) := by
  intro pins s σ H Q I h
  exact UnaryOp_ (thn (ha pins s σ H _ I h) fun v s1 ⟨x, H1, I1, r1, q1⟩ => ho pins s1 σ H1 x v Q I1 r1 q1)
/-- a op= e at a name: the name's slot i -/
theorem augR {op : Operator} {r : R2} (ho : OpR X (inplaceOp op) r) {pins : List (Addr × Obj)} {s : Shared} {σ : St} {H : Hp} {x y : V} {v u : Value} {Q : VK} (I : Inv X pins σ H s)
    (rx : RelV x v) (ry : RelV y u) (q : r x y H Q) : wpAny (model X.prog X.w) X.A (inplaceOp op v u) (EP X pins σ Q) X.xe s := ho pins s σ H x y v u Q I rx ry q

/-! ### ints -/
theorem opI {f : Value → Value → Sem Value} {C : Int → Int → Prop} {g : Int → Int → Int}
    (rule : ∀ (i j : Int) (t u : Tok) (s : Shared) (Q : Value → Shared → Prop) (E : Value → Shared → Prop), C i j → Q (.int (g i j) s.toks) { s with toks := s.toks + 1 } → wpAny (model X.prog X.w) X.A (f (.int i t) (.int j u)) Q E s) :
    OpR X f (rI C fun i j => .int (g i j)) := by
  intro pins s σ H x y v u Q I rx ry h
  obtain ⟨i, j, rfl, rfl, hc, q⟩ := h
  obtain ⟨t, rfl⟩ := rx
  obtain ⟨t', rfl⟩ := ry
  exact rule i j t t' s _ _ hc ⟨.int (g i j), H, I.tok _, ⟨_, rfl⟩, q⟩
theorem opI0 {f : Value → Value → Sem Value} {g : Int → Int → Int}
    (rule : ∀ (i j : Int) (t u : Tok) (s : Shared) (Q : Value → Shared → Prop) (E : Value → Shared → Prop), Q (.int (g i j) s.toks) { s with toks := s.toks + 1 } → wpAny (model X.prog X.w) X.A (f (.int i t) (.int j u)) Q E s) :
    OpR X f (rI0 fun i j => .int (g i j)) := by
  intro pins s σ H x y v u Q I rx ry h
  obtain ⟨i, j, rfl, rfl, q⟩ := h
  obtain ⟨t, rfl⟩ := rx
  obtain ⟨t', rfl⟩ := ry
  exact rule i j t t' s _ _ ⟨.int (g i j), H, I.tok _, ⟨_, rfl⟩, q⟩
theorem opB0 {f : Value → Value → Sem Value} {g : Int → Int → Bool}
    (rule : ∀ (i j : Int) (t u : Tok) (s : Shared) (Q : Value → Shared → Prop) (E : Value → Shared → Prop), Q (.bool (g i j)) s → wpAny (model X.prog X.w) X.A (f (.int i t) (.int j u)) Q E s) :
    OpR X f (rI0 fun i j => .bl (g i j)) := by
  intro pins s σ H x y v u Q I rx ry h
  obtain ⟨i, j, rfl, rfl, q⟩ := h
  obtain ⟨t, rfl⟩ := rx
  obtain ⟨t', rfl⟩ := ry
  exact rule i j t t' s _ _ ⟨.bl (g i j), H, I, rfl, q⟩

def CDiv (i j : Int) : Prop := 0 < j ∧ j < 1073741824
def CDivN (i j : Int) : Prop := j ≠ 0 ∧ j.natAbs < 1073741824
def CPow (i j : Int) : Prop := 0 ≤ j ∧ j ≤ 1000000 ∧ i.natAbs < 2 ^ 64
def CMul (i j : Int) : Prop := (-(2 ^ 64) < i ∧ i < 2 ^ 64) ∨ (-(2 ^ 64) < j ∧ j < 2 ^ 64)
theorem CMul.ok {i j : Int} (h : CMul i j) : IntMulOk i j := by
  rcases h with ⟨h1, h2⟩ | ⟨h1, h2⟩
  · exact .of_left (intBits_le_64 h1 h2)
  · exact .of_right (intBits_le_64 h1 h2)
theorem two_pow_nn (k : Nat) : (0 : Int) ≤ 2 ^ k := by
  rw [two_pow_cast]
  exact Int.natCast_nonneg _

theorem op_add : OpR X (binaryOp .Add) (rI0 fun i j => .int (i + j)) := opI0 fun _ _ _ _ _ _ _ q => add_int q
theorem op_sub : OpR X (binaryOp .Sub) (rI0 fun i j => .int (i - j)) := opI0 fun _ _ _ _ _ _ _ q => sub_int q
theorem op_mul : OpR X (binaryOp .Mult) (rI CMul fun i j => .int (i * j)) := opI fun _ _ _ _ _ _ _ hc q => mul_int q hc.ok
/-- // by a positive divisor -/
theorem op_fdiv : OpR X (binaryOp .FloorDiv) (rI CDiv fun i j => .int (i / j)) := opI fun i j _ _ _ _ _ hc q => by
  have h1 : (0 : Int) < j := hc.1
  have h2 : j < 1073741824 := hc.2
  exact floordiv_int (by omega) (by rw [Int.fdiv_eq_ediv_of_nonneg i (by omega)]; exact q) (.inl (PyProof.noPylong_small (by omega)))
theorem op_fdivN : OpR X (binaryOp .FloorDiv) (rI CDivN fun i j => .int (i.fdiv j)) := opI fun _ _ _ _ _ _ _ hc q => floordiv_int hc.1 q (.inl (PyProof.noPylong_small hc.2))
/-- % by a positive divisor of any size -/
theorem op_mod : OpR X (binaryOp .Mod) (rI (fun _ j => 0 < j) fun i j => .int (i % j)) := opI fun i j _ _ _ _ _ hc q => by
  have h1 : (0 : Int) < j := hc
  exact mod_int' (by omega) (by rw [Int.fmod_eq_emod_of_nonneg i (by omega)]; exact q)
theorem op_modN : OpR X (binaryOp .Mod) (rI (fun _ j => j ≠ 0) fun i j => .int (i.fmod j)) := opI fun _ _ _ _ _ _ _ hc q => mod_int' hc q
theorem op_pow : OpR X (binaryOp .Pow) (rI CPow fun i j => .int (i ^ j.toNat)) := opI fun _ _ _ _ _ _ _ hc q => pow_int_small hc.1 hc.2.1 hc.2.2 q
theorem op_shl : OpR X (binaryOp .LShift) (rI CPow fun i j => .int (i * 2 ^ j.toNat)) := opI fun _ _ _ _ _ _ _ hc q => lshift_int_small hc.1 hc.2.1 hc.2.2 q
theorem op_shr : OpR X (binaryOp .RShift) (rI (fun _ j => 0 ≤ j) fun i j => .int (i / 2 ^ j.toNat)) := opI fun i j _ _ _ _ _ hc q =>
  rshift_int hc (by rw [Int.fdiv_eq_ediv_of_nonneg i (two_pow_nn _)]; exact q)
theorem op_and : OpR X (binaryOp .BitAnd) (rI0 fun i j => .int (Builtin.bitAnd i j)) := opI0 fun _ _ _ _ _ _ _ q => and_int q
theorem op_or : OpR X (binaryOp .BitOr) (rI0 fun i j => .int (Builtin.bitOr i j)) := opI0 fun _ _ _ _ _ _ _ q => or_int q
theorem op_xor : OpR X (binaryOp .BitXor) (rI0 fun i j => .int (Builtin.bitXor i j)) := opI0 fun _ _ _ _ _ _ _ q => xor_int q

theorem iop_add : OpR X (inplaceOp .Add) (rI0 fun i j => .int (i + j)) := opI0 fun _ _ _ _ _ _ _ q => iadd_int q
theorem iop_sub : OpR X (inplaceOp .Sub) (rI0 fun i j => .int (i - j)) := opI0 fun _ _ _ _ _ _ _ q => isub_int q
theorem iop_mul : OpR X (inplaceOp .Mult) (rI CMul fun i j => .int (i * j)) := opI fun _ _ _ _ _ _ _ hc q => imul_int q hc.ok
theorem iop_fdiv : OpR X (inplaceOp .FloorDiv) (rI CDiv fun i j => .int (i / j)) := opI fun i j _ _ _ _ _ hc q => by
  have h1 : (0 : Int) < j := hc.1
  have h2 : j < 1073741824 := hc.2
  exact ifloordiv_int (by omega) (by rw [Int.fdiv_eq_ediv_of_nonneg i (by omega)]; exact q) (.inl (PyProof.noPylong_small (by omega)))
theorem iop_mod : OpR X (inplaceOp .Mod) (rI (fun _ j => 0 < j) fun i j => .int (i % j)) := opI fun i j _ _ _ _ _ hc q => by
  have h1 : (0 : Int) < j := hc
  exact imod_int (by omega) (by rw [Int.fmod_eq_emod_of_nonneg i (by omega)]; exact q)
theorem iop_shl : OpR X (inplaceOp .LShift) (rI CPow fun i j => .int (i * 2 ^ j.toNat)) := opI fun _ _ _ _ _ _ _ hc q => ilshift_int_small hc.1 hc.2.1 hc.2.2 q
theorem iop_shr : OpR X (inplaceOp .RShift) (rI (fun _ j => 0 ≤ j) fun i j => .int (i / 2 ^ j.toNat)) := opI fun i j _ _ _ _ _ hc q =>
  irshift_int hc (by rw [Int.fdiv_eq_ediv_of_nonneg i (two_pow_nn _)]; exact q)
theorem iop_and : OpR X (inplaceOp .BitAnd) (rI0 fun i j => .int (Builtin.bitAnd i j)) := opI0 fun _ _ _ _ _ _ _ q => iand_int q
theorem iop_or : OpR X (inplaceOp .BitOr) (rI0 fun i j => .int (Builtin.bitOr i j)) := opI0 fun _ _ _ _ _ _ _ q => ior_int q
theorem iop_xor : OpR X (inplaceOp .BitXor) (rI0 fun i j => .int (Builtin.bitXor i j)) := opI0 fun _ _ _ _ _ _ _ q => ixor_int q

theorem unI {f : Value → Sem Value} {g : Int → Int}
    (rule : ∀ (i : Int) (t : Tok) (s : Shared) (Q : Value → Shared → Prop) (E : Value → Shared → Prop), Q (.int (g i) s.toks) { s with toks := s.toks + 1 } → wpAny (model X.prog X.w) X.A (f (.int i t)) Q E s) :
    UnR X f (rU fun i => .int (g i)) := by
  intro pins s σ H x v Q I rx h
  obtain ⟨i, rfl, q⟩ := h
  obtain ⟨t, rfl⟩ := rx
  exact rule i t s _ _ ⟨.int (g i), H, I.tok _, ⟨_, rfl⟩, q⟩
theorem un_neg : UnR X (unaryOp .USub) (rU fun i => .int (-i)) := unI fun _ _ _ _ _ q => neg_int q
theorem un_inv : UnR X (unaryOp .Invert) (rU fun i => .int (Builtin.bitNot i)) := unI fun _ _ _ _ _ q => invert_int q

/-! ### bools among ints: n += (a < b) -/
theorem op_add_ib : OpR X (binaryOp .Add) (fun x y H Q => ∃ i k, x = .int i ∧ y = .bl k ∧ Q (.int (i + b2i k)) H) := by
  intro pins s σ H x y v u Q I rx ry h
  obtain ⟨i, k, rfl, rfl, q⟩ := h
  obtain ⟨t, rfl⟩ := rx
  cases ry
  exact add_int_bool ⟨.int (i + b2i k), H, I.tok _, ⟨_, rfl⟩, q⟩
end

/-! ### comparisons -/
/-- the scalars that == tells apart as data does -/
def scal : V → V → Bool
  | .non, .non => true | .non, .int _ => true | .int _, .non => true | .non, .bl _ => true | .bl _, .non => true | .non, .str _ => true | .str _, .non => true
  | .int _, .int _ => true | .bl _, .bl _ => true | .str _, .str _ => true | .byt _, .byt _ => true
  | .int _, .str _ => true | .str _, .int _ => true | .bl _, .str _ => true | .str _, .bl _ => true
  | _, _ => false
def rEq : R2 := fun x y H Q => scal x y = true ∧ Q (.bl (decide (x = y))) H
def rNe : R2 := fun x y H Q => scal x y = true ∧ Q (.bl (!decide (x = y))) H

theorem dec_int {i j : Int} : decide (V.int i = V.int j) = (i == j) := by
  rw [Bool.eq_iff_iff]
  simp
theorem dec_bl {i j : Bool} : decide (V.bl i = V.bl j) = (i == j) := by
  rw [Bool.eq_iff_iff]
  simp
theorem dec_str {i j : Str} : decide (V.str i = V.str j) = (i == j) := by
  rw [Bool.eq_iff_iff]
  simp
theorem dec_byt {i j : Array UInt8} : decide (V.byt i = V.byt j) = (i.toList == j.toList) := by
  rw [Bool.eq_iff_iff]
  cases i
  cases j
  simp

section
variable {X : Cx} {a b c : Expr} {ta tb tc : TE} {pos : Pos}
theorem fin_bl {pins : List (Addr × Obj)} {σ : St} {H : Hp} {s : Shared} {Q : VK} {k k' : Bool} (I : Inv X pins σ H s) (q : Q (.bl k) H) (e : k = k') : EP X pins σ Q (.bool k') s := by
  subst e
  exact ⟨.bl k, H, I, rfl, q⟩
theorem op_eq : OpR X (compareOp .Eq) rEq := by
  intro pins s σ H x y v u Q I rx ry h
  obtain ⟨hs, q⟩ := h
  cases x with
  | non =>
    cases rx
    cases y with
    | non => cases ry; exact PySem.EqNone.eq_none_none (fin_bl I q (by simp))
    | bl j => cases ry; exact PySem.EqNone.eq_none_bool (fin_bl I q (by simp))
    | int j => obtain ⟨t', rfl⟩ := ry; exact PySem.EqNone.eq_none_int (fin_bl I q (by simp))
    | str j => obtain ⟨t', rfl⟩ := ry; exact PySem.EqNone.eq_none_str (fin_bl I q (by simp))
    | _ => exact absurd (show false = true from hs) Bool.false_ne_true
  | bl i =>
    cases rx
    cases y with
    | non => cases ry; exact PySem.EqNone.eq_bool_none (fin_bl I q (by simp))
    | bl j => cases ry; exact eq_bool (fin_bl I q dec_bl)
    | str j => obtain ⟨t', rfl⟩ := ry; exact PySem.EqMixed.eq_bool_str (fin_bl I q (by simp))
    | _ => exact absurd (show false = true from hs) Bool.false_ne_true
  | int i =>
    obtain ⟨t, rfl⟩ := rx
    cases y with
    | non => cases ry; exact PySem.EqNone.eq_int_none (fin_bl I q (by simp))
    | int j => obtain ⟨t', rfl⟩ := ry; exact eq_int (fin_bl I q dec_int)
    | str j => obtain ⟨t', rfl⟩ := ry; exact PySem.EqMixed.eq_int_str (fin_bl I q (by simp))
    | _ => exact absurd (show false = true from hs) Bool.false_ne_true
  | str i =>
    obtain ⟨t, rfl⟩ := rx
    cases y with
    | non => cases ry; exact PySem.EqNone.eq_str_none (fin_bl I q (by simp))
    | bl j => cases ry; exact PySem.EqMixed.eq_str_bool (fin_bl I q (by simp))
    | int j => obtain ⟨t', rfl⟩ := ry; exact PySem.EqMixed.eq_str_int (fin_bl I q (by simp))
    | str j => obtain ⟨t', rfl⟩ := ry; exact eq_str (fin_bl I q dec_str)
    | _ => exact absurd (show false = true from hs) Bool.false_ne_true
  | byt i =>
    obtain ⟨t, rfl⟩ := rx
    cases y with
    | byt j => obtain ⟨t', rfl⟩ := ry; exact PySem.W.eq_bytes (fin_bl I q dec_byt)
    | _ => exact absurd (show false = true from hs) Bool.false_ne_true
  | _ => cases y <;> exact absurd (show false = true from hs) Bool.false_ne_true
theorem op_ne : OpR X (compareOp .NotEq) rNe := by
  intro pins s σ H x y v u Q I rx ry h
  obtain ⟨hs, q⟩ := h
  cases x with
  | non =>
    cases rx
    cases y with
    | non => cases ry; exact PySem.EqNone.ne_none_none (fin_bl I q (by simp))
    | bl j => cases ry; exact PySem.EqNone.ne_none_bool (fin_bl I q (by simp))
    | int j => obtain ⟨t', rfl⟩ := ry; exact PySem.EqNone.ne_none_int (fin_bl I q (by simp))
    | str j => obtain ⟨t', rfl⟩ := ry; exact PySem.EqNone.ne_none_str (fin_bl I q (by simp))
    | _ => exact absurd (show false = true from hs) Bool.false_ne_true
  | bl i =>
    cases rx
    cases y with
    | non => cases ry; exact PySem.EqNone.ne_bool_none (fin_bl I q (by simp))
    | bl j => cases ry; exact ne_bool (fin_bl I q (congrArg not dec_bl))
    | str j => obtain ⟨t', rfl⟩ := ry; exact PySem.EqMixed.ne_bool_str (fin_bl I q (by simp))
    | _ => exact absurd (show false = true from hs) Bool.false_ne_true
  | int i =>
    obtain ⟨t, rfl⟩ := rx
    cases y with
    | non => cases ry; exact PySem.EqNone.ne_int_none (fin_bl I q (by simp))
    | int j => obtain ⟨t', rfl⟩ := ry; exact ne_int (fin_bl I q (congrArg not dec_int))
    | str j => obtain ⟨t', rfl⟩ := ry; exact PySem.EqMixed.ne_int_str (fin_bl I q (by simp))
    | _ => exact absurd (show false = true from hs) Bool.false_ne_true
  | str i =>
    obtain ⟨t, rfl⟩ := rx
    cases y with
    | non => cases ry; exact PySem.EqNone.ne_str_none (fin_bl I q (by simp))
    | bl j => cases ry; exact PySem.EqMixed.ne_str_bool (fin_bl I q (by simp))
    | int j => obtain ⟨t', rfl⟩ := ry; exact PySem.EqMixed.ne_str_int (fin_bl I q (by simp))
    | str j => obtain ⟨t', rfl⟩ := ry; exact ne_str (fin_bl I q (congrArg not dec_str))
    | _ => exact absurd (show false = true from hs) Bool.false_ne_true
  | byt i =>
    obtain ⟨t, rfl⟩ := rx
    cases y with
    | byt j => obtain ⟨t', rfl⟩ := ry; exact PySem.W.ne_bytes (fin_bl I q (congrArg not dec_byt))
    | _ => exact absurd (show false = true from hs) Bool.false_ne_true
  | _ => cases y <;> exact absurd (show false = true from hs) Bool.false_ne_true

theorem op_lt : OpR X (compareOp .Lt) (rI0 fun i j => .bl (decide (i < j))) := opB0 fun _ _ _ _ _ _ _ q => lt_int q
theorem op_le : OpR X (compareOp .LtE) (rI0 fun i j => .bl (decide (i ≤ j))) := opB0 fun _ _ _ _ _ _ _ q => le_int q
theorem op_gt : OpR X (compareOp .Gt) (rI0 fun i j => .bl (decide (j < i))) := opB0 fun _ _ _ _ _ _ _ q => gt_int q
theorem op_ge : OpR X (compareOp .GtE) (rI0 fun i j => .bl (decide (j ≤ i))) := opB0 fun _ _ _ _ _ _ _ q => ge_int q
theorem op_lt_str : OpR X (compareOp .Lt) (fun x y H Q => ∃ i j, x = .str i ∧ y = .str j ∧ Q (.bl (decide (i.cps.toList < j.cps.toList))) H) := by
  intro pins s σ H x y v u Q I rx ry h
  obtain ⟨i, j, rfl, rfl, q⟩ := h
  obtain ⟨t, rfl⟩ := rx
  obtain ⟨t', rfl⟩ := ry
  exact lt_str (fin_bl I q rfl)
/-- the one string within the other -/
theorem op_in_str : OpR X (compareOp .In) (fun x y H Q => ∃ i j, x = .str i ∧ y = .str j ∧ Q (.bl (!(Builtin.Str.occurrences j i 0 j.length 1).isEmpty)) H) := by
  intro pins s σ H x y v u Q I rx ry h
  obtain ⟨i, j, rfl, rfl, q⟩ := h
  obtain ⟨t, rfl⟩ := rx
  obtain ⟨t', rfl⟩ := ry
  exact in_str (fin_bl I q rfl)

/-- is None, is not None: the right side a value none -/
theorem op_isN : OpR X (compareOp .Is) (fun x y H Q => y = .non ∧ Q (.bl (decide (x = .non))) H) := by
  intro pins s σ H x y v u Q I rx ry h
  obtain ⟨rfl, q⟩ := h
  cases ry
  refine is_none_gen (fin_bl I q ?_)
  cases x <;> first
    | (cases rx; rfl)
    | (obtain ⟨t, rfl⟩ := rx; rfl)
theorem op_notN : OpR X (compareOp .IsNot) (fun x y H Q => y = .non ∧ Q (.bl (!decide (x = .non))) H) := by
  intro pins s σ H x y v u Q I rx ry h
  obtain ⟨rfl, q⟩ := h
  cases ry
  refine isnot_none_gen (fin_bl I q ?_)
  cases x <;> first
    | (cases rx; rfl)
    | (obtain ⟨t, rfl⟩ := rx; rfl)

theorem op_notin_str : OpR X (compareOp .NotIn) (fun x y H Q => ∃ i j, x = .str i ∧ y = .str j ∧ Q (.bl (!(!(Builtin.Str.occurrences j i 0 j.length 1).isEmpty))) H) := by
  intro pins s σ H x y v u Q I rx ry h
  obtain ⟨i, j, rfl, rfl, q⟩ := h
  obtain ⟨t, rfl⟩ := rx
  obtain ⟨t', rfl⟩ := ry
  exact notIn_str (fin_bl I q rfl)
/-- is, is not of two objects that are tracked lists or instances -/
def isObj : HO → Bool
  | .lst _ => true
  | .ins _ _ _ => true
  | _ => false
theorem obj_there {pins : List (Addr × Obj)} {s : Shared} {σ : St} {H : Hp} {a : Addr} {o : HO} (I : Inv X pins σ H s) (h : H a = some o) (p : isObj o = true) : ∃ ob, s.heap.get? a = some ob ∧ ob.cls ≠ .type "tuple" := by
  cases o with
  | lst xs =>
    obtain ⟨_, its, n, _, e⟩ : xs.length ≤ sizeLine ∧ ∃ (its : List Value) (n : Nat), Vals xs its ∧ s.heap.get? a = some { cls := .type "list", data := .seq its.toArray n } := I.hok a _ h
    exact ⟨_, e, (by show Value.type "list" ≠ .type "tuple"; decide +kernel)⟩
  | ins C dx fs =>
    have x := I.hok a _ h
    obtain ⟨_, _, _, e, _⟩ := x
    exact ⟨_, e, (by show Value.ref C ≠ .type "tuple"; exact fun z => by cases z)⟩
  | _ => exact absurd (show false = true from p) Bool.false_ne_true
theorem op_is_ref : OpR X (compareOp .Is) (fun x y H Q => ∃ a b oa ob, x = .ref a ∧ y = .ref b ∧ H a = some oa ∧ isObj oa = true ∧ H b = some ob ∧ isObj ob = true ∧ Q (.bl (decide (a = b))) H) := by
  intro pins s σ H x y v u Q I rx ry h
  obtain ⟨a, b, oa, ob, rfl, rfl, ha, pa, hb, pb, q⟩ := h
  cases rx
  cases ry
  obtain ⟨o1, e1, n1⟩ := obj_there I ha pa
  obtain ⟨o2, e2, _⟩ := obj_there I hb pb
  by_cases z : a = b
  · subst z
    exact wpAny_is_ref_self (fin_bl I q (by simp))
  · exact wpAny_is_ref_other z e1 e2 n1 (fin_bl I q (by simp [z]))
theorem op_isnot_ref : OpR X (compareOp .IsNot) (fun x y H Q => ∃ a b oa ob, x = .ref a ∧ y = .ref b ∧ H a = some oa ∧ isObj oa = true ∧ H b = some ob ∧ isObj ob = true ∧ Q (.bl (!decide (a = b))) H) := by
  intro pins s σ H x y v u Q I rx ry h
  obtain ⟨a, b, oa, ob, rfl, rfl, ha, pa, hb, pb, q⟩ := h
  cases rx
  cases ry
  obtain ⟨o1, e1, n1⟩ := obj_there I ha pa
  obtain ⟨o2, e2, _⟩ := obj_there I hb pb
  by_cases z : a = b
  · subst z
    exact wpAny_isNot_ref_self (fin_bl I q (by simp))
  · exact wpAny_isNot_ref_other z e1 e2 n1 (fin_bl I q (by simp [z]))

/-- two rules for one operation: by cases -/
theorem OpR.or {f : Value → Value → Sem Value} {r r' : R2} (h : OpR X f r) (h' : OpR X f r') : OpR X f (fun x y H Q => r x y H Q ∨ r' x y H Q) := by
  intro pins s σ H x y v u Q I rx ry q
  rcases q with q | q
  · exact h pins s σ H x y v u Q I rx ry q
  · exact h' pins s σ H x y v u Q I rx ry q

theorem nomark (b : Expr) {op : CmpOp} (h : op ≠ .In := by decide) (h2 : op ≠ .NotIn := by decide) : behindInMarks op b = false := by
  have e1 : (op == CmpOp.In) = false := by cases op <;> first | rfl | exact absurd rfl h
  have e2 : (op == CmpOp.NotIn) = false := by cases op <;> first | rfl | exact absurd rfl h2
  cases b <;> simp [behindInMarks, e1, e2]
/-- a comparison as a value; hm: nomark b, or (for in, not in) by with_unfolding_all rfl -/
theorem pe_cmpR {op : CmpOp} {r : R2} (ho : OpR X (compareOp op) r) (ha : PE X a ta) (hb : PE X b tb) (hm : behindInMarks op b = false) : PE X (.Compare a [op] [b] pos) (tOp r ta tb) := by
  intro pins s σ H Q I h
  exact wpAny_Compare1 (binT ha hb I h fun v u s2 x y H2 I2 rx ry q => ho pins s2 σ H2 x y v u Q I2 rx ry q) hm
/-- a reading of a value as a test -/
def tTest (t : TE) : TT := fun σ H Q => t σ H fun x H' => ∃ k, x = .bl k ∧ Q k H'
theorem pt_cmpR {op : CmpOp} {r : R2} (ho : OpR X (compareOp op) r) (ha : PE X a ta) (hb : PE X b tb) (hm : behindInMarks op b = false) : PT X (.Compare a [op] [b] pos) (tTest (tOp r ta tb)) := by
  intro pins s σ H Q I h
  refine wpAny_isTrue_Compare1 (thn (ha pins s σ H _ I h) fun v s1 ⟨x, H1, I1, r1, q1⟩ => thn (hb pins s1 σ H1 _ I1 q1) fun u s2 ⟨y, H2, I2, r2, q2⟩ =>
    thn (ho pins s2 σ H2 x y v u _ I2 r1 r2 q2) fun c s3 ⟨z, H3, I3, r3, k, e, q3⟩ => ?_) hm
  subst e
  cases r3
  exact wpAny_truthy_bool ⟨H3, I3, q3⟩
/-- a op1 b op2 c -/
def tChain (r r' : R2) (ta tb tc : TE) : TE := fun σ H Q => ta σ H fun x H1 => tb σ H1 fun y H2 => r x y H2 fun z H3 => ∃ k, z = .bl k ∧
  (if k = true then tc σ H3 fun w' H4 => r' y w' H4 Q else Q (.bl false) H3)
theorem pe_chain {op op' : CmpOp} {r r' : R2} (ho : OpR X (compareOp op) r) (ho' : OpR X (compareOp op') r') (ha : PE X a ta) (hb : PE X b tb) (hc : PE X c tc)
    (hm : lastMarks [op, op'] [b, c] = false := by with_unfolding_all rfl) : PE X (.Compare a [op, op'] [b, c] pos) (tChain r r' ta tb tc) := by
  intro pins s σ H Q I h
  refine Compare_chain (thn (ha pins s σ H _ I h) fun v s1 ⟨x, H1, I1, r1, q1⟩ => chain_link (thn (hb pins s1 σ H1 _ I1 q1) fun u s2 ⟨y, H2, I2, r2, q2⟩ =>
    thn (ho pins s2 σ H2 x y v u _ I2 r1 r2 q2) fun d s3 ⟨z, H3, I3, r3, k, e, q3⟩ => ?_)) hm
  subst e
  cases r3
  refine wpAny_truthy_bool ?_
  cases k with
  | false => exact ite_ff ⟨.bl false, H3, I3, rfl, q3⟩
  | true => exact ite_tt (chain_last (thn (hc pins s3 σ H3 _ I3 q3) fun w' s4 ⟨z', H4, I4, r4, q4⟩ => ho' pins s4 σ H4 y z' u w' Q I4 r2 r4 q4))
theorem pt_chain {op op' : CmpOp} {r r' : R2} (ho : OpR X (compareOp op) r) (ho' : OpR X (compareOp op') r') (ha : PE X a ta) (hb : PE X b tb) (hc : PE X c tc)
    (hm : lastMarks [op, op'] [b, c] = false := by with_unfolding_all rfl) : PT X (.Compare a [op, op'] [b, c] pos) (tTest (tChain r r' ta tb tc)) := by
  intro pins s σ H Q I h
  refine isTrue_chain (thn (ha pins s σ H _ I h) fun v s1 ⟨x, H1, I1, r1, q1⟩ => test_link (thn (hb pins s1 σ H1 _ I1 q1) fun u s2 ⟨y, H2, I2, r2, q2⟩ =>
    thn (ho pins s2 σ H2 x y v u _ I2 r1 r2 q2) fun d s3 ⟨z, H3, I3, r3, k, e, q3⟩ => ?_)) hm
  subst e
  cases r3
  refine wpAny_truthy_bool ?_
  cases k with
  | false =>
    obtain ⟨k', e', q'⟩ := q3
    cases e'
    exact ite_ff ⟨H3, I3, q'⟩
  | true =>
    refine ite_tt (test_last (thn (hc pins s3 σ H3 _ I3 q3) fun w' s4 ⟨z', H4, I4, r4, q4⟩ => thn (ho' pins s4 σ H4 y z' u w' _ I4 r2 r4 q4) fun d' s5 ⟨z2, H5, I5, r5, k2, e2, q5⟩ => ?_))
    subst e2
    cases r5
    exact wpAny_truthy_bool ⟨H5, I5, q5⟩

/-! ### truth -/
/-- a value's truth by the abstract heap -/
def TruV (K : PySem.W.Frag) (x : V) (H : Hp) (k : Bool) : Prop :=
  match x with
  | .non => k = false
  | .bl b => k = b
  | .int i => k = (i != 0)
  | .str y => y.length ≤ sizeLine ∧ k = ((y.length : Int) != 0)
  | .byt y => y.size ≤ sizeLine ∧ k = ((y.size : Int) != 0)
  | .ref p => (∃ xs, SqL K H p xs ∧ k = !xs.isEmpty) ∨ (∃ xs, SqT K H p xs ∧ k = !xs.isEmpty) ∨ ∃ kvs, H p = some (.dK kvs) ∧ k = !kvs.isEmpty
  | _ => False
theorem isEmpty_kv {κ : Type} {kvs : List (κ × V)} {vs : List (κ × Value)} (r : KV kvs vs) : (!vs.isEmpty) = !kvs.isEmpty := by
  cases r <;> rfl
theorem isEmpty_of {xs : List V} {its : List Value} (r : Vals xs its) : (!its.toArray.isEmpty) = !xs.isEmpty := by
  cases r <;> simp
theorem line63 : (sizeLine : Nat) < 2 ^ 63 := by rw [sizeLine_eq]; decide
theorem tru_ok : TruR X (fun x H Q => ∃ k, TruV X.K x H k ∧ Q k H) := by
  intro pins s σ H x v Q I rx h
  obtain ⟨k, e, q⟩ := h
  have hl := line63
  have hs : sizeLine = 16777216 := sizeLine_eq
  cases x with
  | non =>
    cases rx
    have e' : k = false := e
    subst e'
    exact truthy_none ⟨H, I, q⟩
  | bl b =>
    cases rx
    have e' : k = b := e
    subst e'
    exact wpAny_truthy_bool ⟨H, I, q⟩
  | int i =>
    obtain ⟨t, rfl⟩ := rx
    have e' : k = (i != 0) := e
    subst e'
    exact PySem.P.truthy_int ⟨H, I, q⟩
  | str y =>
    obtain ⟨t, rfl⟩ := rx
    obtain ⟨hy, e'⟩ : y.length ≤ sizeLine ∧ k = ((y.length : Int) != 0) := e
    subst e'
    exact PySem.P.truthy_str (by omega) ⟨H, I.tok _, q⟩
  | byt y =>
    obtain ⟨t, rfl⟩ := rx
    obtain ⟨hy, e'⟩ : y.size ≤ sizeLine ∧ k = ((y.size : Int) != 0) := e
    subst e'
    exact PySem.W.truthy_bytes (by omega) ⟨H, I.tok _, q⟩
  | ref p =>
    cases rx
    have e' : (∃ xs, SqL X.K H p xs ∧ k = !xs.isEmpty) ∨ (∃ xs, SqT X.K H p xs ∧ k = !xs.isEmpty) ∨ ∃ kvs, H p = some (.dK kvs) ∧ k = !kvs.isEmpty := e
    rcases e' with ⟨xs, hx, e'⟩ | ⟨xs, hx, e'⟩ | ⟨kvs, hx, e'⟩
    · subst e'
      obtain ⟨its, r, pl, hz⟩ := I.list hx
      have hlen := r.length
      exact wpAny_truthy_list pl.isList (by simp only [List.size_toArray]; omega) ⟨H, I.tok _, by rw [isEmpty_of r]; exact q⟩
    · subst e'
      obtain ⟨its, r, pl, hz⟩ := I.tuple hx
      have hlen := r.length
      exact truthy_tuple pl (by simp only [List.size_toArray]; omega) ⟨H, I.tok _, by rw [isEmpty_of r]; exact q⟩
    · subst e'
      obtain ⟨hz, hS, vs, r, m⟩ : kvs.length ≤ sizeLine ∧ (p == sysModules) = false ∧ ∃ vs, KV kvs vs ∧ s.heap.DictOf (mixKind X.prog X.w) p vs := I.hok p _ hx
      have hlen : kvs.length = vs.length := Paired.length r
      exact wpAny_truthy_dict hS m (by omega) ⟨H, I.tok _, by rw [isEmpty_kv r]; exact q⟩
  | _ => exact (show False from e).elim
/-- any expression whose test is its value's truth (a name, a call, a subscript, a field ..: he by fun _ => rfl) -/
theorem pt_truth (ha : PE X a ta) (he : ∀ whole, isTrue a X.env whole = (do let v ← whole; standAt a.pos; holding [v] (truthy v))) :
    PT X a (fun σ H Q => ta σ H fun x H' => ∃ k, TruV X.K x H' k ∧ Q k H') := by
  intro pins s σ H Q I h
  exact isTrue_plain (thn (ha pins s σ H _ I h) fun v s1 ⟨x, H1, I1, r1, q1⟩ => tru_ok pins s1 σ H1 x v Q I1 r1 q1) (he _)

/-! ### strs and bytes -/
theorem pe_byt {x : List UInt8} {k : Nat} : PE X (.Constant (.bytes x) k pos) (fun _ H Q => Q (.byt x.toArray) H) := fun _ _ _ H _ I h => PySem.W.Constant_bytes ⟨.byt x.toArray, H, I.tok _, ⟨_, rfl⟩, h⟩
theorem op_add_str : OpR X (binaryOp .Add) (fun x y H Q => ∃ i j, x = .str i ∧ y = .str j ∧ i.length + j.length ≤ sizeLine ∧ Q (.str (i ++ j)) H) := by
  intro pins s σ H x y v u Q I rx ry h
  obtain ⟨i, j, rfl, rfl, hz, q⟩ := h
  obtain ⟨t, rfl⟩ := rx
  obtain ⟨t', rfl⟩ := ry
  exact add_str (fun t' tk => ⟨.str (i ++ j), H, I.tok _, ⟨_, rfl⟩, q⟩) hz
theorem iop_add_str : OpR X (inplaceOp .Add) (fun x y H Q => ∃ i j, x = .str i ∧ y = .str j ∧ i.length + j.length ≤ sizeLine ∧ Q (.str (i ++ j)) H) := by
  intro pins s σ H x y v u Q I rx ry h
  obtain ⟨i, j, rfl, rfl, hz, q⟩ := h
  obtain ⟨t, rfl⟩ := rx
  obtain ⟨t', rfl⟩ := ry
  exact iadd_str (fun t' tk => ⟨.str (i ++ j), H, I.tok _, ⟨_, rfl⟩, q⟩) hz
theorem op_add_byt : OpR X (binaryOp .Add) (fun x y H Q => ∃ i j, x = .byt i ∧ y = .byt j ∧ i.size + j.size ≤ 16777216 ∧ Q (.byt (i ++ j)) H) := by
  intro pins s σ H x y v u Q I rx ry h
  obtain ⟨i, j, rfl, rfl, hz, q⟩ := h
  obtain ⟨t, rfl⟩ := rx
  obtain ⟨t', rfl⟩ := ry
  exact PySem.W.KBy.add_bytes hz (fun t' tk => ⟨.byt (i ++ j), H, I.tok _, ⟨_, rfl⟩, q⟩)

def PlainIxT (b : Expr) : Prop := ∀ o i, subscripted b false o i = operate [o, i] (getItem o i)
/-- s[i], 0 ≤ i < len -/
theorem pe_item_str (ha : PE X a ta) (hb : PE X b tb) (hs : PlainIxT b) :
    PE X (.Subscript a b pos) (tOp (fun x y H Q => ∃ z i c, x = .str z ∧ y = .int i ∧ 0 ≤ i ∧ i < 2 ^ 63 ∧ i < z.length ∧ z.cps[i.toNat]? = some c ∧ Q (.str ⟨#[c]⟩) H) ta tb) := by
  intro pins s σ H Q I h
  refine Subscript_ (binT ha hb I h fun v u s2 x y H2 I2 rx ry q => ?_)
  obtain ⟨z, i, c, rfl, rfl, h0, h63, h1, hc, q⟩ := q
  obtain ⟨t, rfl⟩ := rx
  obtain ⟨t', rfl⟩ := ry
  have e : seqIndex? i z.length = some i.toNat := PySem.StrLaws.seqIndex_nonneg h0 h1
  exact tail_any (typeIs_str s2 z t) slot_str_getitem.lookup (getItem_str (c := c) (by
    have e1 : decide (i < -(2 ^ 63 : Int)) = false := decide_eq_false (by omega)
    have e2 : decide (i ≥ 2 ^ 63) = false := decide_eq_false (by omega)
    rw [e1, e2] <;> rfl) (by rw [e]; exact hc) ⟨.str ⟨#[c]⟩, H2, I2.tok _, ⟨_, rfl⟩, q⟩) (hs _ _)
/-- b[i], 0 ≤ i < len -/
theorem pe_item_byt (ha : PE X a ta) (hb : PE X b tb) (hs : PlainIxT b) :
    PE X (.Subscript a b pos) (tOp (fun x y H Q => ∃ (z : List UInt8) (i : Int), x = .byt z.toArray ∧ y = .int i ∧ z.length ≤ sizeLine ∧ 0 ≤ i ∧ i < z.length ∧ Q (.int ((z.getD i.toNat 0).toNat : Nat)) H) ta tb) := by
  intro pins s σ H Q I h
  refine Subscript_ (binT ha hb I h fun v u s2 x y H2 I2 rx ry q => ?_)
  obtain ⟨z, i, rfl, rfl, hz, h0, h1, q⟩ := q
  obtain ⟨t, rfl⟩ := rx
  obtain ⟨t', rfl⟩ := ry
  have hl : sizeLine = 16777216 := sizeLine_eq
  exact tail_any (PySem.W.typeIs_bytes s2 z.toArray t) PySem.W.FB.slot_bytes_getitem.lookup (PySem.W.getItem_bytes (by omega) h0 h1 ⟨.int ((z.getD i.toNat 0).toNat : Nat), H2, I2.tok _, ⟨_, rfl⟩, q⟩) (hs _ _)

/-! ### scalar builtins, by CallR -/
theorem vals1 {x : V} {us : List Value} (r : Vals [x] us) : ∃ u, us = [u] ∧ RelV x u := by
  cases r with
  | cons r1 r2 => cases r2; exact ⟨_, rfl, r1⟩
theorem vals2 {x y : V} {us : List Value} (r : Vals [x, y] us) : ∃ u w', us = [u, w'] ∧ RelV x u ∧ RelV y w' := by
  cases r with
  | cons r1 r2 =>
    cases r2 with
    | cons r3 r4 => cases r4; exact ⟨_, _, rfl, r1, r3⟩
theorem call_abs : CallR X (.builtin "abs") (fun xs H Q => ∃ i, xs = [.int i] ∧ Q (.int (if i < 0 then -i else i)) H) := by
  intro pins s σ H xs us Q I r h
  obtain ⟨i, rfl, q⟩ := h
  obtain ⟨u, rfl, t, rfl⟩ := vals1 r
  exact call_abs_int fun u tk => ⟨.int (if i < 0 then -i else i), H, I.tok _, ⟨_, rfl⟩, q⟩
theorem call_max2 (hc : X.calm = true) : CallR X (.builtin "max") (fun xs H Q => ∃ i j, xs = [.int i, .int j] ∧ Q (.int (if j > i then j else i)) H) := by
  intro pins s σ H xs us Q I r h
  obtain ⟨i, j, rfl, q⟩ := h
  obtain ⟨u, w', rfl, ⟨t, rfl⟩, ⟨t', rfl⟩⟩ := vals2 r
  refine max_two_ints (I.ok.hd hc) fun h' tk k => ⟨_, H, I.kept k, ?_, q⟩
  by_cases hj : j > i
  · rw [if_pos hj, if_pos hj]; exact ⟨_, rfl⟩
  · rw [if_neg hj, if_neg hj]; exact ⟨_, rfl⟩
theorem call_min2 (hc : X.calm = true) : CallR X (.builtin "min") (fun xs H Q => ∃ i j, xs = [.int i, .int j] ∧ Q (.int (if j < i then j else i)) H) := by
  intro pins s σ H xs us Q I r h
  obtain ⟨i, j, rfl, q⟩ := h
  obtain ⟨u, w', rfl, ⟨t, rfl⟩, ⟨t', rfl⟩⟩ := vals2 r
  refine min_two_ints (I.ok.hd hc) fun h' tk k => ⟨_, H, I.kept k, ?_, q⟩
  by_cases hj : j < i
  · rw [if_pos hj, if_pos hj]; exact ⟨_, rfl⟩
  · rw [if_neg hj, if_neg hj]; exact ⟨_, rfl⟩
theorem call_int1 : CallR X (.type "int") (fun xs H Q => (∃ i, xs = [.int i] ∧ Q (.int i) H) ∨ ∃ k, xs = [.bl k] ∧ Q (.int (if k then 1 else 0)) H) := by
  intro pins s σ H xs us Q I r h
  rcases h with ⟨i, rfl, q⟩ | ⟨k, rfl, q⟩
  · obtain ⟨u, rfl, t, rfl⟩ := vals1 r
    exact call_int_int ⟨.int i, H, I, ⟨_, rfl⟩, q⟩
  · obtain ⟨u, rfl, r1⟩ := vals1 r
    cases r1
    exact call_int_bool ⟨.int (if k then 1 else 0), H, I.tok _, ⟨_, rfl⟩, q⟩
theorem call_bool1 : CallR X (.type "bool") (fun xs H Q => (∃ i, xs = [.int i] ∧ Q (.bl (i != 0)) H) ∨ ∃ k, xs = [.bl k] ∧ Q (.bl k) H) := by
  intro pins s σ H xs us Q I r h
  rcases h with ⟨i, rfl, q⟩ | ⟨k, rfl, q⟩
  · obtain ⟨u, rfl, t, rfl⟩ := vals1 r
    exact call_bool_int ⟨.bl (i != 0), H, I, rfl, q⟩
  · obtain ⟨u, rfl, r1⟩ := vals1 r
    cases r1
    exact call_bool_bool ⟨.bl k, H, I, rfl, q⟩
theorem call_str_int : CallR X (.type "str") (fun xs H Q => ∃ i, xs = [.int i] ∧ i.natAbs.log2 < 1920 ∧ Q (.str (toString i)) H) := by
  intro pins s σ H xs us Q I r h
  obtain ⟨i, rfl, hz, q⟩ := h
  obtain ⟨u, rfl, t, rfl⟩ := vals1 r
  exact PySem.P.str_of_int hz ⟨.str _, H, I.tok _, ⟨_, rfl⟩, q⟩
theorem call_ord : CallR X (.builtin "ord") (fun xs H Q => ∃ x, xs = [.str x] ∧ x.length = 1 ∧ Q (.int (x.cps.getD 0 0 : Nat)) H) := by
  intro pins s σ H xs us Q I r h
  obtain ⟨x, rfl, hz, q⟩ := h
  obtain ⟨u, rfl, t, rfl⟩ := vals1 r
  exact ord_of_one hz ⟨.int _, H, I.tok _, ⟨_, rfl⟩, q⟩
theorem call_chr : CallR X (.builtin "chr") (fun xs H Q => ∃ i, xs = [.int i] ∧ 0 ≤ i ∧ i ≤ 1114111 ∧ Q (.str ⟨#[i.toNat]⟩) H) := by
  intro pins s σ H xs us Q I r h
  obtain ⟨i, rfl, h0, h1, q⟩ := h
  obtain ⟨u, rfl, t, rfl⟩ := vals1 r
  exact chr_of_range h0 h1 ⟨.str _, H, I.tok _, ⟨_, rfl⟩, q⟩
/-- len of a str, a bytes, a list, a tuple -/
def LenV (K : PySem.W.Frag) (x : V) (H : Hp) (n : Nat) : Prop :=
  match x with
  | .str y => y.length ≤ sizeLine ∧ n = y.length
  | .byt y => y.size ≤ sizeLine ∧ n = y.size
  | .ref p => (∃ xs, SqL K H p xs ∧ n = xs.length) ∨ ∃ xs, SqT K H p xs ∧ n = xs.length
  | _ => False
theorem call_len : CallR X (.builtin "len") (fun xs H Q => ∃ x n, xs = [x] ∧ LenV X.K x H n ∧ Q (.int n) H) := by
  intro pins s σ H xs us Q I r h
  obtain ⟨x, n, rfl, e, q⟩ := h
  obtain ⟨u, rfl, rx⟩ := vals1 r
  have hl := line63
  have hs : sizeLine = 16777216 := sizeLine_eq
  cases x with
  | str y =>
    obtain ⟨t, rfl⟩ := rx
    obtain ⟨hy, e'⟩ : y.length ≤ sizeLine ∧ n = y.length := e
    subst e'
    exact len_str (by omega) ⟨.int _, H, I.tok _, ⟨_, rfl⟩, q⟩
  | byt y =>
    obtain ⟨t, rfl⟩ := rx
    obtain ⟨hy, e'⟩ : y.size ≤ sizeLine ∧ n = y.size := e
    subst e'
    exact PySem.W.len_bytes (by omega) ⟨.int _, H, I.tok _, ⟨_, rfl⟩, q⟩
  | ref p =>
    cases rx
    have e' : (∃ xs, SqL X.K H p xs ∧ n = xs.length) ∨ ∃ xs, SqT X.K H p xs ∧ n = xs.length := e
    rcases e' with ⟨xs, hx, e'⟩ | ⟨xs, hx, e'⟩
    · subst e'
      obtain ⟨its, r', pl, hz⟩ := I.list hx
      have hlen := r'.length
      exact Calls.call_len_list pl.isList (by simp only [List.size_toArray]; omega) ⟨.int xs.length, H, I.tok _, ⟨_, by simp only [List.size_toArray]; rw [hlen]⟩, q⟩
    · subst e'
      obtain ⟨its, r', pl, hz⟩ := I.tuple hx
      have hlen := r'.length
      exact len_tuple pl (by simp only [List.size_toArray]; omega) ⟨.int xs.length, H, I.tok _, ⟨_, by simp only [List.size_toArray]; rw [hlen]⟩, q⟩
  | _ => exact (show False from e).elim
/-- divmod: a new tuple -/
theorem call_divmod : CallR X (.builtin "divmod") (fun xs H Q => ∃ i j, xs = [.int i, .int j] ∧ CDiv i j ∧ ∀ p, H p = none → Q (.ref p) (upd H p (.tup [.int (i / j), .int (i % j)]))) := by
  intro pins s σ H xs us Q I r h
  obtain ⟨i, j, rfl, ⟨h1, h2⟩, q⟩ := h
  obtain ⟨u, w', rfl, ⟨t, rfl⟩, ⟨t', rfl⟩⟩ := vals2 r
  refine divmod_int (by omega) ?_ (.inl (PyProof.noPylong_small (by omega)))
  rw [Int.fdiv_eq_ediv_of_nonneg i (by omega), Int.fmod_eq_emod_of_nonneg i (by omega)]
  have hn : H s.heap.objs.size = none := I.hok.fresh (Nat.le_refl _)
  refine ⟨.ref s.heap.objs.size, _, ?_, rfl, q _ hn⟩
  refine I.laid (fun b o e => Heap.get?_push_of_some _ e) (Nat.le_refl _) ⟨by simp only [List.length_cons, List.length_nil]; rw [sizeLine_eq]; decide, [.int (i / j) s.toks, .int (i % j) (s.toks + 1)], .cons ⟨_, rfl⟩ (.cons ⟨_, rfl⟩ .nil), ?_⟩
  exact ⟨_, Heap.get?_push_size s.heap rfl, rfl, 0, rfl⟩
end
end L2

namespace L2
open PySem PySem.Spec PyProof.Rows

/-! ### an instance, its attributes a map -/
structure ObjM (h : Heap) (x dx C : Addr) (mA : Str → Option Value) : Prop where
  obj : h.get? x = some (PySem.W.instObj C dx)
  ns : h.Ns1 dx mA
  ne : dx ≠ x

theorem lookIn_ns {h : Heap} {dx : Addr} {mA : Str → Option Value} (n : h.Ns1 dx mA) : ∃ od, h.get? dx = some od ∧ ∀ name, PySem.W.lookIn name od = some (mA name) := by
  obtain ⟨o, es, ep, ho, hd, hk, _, hm⟩ := n
  refine ⟨o, ho, fun name => ?_⟩
  have e := hm name
  unfold nsFind findBy at e
  rw [← Array.find?_toList] at e
  unfold PySem.W.lookIn
  rw [hd]
  dsimp only
  split
  · rename_i y q
    rw [q] at e
    exact congrArg some e
  · rename_i q
    rw [q] at e
    have a : es.toList.any (·.refKey) = false := by
      rw [List.any_eq_false]
      intro y hy
      obtain ⟨z, t, hkey⟩ := hk y (Array.mem_toList_iff.mp hy)
      simp [DictEntry.refKey, hkey]
    have a' : ¬ es.toList.any (·.refKey) = true := by rw [a]; exact Bool.false_ne_true
    rw [if_neg a']
    exact congrArg some e

theorem ObjM.look {h : Heap} {x dx C : Addr} {mA : Str → Option Value} (I : ObjM h x dx C mA) : ∃ od, PySem.W.InstAt h x (PySem.W.instObj C dx) C (some od) ∧ ∀ name, PySem.W.lookIn name od = some (mA name) :=
  let ⟨od, ho, hl⟩ := lookIn_ns I.ns
  ⟨od, ⟨I.obj, rfl, rfl, ho⟩, hl⟩

section
variable {prog : Program} {w : World} {A : Around} {E : Value → Shared → Prop} {s : Shared} {K : PySem.W.Frag} {x dx C f : Addr} {mA : Str → Option Value} {name : Str} {v : Value}

theorem get_map {expr : Bool} {Q : Value → Shared → Prop} (X : K.In s.heap) (I : ObjM s.heap x dx C mA) (hg : PySem.W.plainGet K C name = true) (hh : PySem.W.hasDictIn K C = true)
    (ha : PySem.W.findIn K (.ref C) name = some none) (hv : mA name = some v) (hv' : PySem.W.handedIn v = true) (h : Q v { s with toks := s.toks + 1 }) :
    wpAny (model prog w) A (getAttr (.ref x) name expr) Q E s := by
  obtain ⟨od, J, hl⟩ := I.look
  exact PySem.W.get_value X J (PySem.W.plainGet_of hg).1 (PySem.W.findObj_own hh ha rfl (by rw [hl, hv])) hv' h

theorem get_const {expr : Bool} {a : Value} {Q : Value → Shared → Prop} (X : K.In s.heap) (I : ObjM s.heap x dx C mA) (hg : PySem.W.plainGet K C name = true) (hh : PySem.W.hasDictIn K C = true)
    (ha : PySem.W.findIn K (.ref C) name = some (some a)) (hn : PySem.W.specialIn K a "__get__" = some none) (hc : PySem.W.copiedNames.contains name = false) (hv : mA name = none) (hv' : PySem.W.handedIn a = true)
    (h : Q a { s with toks := s.toks + 1 }) : wpAny (model prog w) A (getAttr (.ref x) name expr) Q E s := by
  obtain ⟨od, J, hl⟩ := I.look
  exact PySem.W.get_value X J (PySem.W.plainGet_of hg).1 (PySem.W.findObj_cls hh ha hn hv' hc (by rw [hl, hv])) hv' h

theorem get_meth {pl : Sem Bool} {Q : Value × List Value → Shared → Prop} (X : K.In s.heap) (I : ObjM s.heap x dx C mA) (hg : PySem.W.plainGet K C name = true)
    (hf : PySem.W.findIn K (.ref C) name = some (some (.ref f))) (ht : PySem.W.isFn K (.ref f) = true) (hv : mA name = none) (h : Q (.ref f, [.ref x]) s) :
    wpAny (model prog w) A (getMethod (.ref x) name pl) Q E s := by
  obtain ⟨od, J, hl⟩ := I.look
  exact PySem.W.method_fn X J (PySem.W.plainGet_of hg).1 (PySem.W.plainGet_of hg).2 hf (beq_iff_eq.mp ht) (by show (PySem.W.lookIn name od).map (·.isSome) = some false; rw [hl, hv]; rfl) h

theorem set_map {ns : List Str} {Q : Unit → Shared → Prop} (X : K.In s.heap) (I : ObjM s.heap x dx C mA)
    (hs : PySem.W.findIn K (.ref C) "__setattr__" = some (some (.builtin "object.__setattr__"))) (hp : PySem.W.plainOver K C = true) (ht : PySem.W.takerIn K C name = some none) (hh : PySem.W.hasDictIn K C = true)
    (hw : PySem.Within mA ns) (hsz : ns.length ≤ sizeLine)
    (h : ∀ h', ObjM h' x dx C (fun y => if y = name then some v else mA y) → Heap.SameBut dx s.heap h' → Q () { s with heap := h', toks := s.toks + 2 }) :
    wpAny (model prog w) A (setAttr (.ref x) name v) Q E s := by
  obtain ⟨od, J, hl⟩ := I.look
  refine PySem.W.set_plain X J hs (PySem.W.osa_open (s := { s with toks := s.toks + 1 }) (r := none) X J hp ht fun b => ?_)
  obtain ⟨cd, hc, hd'⟩ := PySem.W.any_some hh
  have hx : s.heap.get? x = some ⟨.ref C, some dx, .plain, #[]⟩ := I.obj
  refine wpAny_bind (wpAny_pure (wpAny_bind (wpAny_bind (wpAny_loadPart hx (wpAny_bind (PySem.W.Looks.here (s := { s with toks := s.toks + 1 }) (PySem.W.looks_clsIn X hc) ?_))))))
  rw [hd']
  refine wpAny_pure (a := some dx) (wpAny_bind (wpAny_pure (wpAny_bind ?_)))
  refine wpAny_nsSet1 (s := { s with toks := s.toks + 1 }) I.ns fun h' hn2 hs2 => ?_
  obtain ⟨oD, esD, epD, hoD, hdD, hcD⟩ := hn2.count (PySem.Within.cons name v hw)
  refine wpAny_bind (wpAny_lookBehind hoD (by rw [hdD]; exact pastItsLine_dict (Nat.le_trans hcD (by rw [List.length_cons]; omega))) ?_)
  exact wpAny_pure (h _ ⟨(hs2.2 _ (Ne.symm I.ne)).trans I.obj, hn2, I.ne⟩ hs2)

/-- C(..): the dict at the heap's end, the instance behind it; then its __init__ -/
theorem make_map {R : Result → Shared → Prop} {vs : List Value} {kw : List (Str × Value)} (X : K.In s.heap) (hm : PySem.W.makesIn K C = true)
    (hi : PySem.W.findIn K (.ref C) "__init__" = some (some (.ref f))) (hf : PySem.W.typeIn K (.ref f) = some (.type "function"))
    (h : codeAny (model prog w) (A.under (.builtin "type.__call__" ⟨.ref C :: vs, kw⟩)) (.call (.ref f) ⟨.ref (s.heap.objs.size + 1) :: vs, kw⟩) (PySem.W.InitBack (s.heap.objs.size + 1) R)
      { s with heap := (s.heap.push PySem.W.emptyDict).push (PySem.W.instObj C s.heap.objs.size) }) :
    codeAny (model prog w) A (.call (.ref C) ⟨vs, kw⟩) R s := by
  obtain ⟨hh, g, d, t, os⟩ := s
  exact PySem.W.make_core (PySem.W.makes_of X hm) (PySem.W.looks_findIn X hi) (fun self => PySem.W.bind_fn X self hf) (.inl rfl) h
/-- C() where there is no __init__ but object's -/
theorem make_map0 {R : Result → Shared → Prop} (X : K.In s.heap) (hm : PySem.W.makesIn K C = true)
    (hi : PySem.W.findIn K (.ref C) "__init__" = some (some (.builtin "object.__init__")))
    (hb : ∀ self, PySem.W.Looks (model prog w) s.heap (bindSpecial (.builtin "object.__init__") self) (.builtin "object.__init__", [self]))
    (h : codeAny (model prog w) (A.under (.builtin "type.__call__" ⟨[.ref C], []⟩)) (.call (.builtin "object.__init__") ⟨[.ref (s.heap.objs.size + 1)], []⟩) (PySem.W.InitBack (s.heap.objs.size + 1) R)
      { s with heap := (s.heap.push PySem.W.emptyDict).push (PySem.W.instObj C s.heap.objs.size) }) :
    codeAny (model prog w) A (.call (.ref C) ⟨[], []⟩) R s := by
  obtain ⟨hh, g, d, t, os⟩ := s
  exact PySem.W.make_core (PySem.W.makes_of X hm) (PySem.W.looks_findIn X hi) hb (.inr ⟨rfl, rfl⟩) h
end

/-! ### the attributes as a list of pairs -/
def putF (f : Str) (v : V) : List (Str × V) → List (Str × V)
  | [] => [(f, v)]
  | (g, x) :: r => if g = f then (g, v) :: r else (g, x) :: putF f v r
theorem lookup_putF (f g : Str) (v : V) : ∀ fs : List (Str × V), (putF f v fs).lookup g = if g = f then some v else fs.lookup g
  | [] => by
    show List.lookup g [(f, v)] = _
    by_cases h : g = f
    · have hb : (g == f) = true := beq_iff_eq.mpr h
      simp only [List.lookup, hb, if_pos h]
    · have hb : (g == f) = false := beq_eq_false_iff_ne.mpr h
      simp only [List.lookup, hb, if_neg h]
  | (k, x) :: r => by
    have ih := lookup_putF f g v r
    rw [show putF f v ((k, x) :: r) = (if k = f then (k, v) :: r else (k, x) :: putF f v r) from rfl]
    by_cases hk : k = f
    · rw [if_pos hk]
      by_cases h : g = k
      · have hb : (g == k) = true := beq_iff_eq.mpr h
        simp only [List.lookup, hb, if_pos (h.trans hk)]
      · have hb : (g == k) = false := beq_eq_false_iff_ne.mpr h
        simp only [List.lookup, hb, if_neg (fun e : g = f => h (e.trans hk.symm))]
    · rw [if_neg hk]
      by_cases h : g = k
      · have hb : (g == k) = true := beq_iff_eq.mpr h
        simp only [List.lookup, hb, if_neg (fun e : g = f => hk (h.symm.trans e))]
      · have hb : (g == k) = false := beq_eq_false_iff_ne.mpr h
        simp only [List.lookup, hb]
        exact ih
theorem keys_putF (f : Str) (v : V) : ∀ fs : List (Str × V), f ∈ (putF f v fs).map (·.1) ∧ ∀ g, g ∈ fs.map (·.1) → g ∈ (putF f v fs).map (·.1)
  | [] => ⟨by simp [putF], fun g h => by simp at h⟩
  | (k, x) :: r => by
    obtain ⟨i1, i2⟩ := keys_putF f v r
    rw [show putF f v ((k, x) :: r) = (if k = f then (k, v) :: r else (k, x) :: putF f v r) from rfl]
    by_cases hk : k = f
    · rw [if_pos hk]
      subst hk
      exact ⟨by simp, fun g h => by simpa using h⟩
    · rw [if_neg hk]
      refine ⟨?_, fun g h => ?_⟩
      · rw [List.map_cons]
        exact List.mem_cons_of_mem _ i1
      · rw [List.map_cons] at h ⊢
        rcases List.mem_cons.mp h with e | e
        · exact List.mem_cons.mpr (.inl e)
        · exact List.mem_cons_of_mem _ (i2 g e)
theorem length_putF (f : Str) (v : V) : ∀ fs : List (Str × V), (putF f v fs).length ≤ fs.length + 1
  | [] => by simp [putF]
  | (k, x) :: r => by
    have ih := length_putF f v r
    rw [show putF f v ((k, x) :: r) = (if k = f then (k, v) :: r else (k, x) :: putF f v r) from rfl]
    by_cases hk : k = f
    · rw [if_pos hk, List.length_cons, List.length_cons]; omega
    · rw [if_neg hk, List.length_cons, List.length_cons]; omega

theorem RelO.some_of {v : V} {o : Option Value} (r : RelO (some v) o) : ∃ u, o = some u ∧ RelV v u := by
  cases o with
  | none => exact (show False from r).elim
  | some u => exact ⟨u, rfl, r⟩
theorem RelO.none_of {o : Option Value} (r : RelO none o) : o = none := by
  cases o with
  | none => rfl
  | some u => exact (show False from r).elim
theorem handed_of {v : V} {u : Value} (r : RelV v u) : PySem.W.handedIn u = true := by
  cases v with
  | non => cases (show u = Value.none from r); rfl
  | bl b => cases (show u = Value.bool b from r); rfl
  | int i => obtain ⟨t, e⟩ := (show ∃ t, u = Value.int i t from r); cases e; rfl
  | str x => obtain ⟨t, e⟩ := (show ∃ t, u = Value.str x t from r); cases e; rfl
  | byt b => obtain ⟨t, e⟩ := (show ∃ t, u = Value.bytes b t from r); cases e; rfl
  | flt b => obtain ⟨t, e⟩ := (show ∃ t, u = Value.float b t from r); cases e; rfl
  | ref a => cases (show u = Value.ref a from r); rfl
  | ty n => cases (show u = Value.type n from r); rfl

section
variable {P : Program} {w : World} {H H' : Hp} {h h' : Heap} {a C dx : Addr} {fs fs' : List (Str × V)}
theorem ins_get (hok : HOk P w H h) (e : H a = some (.ins C dx fs)) : ∃ mA, ObjM h a dx C mA ∧ (∀ f, RelO (fs.lookup f) (mA f)) ∧ PySem.Within mA (fs.map (·.1)) ∧ fs.length ≤ 1000 ∧ H dx = some (.own a) := by
  obtain ⟨d, z, ne, ob, mA, n, r, q⟩ := (show ObjOk P w H h a (.ins C dx fs) from hok a _ e)
  exact ⟨mA, ⟨ob, n, ne⟩, r, q, z, d⟩
end

/-! ### what of the text a class must have -/
structure Cls (K : PySem.W.Frag) (C : Addr) : Prop where
  pg : PySem.W.plainGet K C Str.empty = true
  hd : PySem.W.hasDictIn K C = true
  po : PySem.W.plainOver K C = true
  sa : PySem.W.findIn K (.ref C) "__setattr__" = some (some (.builtin "object.__setattr__"))
theorem Cls.get {K : PySem.W.Frag} {C : Addr} (c : Cls K C) (f : Str) : PySem.W.plainGet K C f = true := c.pg
/-- no class of it has the name -/
def NoAttr (K : PySem.W.Frag) (C : Addr) (f : Str) : Prop := PySem.W.findIn K (.ref C) f = some none
theorem NoAttr.taker {K : PySem.W.Frag} {C : Addr} {f : Str} (n : NoAttr K C f) : PySem.W.takerIn K C f = some none := by
  unfold PySem.W.takerIn
  rw [show PySem.W.findIn K (.ref C) f = some none from n]
  rfl
/-- a constant of the class -/
structure Con (K : PySem.W.Frag) (C : Addr) (f : Str) (v : V) (u : Value) : Prop where
  at_ : PySem.W.findIn K (.ref C) f = some (some u)
  rel : RelV v u
  get : PySem.W.specialIn K u "__get__" = some none
  cp : PySem.W.copiedNames.contains f = false
/-- a method: a plain def of the class or of one above it -/
structure Meth (K : PySem.W.Frag) (C : Addr) (m : Str) (f : Addr) : Prop where
  at_ : PySem.W.findIn K (.ref C) m = some (some (.ref f))
  fn : PySem.W.isFn K (.ref f) = true
  kp : PySem.W.keepIn K (.ref f) = true

section
variable {X : Cx} {pins : List (Addr × Obj)} {σ : St} {H : Hp} {s : Shared} {a C dx : Addr} {fs : List (Str × V)} {f : Str} {v : V} {A : Around} {E : Value → Shared → Prop}

theorem getattr_ok {b : Bool} {Q : Value → Shared → Prop} (I : Inv X pins σ H s) (e : H a = some (.ins C dx fs)) (c : Cls X.K C) (n : NoAttr X.K C f) (l : fs.lookup f = some v)
    (h : ∀ u s', Inv X pins σ H s' → RelV v u → Q u s') : wpAny (model X.prog X.w) A (getAttr (.ref a) f b) Q E s := by
  obtain ⟨mA, O, r, _, _, _⟩ := ins_get I.hok e
  obtain ⟨u, hu, ru⟩ := RelO.some_of (v := v) (o := mA f) (by rw [← l]; exact r f)
  exact get_map I.kIn O (c.get f) c.hd n hu (handed_of ru) (h u _ (I.tok _) ru)

theorem getcon_ok {b : Bool} {u : Value} {Q : Value → Shared → Prop} (I : Inv X pins σ H s) (e : H a = some (.ins C dx fs)) (c : Cls X.K C) (k : Con X.K C f v u) (l : fs.lookup f = none)
    (h : ∀ s', Inv X pins σ H s' → Q u s') : wpAny (model X.prog X.w) A (getAttr (.ref a) f b) Q E s := by
  obtain ⟨mA, O, r, _, _, _⟩ := ins_get I.hok e
  have hn : mA f = none := RelO.none_of (by rw [← l]; exact r f)
  exact get_const I.kIn O (c.get f) c.hd k.at_ k.get k.cp hn (handed_of k.rel) (h _ (I.tok _))

theorem getmeth_ok {m : Str} {g : Addr} {pl : Sem Bool} {Q : Value × List Value → Shared → Prop} (I : Inv X pins σ H s) (e : H a = some (.ins C dx fs)) (c : Cls X.K C) (k : Meth X.K C m g) (l : fs.lookup m = none)
    (h : Q (.ref g, [.ref a]) s) : wpAny (model X.prog X.w) A (getMethod (.ref a) m pl) Q E s := by
  obtain ⟨mA, O, r, _, _, _⟩ := ins_get I.hok e
  have hn : mA m = none := RelO.none_of (by rw [← l]; exact r m)
  exact get_meth I.kIn O (c.get m) k.at_ k.fn hn h

theorem setattr_ok {y : V} {u : Value} {Q : Unit → Shared → Prop} (I : Inv X pins σ H s) (e : H a = some (.ins C dx fs)) (c : Cls X.K C) (n : NoAttr X.K C f) (hl : fs.length < 1000) (ry : RelV y u)
    (h : ∀ s', Inv X pins σ (upd H a (.ins C dx (putF f y fs))) s' → Q () s') : wpAny (model X.prog X.w) A (setAttr (.ref a) f u) Q E s := by
  obtain ⟨mA, O, r, wi, _, ho⟩ := ins_get I.hok e
  have hz : (fs.map (·.1)).length ≤ sizeLine := by rw [List.length_map, sizeLine_eq]; omega
  refine set_map I.kIn O c.sa c.po n.taker c.hd wi hz fun h' O' sb => h _ ?_
  have hd : ∃ o, h'.get? dx = some o := let ⟨o, _, _, e', _⟩ := O'.ns; ⟨o, e'⟩
  refine I.write (x := a) (e := dx) (by rw [e]; exact True.intro) (.inr ho) (fun b q hb z => (sb.2 b hb).trans z) hd ?_
  refine ⟨by rw [upd_ne O.ne]; exact ho, ?_, O.ne, O'.obj, _, O'.ns, fun g => ?_, fun g hg => ?_⟩
  · have := length_putF f y fs; omega
  · show RelO ((putF f y fs).lookup g) (if g = f then some u else mA g)
    rw [lookup_putF]
    by_cases q : g = f
    · rw [if_pos q, if_pos q]; exact ry
    · rw [if_neg q, if_neg q]; exact r g
  · by_cases q : g = f
    · rw [q]; exact (keys_putF f y fs).1
    · refine (keys_putF f y fs).2 g (wi g fun z => hg ?_)
      show (if g = f then some u else mA g) = none
      rw [if_neg q]; exact z

/-- a new instance, tracked, without attributes -/
theorem Inv.made (I : Inv X pins σ H s) : Inv X pins σ (upd (upd H s.heap.objs.size (.own (s.heap.objs.size + 1))) (s.heap.objs.size + 1) (.ins C s.heap.objs.size []))
    { s with heap := (s.heap.push PySem.W.emptyDict).push (PySem.W.instObj C s.heap.objs.size) } := by
  have e1 : (s.heap.push PySem.W.emptyDict).get? s.heap.objs.size = some PySem.W.emptyDict := Heap.get?_push_size s.heap rfl
  have e2 : ((s.heap.push PySem.W.emptyDict).push (PySem.W.instObj C s.heap.objs.size)).get? (s.heap.objs.size + 1) = some (PySem.W.instObj C s.heap.objs.size) := by
    have := Heap.get?_push_size (s.heap.push PySem.W.emptyDict) (o := PySem.W.instObj C s.heap.objs.size) rfl
    rwa [Heap.size_push] at this
  have e3 : (s.heap.push PySem.W.emptyDict).Ns s.heap.objs.size (fun _ => none) := ⟨PySem.W.emptyDict, #[], _, e1, rfl, (fun e he => absurd he (by simp)), fun _ => rfl⟩
  have I1 := I.laid (a := s.heap.objs.size) (o := .own (s.heap.objs.size + 1)) (h' := s.heap.push PySem.W.emptyDict) (t' := s.toks) (fun b u q => Heap.get?_push_of_some _ q) (Nat.le_refl _) ⟨_, e1⟩
  refine I1.laid (a := s.heap.objs.size + 1) (o := .ins C s.heap.objs.size []) (t' := s.toks) (fun b u q => Heap.get?_push_of_some _ q) (Nat.le_of_eq (Heap.size_push _ _)) ?_
  have ne : s.heap.objs.size ≠ s.heap.objs.size + 1 := Nat.ne_of_lt (Nat.lt_succ_self _)
  refine ⟨by rw [upd_ne ne, upd_same], Nat.zero_le _, ne, e2, fun _ => none, (Heap.Ns1.of_empty e3).at fun o q => Heap.get?_push_of_some _ q, fun _ => True.intro, fun y hy => absurd rfl hy⟩

/-- e.f where nothing but the object is asked: through attributeBase (super) and the last hold -/
theorem attr_of {prog : Program} {w : World} {env : Env} {e : Expr} {f : Str} {pos : Pos} {s : Shared} {Q : Value → Shared → Prop} (hb : attributeBase e f env (eval e env) = eval e env)
    (h : wpAny (model prog w) A (eval e env) (fun o s₁ => wpAny (model prog w) A (getAttr o f true) Q E s₁) E s) : wpAny (model prog w) A (eval (.Attribute e f pos) env) Q E s :=
  Attribute_any_ h (by rw [arm_eval_Attribute, hb])
end

/-! ### readings and rules -/
/-- e.f, an attribute of the instance -/
def tFld (K : PySem.W.Frag) (ta : TE) (f : Str) : TE := fun σ H Q => ta σ H fun x H1 => ∃ a C dx fs v, x = .ref a ∧ H1 a = some (.ins C dx fs) ∧ Cls K C ∧ NoAttr K C f ∧ fs.lookup f = some v ∧ Q v H1
/-- e.f, a constant of the class -/
def tCon (K : PySem.W.Frag) (ta : TE) (f : Str) : TE := fun σ H Q => ta σ H fun x H1 => ∃ a C dx fs v u, x = .ref a ∧ H1 a = some (.ins C dx fs) ∧ Cls K C ∧ Con K C f v u ∧ fs.lookup f = none ∧ Q v H1
/-- e.f = value -/
def sFld (K : PySem.W.Frag) (ta tv : TE) (f : Str) : TS := fun D σ H => tv σ H fun y H1 => ta σ H1 fun x H2 => ∃ a C dx fs, x = .ref a ∧ H2 a = some (.ins C dx fs) ∧ Cls K C ∧ NoAttr K C f ∧ fs.length < 1000 ∧
  D.nx σ (upd H2 a (.ins C dx (putF f y fs)))
/-- an augmented operator on two values -/
def InOp (X : Cx) (op : Operator) (rd : V → V → Hp → VK → Prop) : Prop :=
  ∀ (pins : List (Addr × Obj)) (s : Shared) (σ : St) (H : Hp) (x y : V) (u v : Value) (Q : VK), Inv X pins σ H s → RelV x u → RelV y v → rd x y H Q → wpAny (model X.prog X.w) X.A (inplaceOp op u v) (EP X pins σ Q) X.xe s
/-- e.f op= value -/
def sFldAug (K : PySem.W.Frag) (ta tv : TE) (rd : V → V → Hp → VK → Prop) (f : Str) : TS := fun D σ H => ta σ H fun x H1 => ∃ a C dx fs v, x = .ref a ∧ H1 a = some (.ins C dx fs) ∧ Cls K C ∧ NoAttr K C f ∧ fs.lookup f = some v ∧
  tv σ H1 fun y H2 => rd v y H2 fun z H3 => ∃ dx' fs', H3 a = some (.ins C dx' fs') ∧ fs'.length < 1000 ∧ D.nx σ (upd H3 a (.ins C dx' (putF f z fs')))

section
variable {X : Cx} {o e value : Expr} {f : Str} {pos pos' tpos : Pos} {ta tv : TE}
theorem pe_fld (he : PE X e ta) (hb : attributeBase e f X.env (eval e X.env) = eval e X.env) : PE X (.Attribute e f pos) (tFld X.K ta f) := by
  intro pins s σ H Q I h
  refine attr_of hb (thn (he pins s σ H _ I h) fun u s1 ⟨x, H1, I1, rx, a, C, dx, fs, v, ex, ea, c, n, l, q⟩ => ?_)
  subst ex
  obtain rfl : u = Value.ref a := rx
  exact getattr_ok I1 ea c n l fun u' s2 I2 ru => ⟨v, H1, I2, ru, q⟩
theorem pe_con (he : PE X e ta) (hb : attributeBase e f X.env (eval e X.env) = eval e X.env) : PE X (.Attribute e f pos) (tCon X.K ta f) := by
  intro pins s σ H Q I h
  refine attr_of hb (thn (he pins s σ H _ I h) fun u s1 ⟨x, H1, I1, rx, a, C, dx, fs, v, u0, ex, ea, c, k, l, q⟩ => ?_)
  subst ex
  obtain rfl : u = Value.ref a := rx
  exact getcon_ok I1 ea c k l fun s2 I2 => ⟨v, H1, I2, k.rel, q⟩
theorem ps_fld (ha : PE X o ta) (hv : PE X value tv) (hs : swapsWith value (some (.Attribute o f pos')) pos.line X.env = pure false) : PS X (.Assign [.Attribute o f pos'] value pos) (sFld X.K ta tv f) := by
  intro pins s σ H D I h
  refine plainObj_wpAny_Assign_Attribute (thn (hv pins s σ H _ I h) fun u s1 ⟨y, H1, I1, ry, q⟩ => thn (ha pins s1 σ H1 _ I1 q) fun ov s2 ⟨x, H2, I2, rx, a, C, dx, fs, ex, ea, c, n, l, q2⟩ => ?_) hs
  subst ex
  obtain rfl : ov = Value.ref a := rx
  exact setattr_ok I2 ea c n l ry fun s3 I3 => ⟨σ, _, I3, q2⟩
theorem ps_fldaug {op : Operator} {rd : V → V → Hp → VK → Prop} (ha : PE X o ta) (hv : PE X value tv) (hop : InOp X op rd) : PS X (.AugAssign (.Attribute o f tpos) op value pos) (sFldAug X.K ta tv rd f) := by
  intro pins s σ H D I h
  refine wpAny_AugAssign_AttributeAny (thn (ha pins s σ H _ I h) fun ov s1 ⟨x, H1, I1, rx, a, C, dx, fs, v, ex, ea, c, n, l, q⟩ => ?_)
  subst ex
  obtain rfl : ov = Value.ref a := rx
  refine getattr_ok I1 ea c n l fun u s2 I2 ru => thn (hv pins s2 σ H1 _ I2 q) fun w3 s3 ⟨y, H2, I3, ry, q3⟩ => thn (hop pins s3 σ H2 v y u w3 _ I3 ru ry q3) fun w4 s4 ⟨z, H3, I4, rz, dx', fs', ea', l', q4⟩ => ?_
  exact setattr_ok I4 ea' c n l' rz fun s5 I5 => ⟨σ, _, I5, q4⟩
def rAdd : V → V → Hp → VK → Prop := fun x y H Q => ∃ i j, x = .int i ∧ y = .int j ∧ Q (.int (i + j)) H
def rSub : V → V → Hp → VK → Prop := fun x y H Q => ∃ i j, x = .int i ∧ y = .int j ∧ Q (.int (i - j)) H
theorem in_add : InOp X .Add rAdd := by
  rintro pins s σ H x y u v Q I rx ry ⟨i, j, rfl, rfl, q⟩
  obtain ⟨t, rfl⟩ := (show ∃ t, u = Value.int i t from rx)
  obtain ⟨t', rfl⟩ := (show ∃ t', v = Value.int j t' from ry)
  exact PyProof.Rows.iadd_int ⟨.int (i + j), H, I.tok _, ⟨_, rfl⟩, q⟩
theorem in_sub : InOp X .Sub rSub := by
  rintro pins s σ H x y u v Q I rx ry ⟨i, j, rfl, rfl, q⟩
  obtain ⟨t, rfl⟩ := (show ∃ t, u = Value.int i t from rx)
  obtain ⟨t', rfl⟩ := (show ∃ t', v = Value.int j t' from ry)
  exact PyProof.Rows.isub_int ⟨.int (i - j), H, I.tok _, ⟨_, rfl⟩, q⟩

/-- what is between an instance and its method: the tree of a method call -/
theorem methcall_of {pl : Sem Bool} {m : Str} {apos : Pos} {args : List Expr} {pins : List (Addr × Obj)} {s : Shared} {σ : St} {H : Hp} {Q : Value → Shared → Prop} {te : TE} (he : PE X e te) (I : Inv X pins σ H s)
    (h : te σ H fun x H1 => ∃ a C dx fs g, x = .ref a ∧ H1 a = some (.ins C dx fs) ∧ Cls X.K C ∧ Meth X.K C m g ∧ fs.lookup m = none ∧
      ∀ s1, Inv X pins σ H1 s1 → wpAny (model X.prog X.w) X.A (callWith pos (.ref g) [.ref a] (backTo pos (starEach args X.env)) (backToKw pos (keywordEach [] X.env))) Q X.xe s1)
    (ht : eval (.Call (.Attribute e m apos) args [] pos) X.env = (do
      let ov ← eval e X.env
      standAt apos.atName
      let (f, first) ← holding [ov] (getMethod ov m pl)
      callWith pos f first (backTo pos (starEach args X.env)) (backToKw pos (keywordEach [] X.env)))) :
    wpAny (model X.prog X.w) X.A (eval (.Call (.Attribute e m apos) args [] pos) X.env) Q X.xe s := by
  refine PySem.W.methodCall_KW (pl := pl) (thn (he pins s σ H _ I h) fun u s1 ⟨x, H1, I1, rx, a, C, dx, fs, g, ex, ea, c, k, l, q⟩ => ?_) ht
  subst ex
  obtain rfl : u = Value.ref a := rx
  exact getmeth_ok I1 ea c k l (q s1 I1)
end

/-! ### isinstance -/
section
variable {X : Cx} {pins : List (Addr × Obj)} {σ : St} {H : Hp} {s : Shared} {A : Around} {E : Value → Shared → Prop} {Q : Value → Shared → Prop} {c : Value} {b : Bool}
/-- the type of a value, as the fragment's deciders take it; for an instance its class -/
inductive TyOf (K : PySem.W.Frag) (H : Hp) : V → Value → Prop where
  | non : TyOf K H .non (.type "NoneType")
  | bl (x : Bool) : TyOf K H (.bl x) (.type "bool")
  | int (i : Int) : TyOf K H (.int i) (.type "int")
  | str (x : Str) : TyOf K H (.str x) (.type "str")
  | flt (x : UInt64) : TyOf K H (.flt x) (.type "float")
  | lst {a : Addr} {xs : List V} (e : H a = some (.lst xs)) : TyOf K H (.ref a) (.type "list")
  | frz {a : Addr} {o : Obj} {xs : List V} (e : H a = some (.frz o (.lst xs))) : TyOf K H (.ref a) (.type "list")
  | tup {a : Addr} {xs : List V} (e : H a = some (.tup xs)) : TyOf K H (.ref a) (.type "tuple")
  | dK {a : Addr} {kvs : List (Key × V)} (e : H a = some (.dK kvs)) : TyOf K H (.ref a) (.type "dict")
  | dT {a : Addr} {kvs : List (List Key × V)} (e : H a = some (.dT kvs)) : TyOf K H (.ref a) (.type "dict")
  | ins {a C dx : Addr} {fs : List (Str × V)} (e : H a = some (.ins C dx fs)) (cl : Cls K C) (ha : PySem.W.findIn K (.ref C) "__class__" = some (some (.builtin "object.__class__")))
      (hn : PySem.W.specialIn K (.builtin "object.__class__") "__get__" = some (some (.builtin "getset_descriptor.__get__"))) (htk : PySem.W.takesIn K (.builtin "object.__class__") = some true)
      (hm : PySem.W.mroIn K C (.type "object") = some true) : TyOf K H (.ref a) (.ref C)
/-- isinstance(x, c) for one class c, a built-in or an own one: kitOne's answer -/
theorem isinst_ok {x : V} {u t : Value} (I : Inv X pins σ H s) (rx : RelV x u) (ty : TyOf X.K H x t) (e : PySem.W.kitOne X.K t c = some b) (h : ∀ tk, Q (.bool b) { s with toks := tk }) :
    wpAny (model X.prog X.w) A (call (.builtin "isinstance") [u, c]) Q E s := by
  cases ty with
  | non => cases (show u = Value.none from rx); exact PySem.W.kia_one PySem.W.kitx_none I.kIn True.intro e (fun z => nomatch z) h
  | bl y => cases (show u = Value.bool y from rx); exact PySem.W.kia_one PySem.W.kitx_bool I.kIn True.intro e (fun z => nomatch z) h
  | int i => obtain ⟨t, q⟩ := (show ∃ t, u = Value.int i t from rx); cases q; exact PySem.W.kia_one PySem.W.kitx_int I.kIn True.intro e (fun z => nomatch z) h
  | str y => obtain ⟨t, q⟩ := (show ∃ t, u = Value.str y t from rx); cases q; exact PySem.W.kia_one PySem.W.kitx_str I.kIn True.intro e (fun z => nomatch z) h
  | flt y => obtain ⟨t, q⟩ := (show ∃ t, u = Value.float y t from rx); cases q; exact PySem.W.kia_one PySem.W.kitx_float I.kIn True.intro e (fun z => nomatch z) h
  | @lst a xs ea =>
    cases (show u = Value.ref a from rx)
    obtain ⟨_, _, n, _, h1⟩ := (show ObjOk X.prog X.w H s.heap a (.lst xs) from I.hok a _ ea)
    exact PySem.W.kia_one PySem.W.kitx_list I.kIn ⟨_, h1, rfl⟩ e (fun z => nomatch z) h
  | @frz a ob xs ea =>
    cases (show u = Value.ref a from rx)
    obtain ⟨_, _, _, n, _, h1⟩ := (show ObjOk X.prog X.w H s.heap a (.frz ob (.lst xs)) from I.hok a _ ea)
    exact PySem.W.kia_one PySem.W.kitx_list I.kIn ⟨_, h1, rfl⟩ e (fun z => nomatch z) h
  | @tup a xs ea =>
    cases (show u = Value.ref a from rx)
    obtain ⟨_, _, _, p⟩ := (show ObjOk X.prog X.w H s.heap a (.tup xs) from I.hok a _ ea)
    obtain ⟨o, h1, h2, _⟩ := p
    exact PySem.W.kia_one PySem.W.kitx_tuple I.kIn ⟨o, h1, h2⟩ e (fun z => nomatch z) h
  | @dK a kvs ea =>
    cases (show u = Value.ref a from rx)
    obtain ⟨_, _, vs, _, p⟩ := (show ObjOk X.prog X.w H s.heap a (.dK kvs) from I.hok a _ ea)
    obtain ⟨o, es, ep, h1, h2, _⟩ := p
    exact PySem.W.kia_one PySem.W.kitx_dict I.kIn ⟨o, h1, h2.1⟩ e (fun z => nomatch z) h
  | @dT a kvs ea =>
    cases (show u = Value.ref a from rx)
    obtain ⟨_, _, xs, _, o, es, ep, h1, h2, _⟩ := (show ObjOk X.prog X.w H s.heap a (.dT kvs) from I.hok a _ ea)
    exact PySem.W.kia_one PySem.W.kitx_dict I.kIn ⟨o, h1, h2.1⟩ e (fun z => nomatch z) h
  | @ins a C dx fs ea cl ha hn htk hm =>
    cases (show u = Value.ref a from rx)
    obtain ⟨mA, O, _⟩ := ins_get I.hok ea
    obtain ⟨od, J, _⟩ := O.look
    exact PySem.W.kia_one (PySem.W.kitx_own (cl.get _) cl.hd ha hn htk hm) I.kIn J e (fun z => nomatch z) h
end
end L2

namespace L2
open PySem PySem.Spec PyProof.Rows

/-! ### room -/
structure Room (k : Nat) (A : Around) : Prop where
  hd : A.handled = none
  dp : A.depth + 3 * k + 5 < recursionLimit
  un : A.units + 16 * k + 200 < cLine
theorem Room.mono {j k : Nat} {A : Around} (r : Room k A) (h : j ≤ k) : Room j A := ⟨r.hd, by have := r.dp; omega, by have := r.un; omega⟩
theorem Room.deeper {k : Nat} {A : Around} (r : Room (k + 1) A) (env : Env) : Room k (A.deeper env) :=
  ⟨r.hd, by have := r.dp; show A.depth + 1 + 3 * k + 5 < _; omega, by have := r.un; show A.units + 3 + 16 * k + 200 < _; omega⟩
theorem Room.in1 {k : Nat} {A : Around} (r : Room (k + 1) A) : Room k A.in1 :=
  ⟨r.hd, by have := r.dp; show A.depth + 3 * k + 5 < _; omega, by have := r.un; show A.units + 1 + 16 * k + 200 < _; omega⟩
theorem make_depth {A : Around} {C : Addr} {us : List Value} {kw : List (Str × Value)} : (A.under (.builtin "type.__call__" ⟨.ref C :: us, kw⟩)).depth = A.depth + 1 := by
  first | rfl | simp [Around.under, Code.weight, Code.isCreation, Code.isGuard, Code.isCaller, Code.frames, Code.isFrame, guardIds]
theorem make_units {A : Around} {C : Addr} {us : List Value} {kw : List (Str × Value)} : (A.under (.builtin "type.__call__" ⟨.ref C :: us, kw⟩)).units = A.units + 1 := by
  first | rfl | simp [Around.under, Code.cUnits, Code.frames, Code.isFrame]
theorem Room.make {k : Nat} {A : Around} (r : Room (k + 1) A) (C : Addr) (us : List Value) (kw : List (Str × Value)) : Room k (A.under (.builtin "type.__call__" ⟨.ref C :: us, kw⟩)) :=
  ⟨r.hd, by have := r.dp; rw [make_depth]; omega, by have := r.un; rw [make_units]; omega⟩
theorem Room.depth {k : Nat} {A : Around} (r : Room k A) : A.depth < recursionLimit := by have := r.dp; omega
theorem Room.units {k : Nat} {A : Around} (r : Room k A) : A.units + 64 < cLine := by have := r.un; omega
theorem Room.units0 {k : Nat} {A : Around} (r : Room k A) : A.units < cLine := by have := r.un; omega

/-! ### argument lists and displays -/
def tNil : TA := fun _ H Q => Q [] H
def tCons (ta : TE) (tr : TA) : TA := fun σ H Q => ta σ H fun x H1 => tr σ H1 fun xs H2 => Q (x :: xs) H2
section
variable {X : Cx} {e : Expr} {es : List Expr} {te : TE} {t : TA} {pos : Pos}
theorem pa_nil : PA X [] tNil := fun _ _ _ _ H Q I h => Calls.spliced_nil ⟨[], H, I, .nil, h⟩
theorem pa_cons (ha : PE X e te) (hr : PA X es t) (hs : starEach (e :: es) X.env = (false, eval e X.env) :: starEach es X.env := by rfl) : PA X (e :: es) (tCons te t) := by
  intro pos pins s σ H Q I h
  rw [hs]
  show wpAny _ _ (spliced ((false, eval e X.env) :: backTo pos (starEach es X.env))) _ _ s
  refine Calls.spliced_cons (thn (ha pins s σ H _ I h) fun u s1 ⟨x, H1, I1, r1, q1⟩ => ?_)
  exact thn (hr pos pins s1 σ H1 _ I1 q1) fun us s2 ⟨xs, H2, I2, r2, q2⟩ => ⟨x :: xs, H2, I2, .cons r1 r2, q2⟩

/-- a tuple, a list of written items -/
def tTup (t : TA) : TE := fun σ H Q => t σ H fun xs H1 => xs.length ≤ sizeLine ∧ ∀ p, H1 p = none → Q (.ref p) (upd H1 p (.tup xs))
def tLst (t : TA) : TE := fun σ H Q => t σ H fun xs H1 => xs.length ≤ sizeLine ∧ ∀ p, H1 p = none → Q (.ref p) (upd H1 p (.lst xs))
theorem pe_tup {x1} (h : PA X es t) : PE X (.Tuple es x1 pos) (tTup t) := by
  intro pins s σ H Q I hq
  refine wpAny_Tuple_spliced (thn (h pos pins s σ H _ I hq) fun us s1 ⟨xs, H1, I1, r, z, q⟩ => ⟨by rw [← r.length]; exact z, ?_⟩)
  have hf : H1 s1.heap.objs.size = none := I1.hok.fresh (Nat.le_refl _)
  refine ⟨.ref s1.heap.objs.size, upd H1 s1.heap.objs.size (.tup xs), I1.laid (t' := s1.toks) (fun b u e => Heap.get?_push_of_some _ e) (Nat.le_refl _) ?_, rfl, q _ hf⟩
  exact ⟨z, us, r, ⟨_, Heap.get?_push_size _ rfl, rfl, _, rfl⟩⟩
theorem pe_lst (h : PA X es t) : PE X (.List es pos) (tLst t) := by
  intro pins s σ H Q I hq
  refine wpAny_List_spliced (thn (h pos pins s σ H _ I hq) fun us s1 ⟨xs, H1, I1, r, z, q⟩ => ⟨by rw [← r.length]; exact z, ?_⟩)
  have hf : H1 s1.heap.objs.size = none := I1.hok.fresh (Nat.le_refl _)
  refine ⟨.ref s1.heap.objs.size, upd H1 s1.heap.objs.size (.lst xs), I1.laid (t' := s1.toks) (fun b u e => Heap.get?_push_of_some _ e) (Nat.le_refl _) ?_, rfl, q _ hf⟩
  exact ⟨z, us, 0, r, Heap.get?_push_size _ rfl⟩
end

/-! ### what a def promises -/
/-- a def's promise: the bound arguments in the parameters' order, the heap, the wanted end, the wanted exception -/
abbrev Sp := List V → Hp → VK → XK → Prop
/-- how an exception lies behind a call (file 08 gives it): the callers' frames, abstract heap and state ahead of the call, the wish, the exception, the state -/
abbrev CXT := List Env → Hp → Shared → XK → Value → Shared → Prop

/-- the state at a call -/
structure Env0 (P : Program) (w : World) (K : PySem.W.Frag) (mg : Str → Option Value) (base : Heap) (A : Around) (outer : List Env) (s : Shared) (H : Hp) : Prop where
  frames : A.frames = some outer
  mod : Mod K mg base
  bs : ∀ b o, base.get? b = some o → s.heap.get? b = some o ∧ H b = none
  bsz : base.objs.size ≤ s.heap.objs.size
  funs : s.heap.FunFrames base outer
  frf : ∀ b ∈ frs outer, H b = none
  hok : HOk P w H s.heap
  bare : AllBare s.gens
/-- a call's end -/
def CE (outer : List Env) (P : Program) (w : World) (H : Hp) (s : Shared) (Q : VK) (u : Value) (s' : Shared) : Prop :=
  ∃ v H', s'.os = s.os ∧ AllBare s'.gens ∧ Un (frs outer) [] H H' s.heap s'.heap ∧ HOk P w H' s'.heap ∧ RelV v u ∧ Q v H'
def CR (CX : CXT) (outer : List Env) (P : Program) (w : World) (H : Hp) (s : Shared) (Q : VK) (E : XK) (r : Result) (s' : Shared) : Prop :=
  match r with
  | .ok (.ret u) => CE outer P w H s Q u s'
  | .ok _ => False
  | .error e => CX outer H s E e s'
structure FnOk (P : Program) (w : World) (K : PySem.W.Frag) (mg : Str → Option Value) (base : Heap) (CX : CXT) (k : Nat) (f : Addr) (fd : FuncData) (ps : List Str) (sp : Sp) : Prop where
  len : ∀ vs H Q E, sp vs H Q E → vs.length = ps.length
  run : ∀ (A : Around) (outer : List Env) (s : Shared) (H : Hp) (args : Args) (us : List Value) (vs : List V) (Q : VK) (E : XK), Room k A → Env0 P w K mg base A outer s H → BindsTo s fd args (ps.zip us) → Vals vs us → sp vs H Q E →
    codeAny (model P w) A (.call (.ref f) args) (CR CX outer P w H s Q E) s
theorem FnOk.mono {P : Program} {w : World} {K : PySem.W.Frag} {mg : Str → Option Value} {base : Heap} {CX : CXT} {j k : Nat} {f : Addr} {fd : FuncData} {ps : List Str} {sp : Sp} (F : FnOk P w K mg base CX j f fd ps sp) (h : j ≤ k) :
    FnOk P w K mg base CX k f fd ps sp := ⟨F.len, fun A outer s H args us vs Q E hr => F.run A outer s H args us vs Q E (hr.mono h)⟩
/-- a weaker promise -/
theorem FnOk.imp {P : Program} {w : World} {K : PySem.W.Frag} {mg : Str → Option Value} {base : Heap} {CX : CXT} {k : Nat} {f : Addr} {fd : FuncData} {ps : List Str} {sp sp' : Sp} (F : FnOk P w K mg base CX k f fd ps sp)
    (h : ∀ vs H Q E, sp' vs H Q E → sp vs H Q E) : FnOk P w K mg base CX k f fd ps sp' :=
  ⟨fun vs H Q E q => F.len vs H Q E (h _ _ _ _ q), fun A outer s H args us vs Q E hr he hb hv hs => F.run A outer s H args us vs Q E hr he hb hv (h _ _ _ _ hs)⟩

theorem Env0.make {P : Program} {w : World} {K : PySem.W.Frag} {mg : Str → Option Value} {base : Heap} {A : Around} {outer : List Env} {s : Shared} {H : Hp} (e : Env0 P w K mg base A outer s H) (C : Addr) (us : List Value) (kw : List (Str × Value)) :
    Env0 P w K mg base (A.under (.builtin "type.__call__" ⟨.ref C :: us, kw⟩)) outer s H := ⟨by first | exact e.frames | (simpa [Around.under, Code.envs, Code.isFrame, pushEnvs] using e.frames), e.mod, e.bs, e.bsz, e.funs, e.frf, e.hok, e.bare⟩
theorem Env0.in1 {P : Program} {w : World} {K : PySem.W.Frag} {mg : Str → Option Value} {base : Heap} {A : Around} {outer : List Env} {s : Shared} {H : Hp} (e : Env0 P w K mg base A outer s H) :
    Env0 P w K mg base A.in1 outer s H := ⟨e.frames, e.mod, e.bs, e.bsz, e.funs, e.frf, e.hok, e.bare⟩

section
variable {X : Cx} {pins : List (Addr × Obj)} {σ : St} {H : Hp} {s s' : Shared}
/-- from a body: what a callee wants -/
theorem Inv.env0 (I : Inv X pins σ H s) : Env0 X.prog X.w X.K X.mg X.base X.A X.stack s H :=
  ⟨I.ok.frames, I.ok.mod, I.bs, Nat.le_trans I.ok.bsz I.sz, I.stack, I.stkFree, I.hok, I.bare⟩
/-- behind a call -/
theorem Inv.after {Q : VK} {u : Value} (I : Inv X pins σ H s) (h : CE X.stack X.prog X.w H s Q u s') : EP X pins σ Q u s' := by
  obtain ⟨v, H', os, bare, un, hok, r, q⟩ := h
  obtain ⟨hh, g, d, t, os'⟩ := s'
  obtain rfl : os' = s.os := os
  exact ⟨v, H', I.call (h' := hh) (g' := g) (d' := d) (t' := t) (ch := []) un hok bare (fun b z => absurd z (by simp)), r, q⟩
end

/-! ### calls -/
/-- f(..): the written arguments, then the defaults dvs; E: what is wanted of an exception -/
def tCall (sp : Sp) (dvs : List V) (E : XK) (t : TA) : TE := fun σ H Q => t σ H fun vs H1 => sp (vs ++ dvs) H1 Q E
/-- o.m(..) of an instance of the class at C -/
def tMeth (C : Addr) (m : Str) (sp : Sp) (dvs : List V) (E : XK) (ta : TE) (t : TA) : TE := fun σ H Q => ta σ H fun x H1 => ∃ a dx fs, x = .ref a ∧ H1 a = some (.ins C dx fs) ∧ fs.lookup m = none ∧
  t σ H1 fun vs H2 => sp (x :: (vs ++ dvs)) H2 Q E
/-- C(..): a new instance and its dict, then __init__ -/
def tMake (C : Addr) (sp : Sp) (dvs : List V) (E : XK) (t : TA) : TE := fun σ H Q => t σ H fun vs H1 => ∀ x dx, H1 x = none → H1 dx = none → dx ≠ x →
  sp (.ref x :: (vs ++ dvs)) (upd (upd H1 dx (.own x)) x (.ins C dx [])) (fun v H2 => v = .non ∧ Q (.ref x) H2) E

/-- how the parameters are bound: us the positional arguments, kw the keywords' values by name, ds the defaults that fill up -/
def Binds (K : PySem.W.Frag) (fd : FuncData) (ps : List Str) (ds : List Value) : Prop :=
  ∀ (s : Shared) (us : List Value), K.In s.heap → (us ++ ds).length = ps.length → BindsTo s fd ⟨us, []⟩ (ps.zip (us ++ ds))
/-- every parameter is given -/
theorem Binds.all {K : PySem.W.Frag} {fd : FuncData} {ps : List Str} (h : ∀ us : List Value, us.length = ps.length → bindArgs fd ⟨us, []⟩ = pure (ps.zip us)) : Binds K fd ps [] := fun s us _ hl => by
  rw [List.append_nil] at hl ⊢
  exact .of_eq (h us hl)

/-- an exception of a callee reaches what this body wants of exceptions -/
def Passes (CX : CXT) (X : Cx) (E : XK) : Prop := ∀ (pins : List (Addr × Obj)) (σ : St) (H : Hp) (s : Shared) (e : Value) (s' : Shared), Inv X pins σ H s → CX X.stack H s E e s' → X.xe e s'

section
variable {X : Cx} {CX : CXT} {k : Nat} {f C : Addr} {fd : FuncData} {ps : List Str} {sp : Sp} {dvs : List V} {ds : List Value} {E : XK} {x m : Str} {p pos apos : Pos} {e o : Expr} {es : List Expr} {ta : TE} {t : TA}

/-- the callee runs -/
theorem run_fn {pins : List (Addr × Obj)} {σ : St} {H : Hp} {s : Shared} {Q : VK} {us : List Value} {vs : List V} (F : FnOk X.prog X.w X.K X.mg X.base CX k f fd ps sp) (hr : Room k X.A) (hb : Binds X.K fd ps ds) (hd : Vals dvs ds) (hx : Passes CX X E)
    (I : Inv X pins σ H s) (r : Vals vs us) (h : sp (vs ++ dvs) H Q E) : wpAny (model X.prog X.w) X.A (call (.ref f) us) (EP X pins σ Q) X.xe s := by
  have r2 : Vals (vs ++ dvs) (us ++ ds) := r.append hd
  have hl : (us ++ ds).length = ps.length := by rw [← r2.length]; exact F.len _ _ _ _ h
  refine wpAny_call (codeAny_mono (F.run X.A X.stack s H ⟨us, []⟩ (us ++ ds) (vs ++ dvs) Q E hr I.env0 (hb s us I.kIn hl) r2 h) fun r s' hq => ?_)
  cases r with
  | error e => exact hx pins σ H s e s' I hq
  | ok fl =>
    cases fl with
    | ret u => exact I.after hq
    | next => exact False.elim hq
    | brk => exact False.elim hq
    | cont => exact False.elim hq

theorem pe_call (F : FnOk X.prog X.w X.K X.mg X.base CX k f fd ps sp) (hr : Room k X.A) (hg : Gl X x) (hm : X.mg x = some (.ref f)) (hk : PySem.W.keepIn X.K (.ref f) = true) (hb : Binds X.K fd ps ds) (hd : Vals dvs ds) (hx : Passes CX X E)
    (ha : PA X (e :: es) t) (hdb : (x == ("__debug__" : Str)) = false := by decide) (he : starEach (e :: es) X.env = (false, eval e X.env) :: starEach es X.env := by rfl) (hpl : (backTo pos (starEach es X.env)).any (·.1) = false := by rfl) :
    PE X (.Call (.Name x p) (e :: es) [] pos) (tCall sp dvs E t) := by
  intro pins s σ H Q I h
  refine wpAny_Call_Name_kw (ld_glob I hg hm ?_ hdb)
  refine PySem.W.callWith_K (h₀ := X.base) I.ok.mod.kin hk (thn (ha pos pins s σ H _ I h) fun us s1 ⟨vs, H1, I1, r, q⟩ => ⟨I1.kIn, ?_⟩) he hpl
  exact run_fn F hr hb hd hx I1 r q
theorem pe_call0 (F : FnOk X.prog X.w X.K X.mg X.base CX k f fd ps sp) (hr : Room k X.A) (hg : Gl X x) (hm : X.mg x = some (.ref f)) (hk : PySem.W.keepIn X.K (.ref f) = true) (hb : Binds X.K fd ps ds) (hd : Vals dvs ds) (hx : Passes CX X E)
    (hdb : (x == ("__debug__" : Str)) = false := by decide) : PE X (.Call (.Name x p) [] [] pos) (tCall sp dvs E tNil) := by
  intro pins s σ H Q I h
  refine wpAny_Call_Name_kw (ld_glob I hg hm ?_ hdb)
  exact PySem.W.callWith_K0 I.kIn hk (run_fn (us := []) F hr hb hd hx I .nil h)

/-- o.m(e, ..) -/
theorem pe_meth {pl : Sem Bool} (he : PE X o ta) (c : Cls X.K C) (hm : Meth X.K C m f) (F : FnOk X.prog X.w X.K X.mg X.base CX k f fd ps sp) (hr : Room k X.A) (hb : Binds X.K fd ps ds) (hd : Vals dvs ds) (hx : Passes CX X E) (ha : PA X (e :: es) t)
    (hst : starEach (e :: es) X.env = (false, eval e X.env) :: starEach es X.env := by rfl) (hpl : (backTo pos (starEach es X.env)).any (·.1) = false := by rfl)
    (ht : eval (.Call (.Attribute o m apos) (e :: es) [] pos) X.env = (do
      let ov ← eval o X.env
      standAt apos.atName
      let (f, first) ← holding [ov] (getMethod ov m pl)
      callWith pos f first (backTo pos (starEach (e :: es) X.env)) (backToKw pos (keywordEach [] X.env))) := by rfl) :
    PE X (.Call (.Attribute o m apos) (e :: es) [] pos) (tMeth C m sp dvs E ta t) := by
  intro pins s σ H Q I h
  refine PySem.W.methodCall_KW (pl := pl) (thn (he pins s σ H _ I h) fun u s1 ⟨x, H1, I1, rx, a, dx, fs, ex, ea, l, q⟩ => ?_) ht
  subst ex
  obtain rfl : u = Value.ref a := rx
  refine getmeth_ok I1 ea c hm l ?_
  refine PySem.W.callWith_K (first := [.ref a]) (h₀ := X.base) I.ok.mod.kin hm.kp (thn (ha pos pins s1 σ H1 _ I1 q) fun us s2 ⟨vs, H2, I2, r, q2⟩ => ⟨I2.kIn, ?_⟩) hst hpl
  exact run_fn (us := .ref a :: us) (vs := .ref a :: vs) F hr hb hd hx I2 (.cons rfl r) q2
/-- o.m() -/
theorem pe_meth0 {pl : Sem Bool} (he : PE X o ta) (c : Cls X.K C) (hm : Meth X.K C m f) (F : FnOk X.prog X.w X.K X.mg X.base CX k f fd ps sp) (hr : Room k X.A) (hb : Binds X.K fd ps ds) (hd : Vals dvs ds) (hx : Passes CX X E)
    (ht : eval (.Call (.Attribute o m apos) [] [] pos) X.env = (do
      let ov ← eval o X.env
      standAt apos.atName
      let (f, first) ← holding [ov] (getMethod ov m pl)
      callWith pos f first (backTo pos (starEach [] X.env)) (backToKw pos (keywordEach [] X.env))) := by rfl) :
    PE X (.Call (.Attribute o m apos) [] [] pos) (tMeth C m sp dvs E ta tNil) := by
  intro pins s σ H Q I h
  refine PySem.W.methodCall_KW (pl := pl) (thn (he pins s σ H _ I h) fun u s1 ⟨x, H1, I1, rx, a, dx, fs, ex, ea, l, q⟩ => ?_) ht
  subst ex
  obtain rfl : u = Value.ref a := rx
  refine getmeth_ok I1 ea c hm l ?_
  exact PySem.W.callWith_K0 (first := [.ref a]) I1.kIn hm.kp (run_fn (us := [.ref a]) (vs := [.ref a]) F hr hb hd hx I1 (.cons rfl .nil) q)

/-- what a class must have to be made -/
structure Mk (K : PySem.W.Frag) (C f : Addr) : Prop where
  makes : PySem.W.makesIn K C = true
  init : PySem.W.findIn K (.ref C) "__init__" = some (some (.ref f))
  fn : PySem.W.isFn K (.ref f) = true
  kp : PySem.W.keepIn K (.ref C) = true

theorem run_make {pins : List (Addr × Obj)} {σ : St} {H : Hp} {s : Shared} {Q : VK} {us : List Value} {vs : List V} (M : Mk X.K C f) (F : FnOk X.prog X.w X.K X.mg X.base CX k f fd ps sp) (hr : Room (k + 1) X.A) (hb : Binds X.K fd ps ds) (hd : Vals dvs ds)
    (hx : Passes CX X E) (I : Inv X pins σ H s) (r : Vals vs us)
    (h : ∀ x dx, H x = none → H dx = none → dx ≠ x → sp (.ref x :: (vs ++ dvs)) (upd (upd H dx (.own x)) x (.ins C dx [])) (fun v H2 => v = .non ∧ Q (.ref x) H2) E) :
    wpAny (model X.prog X.w) X.A (call (.ref C) us) (EP X pins σ Q) X.xe s := by
  have hq := h (s.heap.objs.size + 1) s.heap.objs.size (I.hok.fresh (Nat.le_succ _)) (I.hok.fresh (Nat.le_refl _)) (Nat.ne_of_lt (Nat.lt_succ_self _))
  have I2 := Inv.made (C := C) I
  have r2 : Vals (V.ref (s.heap.objs.size + 1) :: (vs ++ dvs)) (Value.ref (s.heap.objs.size + 1) :: (us ++ ds)) := .cons rfl (r.append hd)
  have hl : (Value.ref (s.heap.objs.size + 1) :: us ++ ds).length = ps.length := by
    have e := r2.length
    rw [F.len _ _ _ _ hq] at e
    exact e.symm
  refine wpAny_call (make_map (f := f) I.kIn M.makes M.init (beq_iff_eq.mp M.fn) (codeAny_mono (F.run _ X.stack _ _ ⟨Value.ref (s.heap.objs.size + 1) :: us, []⟩ (Value.ref (s.heap.objs.size + 1) :: (us ++ ds)) _ _ E (hr.make C us [])
    (I2.env0.make C us []) (hb _ (Value.ref (s.heap.objs.size + 1) :: us) I2.kIn hl) r2 hq) fun r s' hq' => ?_))
  cases r with
  | error e => exact hx pins σ _ _ e s' I2 hq'
  | ok fl =>
    cases fl with
    | ret u =>
      obtain ⟨v, H', I3, rv, ev, q3⟩ := I2.after hq'
      subst ev
      exact ⟨rv, ⟨V.ref (s.heap.objs.size + 1), H', I3, rfl, q3⟩⟩
    | next => exact False.elim hq'
    | brk => exact False.elim hq'
    | cont => exact False.elim hq'
theorem pe_make (M : Mk X.K C f) (F : FnOk X.prog X.w X.K X.mg X.base CX k f fd ps sp) (hr : Room (k + 1) X.A) (hg : Gl X x) (hm : X.mg x = some (.ref C)) (hb : Binds X.K fd ps ds) (hd : Vals dvs ds) (hx : Passes CX X E)
    (ha : PA X (e :: es) t) (hdb : (x == ("__debug__" : Str)) = false := by decide) (he : starEach (e :: es) X.env = (false, eval e X.env) :: starEach es X.env := by rfl) (hpl : (backTo pos (starEach es X.env)).any (·.1) = false := by rfl) :
    PE X (.Call (.Name x p) (e :: es) [] pos) (tMake C sp dvs E t) := by
  intro pins s σ H Q I h
  refine wpAny_Call_Name_kw (ld_glob I hg hm ?_ hdb)
  refine PySem.W.callWith_K (h₀ := X.base) I.ok.mod.kin M.kp (thn (ha pos pins s σ H _ I h) fun us s1 ⟨vs, H1, I1, r, q⟩ => ⟨I1.kIn, ?_⟩) he hpl
  exact run_make M F hr hb hd hx I1 r q
theorem pe_make0 (M : Mk X.K C f) (F : FnOk X.prog X.w X.K X.mg X.base CX k f fd ps sp) (hr : Room (k + 1) X.A) (hg : Gl X x) (hm : X.mg x = some (.ref C)) (hb : Binds X.K fd ps ds) (hd : Vals dvs ds) (hx : Passes CX X E)
    (hdb : (x == ("__debug__" : Str)) = false := by decide) : PE X (.Call (.Name x p) [] [] pos) (tMake C sp dvs E tNil) := by
  intro pins s σ H Q I h
  refine wpAny_Call_Name_kw (ld_glob I hg hm ?_ hdb)
  exact PySem.W.callWith_K0 I.kIn M.kp (run_make (us := []) M F hr hb hd hx I .nil h)
end

/-! ### keywords -/
/-- the values of the keywords, from the left -/
def PK (X : Cx) (kws : List Keyword) (t : TA) : Prop :=
  ∀ (pos : Pos) (pins : List (Addr × Obj)) (s : Shared) (σ : St) (H : Hp) (Q : List V → Hp → Prop), Inv X pins σ H s → t σ H Q → wpAny (model X.prog X.w) X.A (evalAll ((backToKw pos (keywordEach kws X.env)).map (·.2))) (AP X pins σ Q) X.xe s
section
variable {X : Cx} {CX : CXT} {k : Nat} {f C : Addr} {fd : FuncData} {ps ks : List Str} {sp : Sp} {E : XK} {x m : Str} {p pos apos kpos : Pos} {e o : Expr} {es : List Expr} {kws : List Keyword} {te ta : TE} {t tk : TA} {nm : Option Str}
theorem pk_nil : PK X [] tNil := fun _ _ _ _ H Q I h => wpAny_evalAll_nil ⟨[], H, I, .nil, h⟩
theorem pk_cons (ha : PE X e te) (hr : PK X kws t) : PK X (⟨nm, e, kpos⟩ :: kws) (tCons te t) := by
  intro pos pins s σ H Q I h
  show wpAny _ _ (evalAll ((do let v ← eval e X.env; standAt pos; pure v) :: (backToKw pos (keywordEach kws X.env)).map (·.2))) _ _ s
  refine wpAny_evalAll_cons (wpAny_bind (thn (ha pins s σ H _ I h) fun u s1 ⟨x, H1, I1, r1, q1⟩ => wpAny_bind (wpAny_standAt (wpAny_pure ?_))))
  exact thn (hr pos pins s1 σ H1 _ I1 q1) fun us s2 ⟨xs, H2, I2, r2, q2⟩ => ⟨x :: xs, H2, I2, .cons r1 r2, q2⟩

/-- how a call with keywords binds: g puts the positional values us and the keywords' values ws (names ks) in the parameters' order, defaults among them -/
structure KBinds (K : PySem.W.Frag) (fd : FuncData) (ps ks : List Str) (g : List Value → List Value → List Value) (gV : List V → List V → List V) : Prop where
  to : ∀ (s : Shared) (us ws : List Value), K.In s.heap → (g us ws).length = ps.length → BindsTo s fd ⟨us, ks.zip ws⟩ (ps.zip (g us ws))
  rel : ∀ {vs : List V} {us : List Value} {zs : List V} {ws : List Value}, Vals vs us → Vals zs ws → Vals (gV vs zs) (g us ws)
def tCallK (sp : Sp) (gV : List V → List V → List V) (E : XK) (t tk : TA) : TE := fun σ H Q => t σ H fun vs H1 => tk σ H1 fun zs H2 => sp (gV vs zs) H2 Q E
variable {g : List Value → List Value → List Value} {gV : List V → List V → List V}
theorem run_fnk {pins : List (Addr × Obj)} {σ : St} {H : Hp} {s : Shared} {Q : VK} {us ws : List Value} {vs zs : List V} (F : FnOk X.prog X.w X.K X.mg X.base CX k f fd ps sp) (hr : Room k X.A) (hb : KBinds X.K fd ps ks g gV) (hx : Passes CX X E)
    (I : Inv X pins σ H s) (r : Vals vs us) (rz : Vals zs ws) (h : sp (gV vs zs) H Q E) : wpAny (model X.prog X.w) X.A (call (.ref f) us (ks.zip ws)) (EP X pins σ Q) X.xe s := by
  have r2 := hb.rel r rz
  have hl : (g us ws).length = ps.length := by rw [← r2.length]; exact F.len _ _ _ _ h
  refine wpAny_call (codeAny_mono (F.run X.A X.stack s H ⟨us, ks.zip ws⟩ (g us ws) (gV vs zs) Q E hr I.env0 (hb.to s us ws I.kIn hl) r2 h) fun r s' hq => ?_)
  cases r with
  | error e => exact hx pins σ H s e s' I hq
  | ok fl =>
    cases fl with
    | ret u => exact I.after hq
    | next => exact False.elim hq
    | brk => exact False.elim hq
    | cont => exact False.elim hq
/-- f(e, .., k = v, ..) -/
theorem pe_callK (F : FnOk X.prog X.w X.K X.mg X.base CX k f fd ps sp) (hr : Room k X.A) (hg : Gl X x) (hm : X.mg x = some (.ref f)) (hk : PySem.W.keepIn X.K (.ref f) = true) (hb : KBinds X.K fd ps ks g gV) (hx : Passes CX X E)
    (ha : PA X (e :: es) t) (hkw : PK X kws tk) (hall : (backToKw pos (keywordEach kws X.env)).all (·.1.isSome) = true := by rfl) (hks : (backToKw pos (keywordEach kws X.env)).filterMap (·.1) = ks := by rfl)
    (hdb : (x == ("__debug__" : Str)) = false := by decide) (he : starEach (e :: es) X.env = (false, eval e X.env) :: starEach es X.env := by rfl)
    (hpl : ((backTo pos (starEach (e :: es) X.env)).any (·.1) || (backToKw pos (keywordEach kws X.env)).any (·.1.isNone)) = false := by rfl) :
    PE X (.Call (.Name x p) (e :: es) kws pos) (tCallK sp gV E t tk) := by
  intro pins s σ H Q I h
  refine wpAny_Call_Name_kw (ld_glob I hg hm ?_ hdb)
  refine PySem.W.callWith_KW (h₀ := X.base) I.ok.mod.kin hk hall (thn (ha pos pins s σ H _ I h) fun us s1 ⟨vs, H1, I1, r, q⟩ => ?_) hpl he
  refine thn (hkw pos pins s1 σ H1 _ I1 q) fun ws s2 ⟨zs, H2, I2, rz, q2⟩ => ⟨I2.kIn, ?_⟩
  rw [hks]
  exact run_fnk F hr hb hx I2 r rz q2
end

/-! ### a def's body keeps its promise -/
/-- names: the parameters first -/
structure FnScope (N P : List Str) (sc : Scope) : Prop where
  kind : sc.kind = .function
  co : sc.isCoroutine = false
  gen : sc.isGenerator = false
  nd : N.Nodup
  pre : N.take P.length = P
  par : ∀ x ∈ P, sc.names.lookup x = some .local ∨ sc.names.lookup x = some .cell
  nofree : ∀ y ∈ sc.names, y.2 ≠ .free

theorem bindL_out {kindOf : Str → Option NameKind} {x : Str} : ∀ {binds : List (Str × Value)} {m : Str → Option Value}, (∀ v, (x, v) ∉ binds) → bindL kindOf binds m x = m x
  | [], _, _ => rfl
  | (n, v) :: r, m, h => by
    unfold bindL
    rw [bindL_out fun w hw => h w (List.mem_cons_of_mem _ hw)]
    split
    · have : x ≠ n := by rintro rfl; exact h v List.mem_cons_self
      simp [this]
    · rfl
theorem bindC_out {kindOf : Str → Option NameKind} {x : Str} : ∀ {binds : List (Str × Value)} {m : Str → Option Value}, (∀ v, (x, v) ∉ binds) → bindC kindOf binds m x = m x
  | [], _, _ => rfl
  | (n, v) :: r, m, h => by
    unfold bindC
    rw [bindC_out fun w hw => h w (List.mem_cons_of_mem _ hw)]
    split
    · rfl
    · have : x ≠ n := by rintro rfl; exact h v List.mem_cons_self
      simp [this]
theorem bindL_get {kindOf : Str → Option NameKind} {x : Str} {v : Value} : ∀ {P : List Str} {vs : List Value} {i : Nat} {m : Str → Option Value}, P.Nodup → P[i]? = some x → vs[i]? = some v → kindOf x = some .local →
    bindL kindOf (P.zip vs) m x = some v
  | [], _, _, _, _, h, _, _ => by simp at h
  | _ :: _, [], _, _, _, _, h, _ => by simp at h
  | p :: P, w :: vs, 0, m, nd, h1, h2, hk => by
    simp at h1 h2; subst h1; subst h2
    show bindL kindOf ((p, w) :: P.zip vs) m p = _
    unfold bindL
    rw [bindL_out fun v hv => (List.nodup_cons.mp nd).1 (List.of_mem_zip hv).1, if_pos hk]
    simp
  | p :: P, w :: vs, i + 1, m, nd, h1, h2, hk => by
    show bindL kindOf ((p, w) :: P.zip vs) m x = _
    unfold bindL
    exact bindL_get (i := i) (List.nodup_cons.mp nd).2 (by simpa using h1) (by simpa using h2) hk
theorem bindC_get {kindOf : Str → Option NameKind} {x : Str} {v : Value} : ∀ {P : List Str} {vs : List Value} {i : Nat} {m : Str → Option Value}, P.Nodup → P[i]? = some x → vs[i]? = some v → kindOf x ≠ some .local →
    bindC kindOf (P.zip vs) m x = some v
  | [], _, _, _, _, h, _, _ => by simp at h
  | _ :: _, [], _, _, _, _, h, _ => by simp at h
  | p :: P, w :: vs, 0, m, nd, h1, h2, hk => by
    simp at h1 h2; subst h1; subst h2
    show bindC kindOf ((p, w) :: P.zip vs) m p = _
    unfold bindC
    rw [bindC_out fun v hv => (List.nodup_cons.mp nd).1 (List.of_mem_zip hv).1, if_neg hk]
    simp
  | p :: P, w :: vs, i + 1, m, nd, h1, h2, hk => by
    show bindC kindOf ((p, w) :: P.zip vs) m x = _
    unfold bindC
    exact bindC_get (i := i) (List.nodup_cons.mp nd).2 (by simpa using h1) (by simpa using h2) hk

/-- the names' values at the entry -/
def start (N : List Str) (vs : List V) : St := vs.map some ++ List.replicate (N.length - vs.length) none

/-- the context of a def's body, at its entry; an exception leaves the frame, then lies as CX says -/
def cxOf (CX : CXT) (P : Program) (w : World) (K : PySem.W.Frag) (mg : Str → Option Value) (base : Heap) (N : List Str) (qual : Str) (scope : Scope) (f : Addr) (cd : Value) (A : Around) (outer : List Env) (s : Shared) (H : Hp) (E : XK) : Cx where
  prog := P
  w := w
  K := K
  mg := mg
  base := base
  A := A.deeper (envOfC qual scope s.heap.objs.size f cd)
  N := N
  s₀ := s
  H₀ := H
  env := envOfC qual scope s.heap.objs.size f cd
  outer := outer
  stack := envOfC qual scope s.heap.objs.size f cd :: outer
  ex := []
  calm := true
  fn := fun _ => true
  pn := []
  xe := fun e s' => wpAny (model P w) (A.deeper (envOfC qual scope s.heap.objs.size f cd)) (leaving (envOfC qual scope s.heap.objs.size f cd) e) (fun _ s'' => CX outer H s E e s'') (fun e' s'' => CX outer H s E e' s'') s'

theorem cell_has {sc : Scope} {n : Nat} {x : Str} (h : sc.names.lookup x = some .cell) : ∃ c, (cellsFrom n sc.names []).lookup x = some c := by
  have q := PySem.W.cellsFrom_some sc.names n [] (.inl h)
  exact Option.isSome_iff_exists.mp q

theorem inv_start {CX : CXT} {P : Program} {w : World} {K : PySem.W.Frag} {mg : Str → Option Value} {base : Heap} {N ps : List Str} {qual : Str} {scope : Scope} {f : Addr} {cd : Value} {A : Around} {outer : List Env} {s s1 : Shared} {H : Hp} {E : XK} {us : List Value} {vs : List V}
    (S : FnScope N ps scope) (hd : A.handled = none) (e0 : Env0 P w K mg base A outer s H) (hl : vs.length = ps.length) (r : Vals vs us)
    (x : InCallC s s.heap.objs.size (bindL (envOfC qual scope s.heap.objs.size f cd).kindOf (ps.zip us) fun _ => none) (cellsFrom (s.heap.objs.size + 1) scope.names []) (bindC (envOfC qual scope s.heap.objs.size f cd).kindOf (ps.zip us) fun _ => none) s1) :
    Inv (cxOf CX P w K mg base N qual scope f cd A outer s H E) [] (start N vs) H s1 := by
  have hpl : ps.length ≤ N.length := by have := congrArg List.length S.pre; rw [List.length_take] at this; omega
  obtain ⟨h1, tk, rfl, hk⟩ := x.done
  have noA : ∀ b : Addr, b ∉ (cxOf CX P w K mg base N qual scope f cd A outer s H E).ex := fun b z => absurd (show b ∈ ([] : List Addr) from z) (by simp)
  refine ⟨⟨e0.mod, S.kind, rfl, rfl, Nat.le_refl _, fun y z c h1 h2 => ?_, fun y hy => ?_, fun y c _ h => ?_, fun _ => hd, Around.frames_deeper e0.frames, .inr ⟨rfl, rfl⟩, fun b z => absurd z (noA b), e0.bs, e0.bsz, fun b _ _ => noA b, fun b z => absurd z (noA b), e0.funs, e0.frf⟩,
    rfl, e0.bare, Un.kept hk, ⟨_, x.toInCall.ns, fun i y v h1 h2 h3 => ?_⟩, fun y c h => ⟨_, x.cell y c h⟩, e0.hok.fresh (Nat.le_refl _), fun y c h => ?_, fun p hp => absurd (show p ∈ ([] : List (Addr × Obj)) from hp) (by simp), e0.hok.kept hk, ?_⟩
  · exact name_of_addr x.apart (PySem.mem_of_lookup h1) (PySem.mem_of_lookup h2)
  · have hy : scope.names.lookup y = some .cell ∨ scope.names.lookup y = some .free := hy
    rcases hy with hy | hy
    · exact cell_has hy
    · exact absurd rfl (S.nofree _ (PySem.mem_of_lookup hy))
  · exact Nat.le_of_lt (x.above y c (PySem.mem_of_lookup h))
  · have hi : i < vs.length := by
      unfold start at h2
      by_cases hi : i < vs.length
      · exact hi
      · rw [List.getElem?_append_right (by simpa using hi)] at h2
        rw [List.getElem?_replicate] at h2
        split at h2 <;> cases h2
    have ha : vs[i]? = some v := by
      unfold start at h2
      rw [List.getElem?_append_left (by simpa using hi), List.getElem?_map] at h2
      cases e : vs[i]? with
      | none => rw [e] at h2; cases h2
      | some a => rw [e] at h2; cases h2; rfl
    obtain ⟨u, hu, rv⟩ := r.get ha
    have hp : ps[i]? = some y := by
      rw [← S.pre, List.getElem?_take_of_lt (by omega)]; exact h1
    have ndP : ps.Nodup := by rw [← S.pre]; exact S.nd.sublist (List.take_sublist _ _)
    refine ⟨u, rv, ?_⟩
    rcases S.par y (List.mem_of_getElem? hp) with k | k
    · exact .inl ⟨k, bindL_get ndP hp hu k⟩
    · obtain ⟨c, e⟩ := cell_has (n := s.heap.objs.size + 1) k
      refine .inr ⟨.inl k, c, e, ?_⟩
      have q := x.cell y c e
      rw [bindC_get ndP hp hu (by show scope.names.lookup y ≠ _; rw [k]; decide)] at q
      exact q
  · exact e0.hok.fresh (Nat.le_of_lt (x.above y c (PySem.mem_of_lookup h)))
  · unfold start
    show _ = N.length
    rw [List.length_append, List.length_map, List.length_replicate]
    omega

/-- THE RULE: a def (or a method) of the text, by its body. The body's reading t is chosen for each entry; it is run at the parameters' values -/
theorem fn_of {CX : CXT} {P : Program} {w : World} {K : PySem.W.Frag} {mg : Str → Option Value} {base : Heap} {k : Nat} {f : Addr} {name qual : Str} {params : Arguments} {body : List Stmt} {scope : Scope} {dV kV doc pm cdv ct oc : Value} {an od : Option Addr}
    {osl : Array (Option Value)} {N ps : List Str} {sp : Sp} (lk : K.lookup f = some ⟨oc, od, .func (PySem.W.fnOf name qual params body scope dV kV doc pm an cdv ct), osl⟩) (hcd : PySem.W.codeIn K cdv qual = true) (S : FnScope N ps scope)
    (len : ∀ vs H Q E, sp vs H Q E → vs.length = ps.length)
    (hbody : ∀ (A : Around) (outer : List Env) (s : Shared) (H : Hp) (vs : List V) (Q : VK) (E : XK), Room k (A.deeper (envOfC qual scope s.heap.objs.size f cdv)) → sp vs H Q E →
      ∃ t, PSs (cxOf CX P w K mg base N qual scope f cdv A outer s H E) body t ∧ t { nx := fun _ H' => Q .non H', rt := Q } (start N vs) H) :
    FnOk P w K mg base CX (k + 1) f (PySem.W.fnOf name qual params body scope dV kV doc pm an cdv ct) ps sp := by
  refine ⟨len, fun A outer s H args us vs Q E hr e0 hb r hsp => ?_⟩
  have hl := len _ _ _ _ hsp
  have KX : K.In s.heap := e0.mod.kin.keeps fun b o e => (e0.bs b o e).1
  have lim : s.heap.NoLimit := e0.mod.nolimit.keeps fun b o e => (e0.bs b o e).1
  have hkind : ∀ y ∈ ps.zip us, scope.names.lookup y.1 = some .local ∨ (scope.names.lookup y.1 = some .cell ∧ ((cellsFrom (s.heap.objs.size + 1) scope.names []).lookup y.1).isSome = true) := fun ⟨n, v⟩ hy => by
    rcases S.par n (List.of_mem_zip hy).1 with q | q
    · exact .inl q
    · exact .inr ⟨q, PySem.W.cellsFrom_some _ _ _ (.inl q)⟩
  refine codeAny_call_function hr.depth (KX _ _ lk) rfl S.co S.gen rfl (PySem.W.codeRec_of KX hcd) (hb _ _ _ _ ?_)
  refine wpAny_newFunctionEnv_cells S.kind hkind fun env he s1 x => ?_
  subst he
  refine ⟨lim.keeps x.toInCall.keep, codeAny_func ?_⟩
  obtain ⟨t, ht, hq⟩ := hbody A outer s H vs Q E (hr.deeper _) hsp
  have I : Inv (cxOf CX P w K mg base N qual scope f cdv A outer s H E) [] (start N vs) H s1 := inv_start S hr.hd e0 hl r x
  refine wpAny_mono (ht [] s1 (start N vs) H _ I hq) (fun fl s' hs => ?_) fun e s' hs => hs
  have fin : ∀ {σ' : St} {H' : Hp} {v : V} {u : Value}, Inv (cxOf CX P w K mg base N qual scope f cdv A outer s H E) [] σ' H' s' → RelV v u → Q v H' → CE outer P w H s Q u s' :=
    fun {σ' H' v u} J rv q => ⟨v, H', J.os, J.bare, J.base, J.hok, rv, q⟩
  cases fl with
  | ret u =>
    obtain ⟨v, σ', H', J, rv, q⟩ := hs
    exact fin J rv q
  | next =>
    obtain ⟨σ', H', J, q⟩ := hs
    exact fin (v := V.non) (u := Value.none) J rfl q
  | brk =>
    obtain ⟨_, _, _, q⟩ := hs
    exact False.elim q
  | cont =>
    obtain ⟨_, _, _, q⟩ := hs
    exact False.elim q
end L2

namespace L2
open PySem PySem.Spec PyProof.Rows
section
variable {X : Cx} {x : Str} {p pos : Pos} {e : Expr} {es : List Expr} {t : TA} {id T : String} {r : List V → Hp → VK → Prop}

def tCB (r : List V → Hp → VK → Prop) (t : TA) : TE := fun σ H Q => t σ H fun vs H1 => r vs H1 Q
/-- f(e, ..), f a built-in function -/
theorem pe_callB (hc : CallR X (.builtin id) r) (hg : Gl X x) (hm : X.mg x = none) (hv : bootBuiltins x = some (.builtin id)) (ha : PA X (e :: es) t) (hn : x ≠ "__name__" := by decide) (hdb : (x == ("__debug__" : Str)) = false := by decide)
    (he : starEach (e :: es) X.env = (false, eval e X.env) :: starEach es X.env := by rfl) (hpl : (backTo pos (starEach es X.env)).any (·.1) = false := by rfl) : PE X (.Call (.Name x p) (e :: es) [] pos) (tCB r t) := by
  intro pins s σ H Q I h
  refine wpAny_Call_Name_kw (ld_blt I hg hm hv ?_ hn hdb)
  exact PyProof.Rows.callWith_builtin1 (thn (ha pos pins s σ H _ I h) fun us s1 ⟨vs, H1, I1, r1, q1⟩ => hc pins s1 σ H1 vs us Q I1 r1 q1) he hpl
/-- T(e, ..), T a built-in type -/
theorem pe_callTy (hc : CallR X (.type T) r) (hg : Gl X x) (hm : X.mg x = none) (hv : bootBuiltins x = some (.type T)) (ha : PA X (e :: es) t) (hn : x ≠ "__name__" := by decide) (hdb : (x == ("__debug__" : Str)) = false := by decide)
    (he : starEach (e :: es) X.env = (false, eval e X.env) :: starEach es X.env := by rfl) (hpl : (backTo pos (starEach es X.env)).any (·.1) = false := by rfl) : PE X (.Call (.Name x p) (e :: es) [] pos) (tCB r t) := by
  intro pins s σ H Q I h
  refine wpAny_Call_Name_kw (ld_blt I hg hm hv ?_ hn hdb)
  exact PyProof.Rows.callWith_type1 (thn (ha pos pins s σ H _ I h) fun us s1 ⟨vs, H1, I1, r1, q1⟩ => hc pins s1 σ H1 vs us Q I1 r1 q1) he hpl
/-- T() -/
theorem pe_callTy0 (hc : CallR X (.type T) r) (hg : Gl X x) (hm : X.mg x = none) (hv : bootBuiltins x = some (.type T)) (hn : x ≠ "__name__" := by decide) (hdb : (x == ("__debug__" : Str)) = false := by decide) :
    PE X (.Call (.Name x p) [] [] pos) (tCB r tNil) := by
  intro pins s σ H Q I h
  refine wpAny_Call_Name_kw (ld_blt I hg hm hv ?_ hn hdb)
  exact PyProof.Rows.callWith_type0 (hc pins s σ H [] [] Q I .nil h)
end
end L2

namespace HT
open PySem PyProof.Rows

/-- t < u of tuples of ints -/
def lexLt : List Int → List Int → Bool
  | [], [] => false
  | [], _ :: _ => true
  | _ :: _, [] => false
  | x :: xs, y :: ys => if x = y then lexLt xs ys else decide (x < y)
theorem lexLt_cons (x y : Int) (xs ys : List Int) : lexLt (x :: xs) (y :: ys) = if x = y then lexLt xs ys else decide (x < y) := rfl
theorem lexLt_nil_nil : lexLt [] [] = false := rfl
theorem lexLt_nil_cons (y : Int) (ys : List Int) : lexLt [] (y :: ys) = true := rfl
theorem lexLt_cons_nil (x : Int) (xs : List Int) : lexLt (x :: xs) [] = false := rfl

theorem eqAt_int (A : Around) (s : Shared) (a : Int) (t : Tok) (c : Int) (u : Tok) : ∃ e, SeqAt.EqAt A s (.int a t) (.int c u) e ∧ (e = true ↔ a = c) :=
  ⟨(a == c), SeqAt.EqAt.int_int a t c u, by simp⟩
theorem rcLt_int (A : Around) (s : Shared) (a : Int) (t : Tok) (c : Int) (u : Tok) (prog : Program) (w : World) (E : Value → Shared → Prop) (Q : Value → Shared → Prop) (h : Q (.bool (decide (a < c))) s) :
    wpAny (model prog w) A (richCompare .Lt (.int a t) (.int c u)) Q E s :=
  (PyProof.Rows.lt_int h : wpAny (model prog w) A (compareOp .Lt (.int a t) (.int c u)) Q E s)

section
open PySem.SeqAt
open PySem.AutoSeq1 (wpAny_loadPart')
open PySem.MeetsSeq PySem.MeetsSeq2 PySem.MeetsSeq3

theorem tuple_lt_ints (l b : Addr) (items items2 : Array Value) (n n2 : Nat) (dd dd2 : Option Addr) (sl sl2 : Array (Option Value)) (ns ms : List Int) (hi : IntsAre items.toList ns) (hj : IntsAre items2.toList ms) :
    Meets (Builtin.«tuple.__lt__» ⟨[.ref l, .ref b], []⟩)
      (fun _ R s => s.heap.get? l = some { cls := .type "tuple", dict := dd, data := .seq items n, slots := sl } ∧ s.heap.get? b = some { cls := .type "tuple", dict := dd2, data := .seq items2 n2, slots := sl2 } ∧
        R (.ok (.ret (.bool (lexLt ns ms)))) s) :=
  .of_wp fun prog w A R s h => by
    obtain ⟨hp, g, d, tk, os⟩ := s; obtain ⟨hl, hb, h⟩ := h
    have f2 := AutoSeq1.sub_tuple_tuple
    have z1 : items.size = ns.length := by rw [← hi.length]; simp
    have z2 : items2.size = ms.length := by rw [← hj.length]; simp
    wp_walk using wpAny_loadPart' hl, wpAny_loadPart' hb, wpAny_forIn_list _ (fun rest b s' => b.1 = none ∧ s' = ⟨hp, g, d, tk, os⟩ ∧ ∃ (vs ws : List Value) (ns' ms' : List Int), rest = vs.zip ws ∧
      IntsAre vs ns' ∧ IntsAre ws ms' ∧ ns'.length + items2.size = ms'.length + items.size ∧ R (.ok (.ret (.bool (lexLt ns' ms')))) ⟨hp, g, d, tk, os⟩) _
    case turn =>
      rintro ⟨y, x⟩ rest b s' ⟨hb', rfl, vs, ws, ns', ms', hz, hvi, hwi, hlen, hR⟩
      cases hvi with
      | nil => rw [List.zip_nil_left] at hz; cases hz
      | cons a t hvi' =>
        cases hwi with
        | nil => rw [List.zip_nil_right] at hz; cases hz
        | cons c u hwi' =>
          rw [List.zip_cons_cons] at hz
          injection hz with hyx hrest
          injection hyx with hy hx
          subst hy hx
          rw [lexLt_cons] at hR
          simp only [List.length_cons] at hlen
          obtain ⟨e, he, hiff⟩ := eqAt_int A.in1 ⟨hp, g, d, tk, os⟩ a t c u
          refine wpAny_bind (he prog w _ _ ?_)
          cases e with
          | true =>
            rw [if_pos (hiff.mp rfl)] at hR
            wp_walk
            exact ⟨rfl, rfl, _, _, _, _, hrest, hvi', hwi', by omega, hR⟩
          | false =>
            rw [if_neg (fun q => absurd (hiff.mpr q) Bool.false_ne_true)] at hR
            have hri := rcLt_int A.in1 ⟨hp, g, d, tk, os⟩ a t c u prog w
            wp_walk using hri
            exact ⟨_, rfl, by simpa using hR⟩
    case fin =>
      rintro ⟨b1, b2⟩ s' ⟨hb', rfl, vs, ws, ns', ms', hz, hvi, hwi, hlen, hR⟩
      simp only at hb'
      subst hb'
      have hv : lexLt ns' ms' = decide (items.size < items2.size) := by
        cases hvi with
        | nil =>
          cases hwi with
          | nil =>
            simp only [List.length_nil] at hlen
            rw [lexLt_nil_nil]
            exact (decide_eq_false (by omega)).symm
          | cons c u hw =>
            simp only [List.length_nil, List.length_cons] at hlen
            rw [lexLt_nil_cons]
            exact (decide_eq_true (by omega)).symm
        | cons a t hv =>
          cases hwi with
          | nil =>
            simp only [List.length_nil, List.length_cons] at hlen
            rw [lexLt_cons_nil]
            exact (decide_eq_false (by omega)).symm
          | cons c u hw =>
            rw [List.zip_cons_cons] at hz
            cases hz
      rw [hv] at hR
      wp_walk
      exact ⟨_, rfl, by simpa [Builtin.Tuple.tupleCompareSizes] using hR⟩
    case h =>
      exact ⟨rfl, rfl, items.toList, items2.toList, ns, ms, rfl, hi, hj, by omega, h⟩
end

section
variable {prog : Program} {w : World} {A : Around} {E : Value → Shared → Prop} {s : Shared}

theorem lt_tupInts {l b : Addr} {items items2 : Array Value} {ns ms : List Int} {Q : Value → Shared → Prop} (hl : IsTup s.heap l items) (hb : IsTup s.heap b items2) (hi : IntsAre items.toList ns) (hj : IntsAre items2.toList ms)
    (hu : A.units < cLine) (h : Q (.bool (lexLt ns ms)) s) : wpAny (model prog w) A (compareOp .Lt (.ref l) (.ref b)) Q E s := by
  obtain ⟨⟨cls, dd, data, sl⟩, ho, hc, n, hd⟩ := id hl
  obtain ⟨⟨cls2, dd2, data2, sl2⟩, ho2, hc2, n2, hd2⟩ := id hb
  simp only at hc hd hc2 hd2
  subst hc hd hc2 hd2
  exact richCompare_meets_room (op := .Lt) ⟨_, ho, rfl⟩ ⟨_, ho2, rfl⟩ PySem.F.slot_tuple_lt PySem.F.entry_tuple_lt (PySem.F.args_tuple_lt_2 _ _) (tuple_lt_ints l b items items2 n n2 dd dd2 sl sl2 ns ms hi hj)
    ⟨ho, ho2, show Value.bool (lexLt ns ms) ≠ Value.notImplemented ∧ Q (.bool (lexLt ns ms)) s from ⟨(fun x => nomatch x), h⟩⟩ hu

/-- t + u, t not empty -/
theorem cat_tup {t b : Addr} {vs ws : List Value} {Q : Value → Shared → Prop} (ht : IsTup s.heap t vs.toArray) (hb : IsTup s.heap b ws.toArray) (hv : vs ≠ [])
    (h1 : ws = [] → Q (.ref t) s) (h2 : ws ≠ [] → Q (.ref s.heap.objs.size) { s with heap := s.heap.push { cls := .type "tuple", data := .seq (vs ++ ws).toArray } })
    (hsz : vs.length + ws.length ≤ sizeLine) : wpAny (model prog w) A (binaryOp .Add (.ref t) (.ref b)) Q E s := by
  obtain ⟨⟨cls, dd, data, sl⟩, ho, hc, n, hd⟩ := id ht
  obtain ⟨⟨cls2, dd2, data2, sl2⟩, ho2, hc2, n2, hd2⟩ := id hb
  simp only at hc hd hc2 hd2
  subst hc hd hc2 hd2
  have e : vs.toArray ++ ws.toArray = (vs ++ ws).toArray := by simp
  by_cases hw : ws = []
  · exact concat_meets ⟨_, ho, rfl⟩ ⟨_, ho2, rfl⟩ noFill_tuple_add seq_tuple_add PySem.F.slot_tuple_add PySem.F.entry_tuple_add (PySem.F.args_tuple_add_2 _ _)
      (tuple_addW1 t b vs.toArray ws.toArray n n2 dd dd2 sl sl2 (by simpa using hv) (by simp [hw])) ⟨ho, ho2, h1 hw⟩
  · refine concat_meets ⟨_, ho, rfl⟩ ⟨_, ho2, rfl⟩ noFill_tuple_add seq_tuple_add PySem.F.slot_tuple_add PySem.F.entry_tuple_add (PySem.F.args_tuple_add_2 _ _)
      (tuple_addW2 t b vs.toArray ws.toArray n n2 dd dd2 sl sl2 (by simpa using hv) (by simpa using hw) (by rw [List.size_toArray, List.size_toArray]; exact hsz)) ⟨ho, ho2, ?_⟩
    rw [e]
    exact h2 hw

/-! ### t[a:b], not the whole -/
/-- a slice's bound as a place among n (d where it is left out) -/
def sIx (n d : Nat) : Option Int → Nat
  | none => d
  | some v => if v < 0 then (v + (n : Int)).toNat else min v.toNat n
theorem sIx_none (n d : Nat) : sIx n d none = d := rfl
theorem sIx_nat (n d k : Nat) : sIx n d (some (k : Int)) = min k n := by
  show (if (k : Int) < 0 then ((k : Int) + (n : Int)).toNat else min (k : Int).toNat n) = min k n
  rw [if_neg (by omega), Int.toNat_natCast]
theorem sIx_le (n d : Nat) (hd : d ≤ n) (o : Option Int) : sIx n d o ≤ n := by
  cases o with
  | none => exact hd
  | some v =>
    show (if v < 0 then (v + (n : Int)).toNat else min v.toNat n) ≤ n
    by_cases hv : v < 0
    · rw [if_pos hv]; omega
    · rw [if_neg hv]; exact Nat.min_le_right _ _
theorem clip_eq (v : Int) (n d : Nat) : (if v < 0 then max (v + (n : Int)) 0 else min v (n : Int)) = ((sIx n d (some v) : Nat) : Int) := by
  show (if v < 0 then max (v + (n : Int)) 0 else min v (n : Int)) = (((if v < 0 then (v + (n : Int)).toNat else min v.toNat n) : Nat) : Int)
  by_cases hv : v < 0
  · simp only [if_pos hv]; omega
  · simp only [if_neg hv]; omega
theorem adjust_gen (lo hi : Option Int) (n : Nat) : Builtin.Slice.sliceAdjust lo hi 1 (n : Int) = (((sIx n 0 lo : Nat) : Int), ((sIx n n hi : Nat) : Int)) := by
  have h1 : ¬ ((1 : Int) < 0) := by omega
  unfold Builtin.Slice.sliceAdjust
  simp only [h1, if_false]
  refine Prod.ext ?_ ?_
  · cases lo with
    | none => rfl
    | some v => exact clip_eq v n 0
  · cases hi with
    | none => rfl
    | some v => exact clip_eq v n n
theorem places_gen (i j : Nat) : Builtin.Slice.slicePlaces (i : Int) (j : Int) 1 = j - i := by
  unfold Builtin.Slice.slicePlaces
  have h1 : (1 : Int) > 0 := by omega
  simp only [h1, if_true, Int.ediv_one]
  split <;> omega
theorem slicePart_ {v : Value} {o : Option Int} {Q : Option Int → Shared → Prop} (p : IsPart v o) (h : Q o s) : wpAny (model prog w) A (Builtin.Slice.slicePartIndex v) Q E s := by
  cases p with
  | none => exact slicePart_none h
  | int i t => exact slicePart_int h
theorem sliceApplied_gen {sl : Addr} {vl vu : Value} {lo hi : Option Int} {n : Nat} {Q : Int × Int × Nat → Shared → Prop} (hs : s.heap.IsSliceOf sl vl vu .none) (pl : IsPart vl lo) (pu : IsPart vu hi)
    (h : Q (((sIx n 0 lo : Nat) : Int), 1, sIx n n hi - sIx n 0 lo) s) : wpAny (model prog w) A (Builtin.Slice.sliceApplied (.ref sl) (pure (n : Int))) Q E s := by
  obtain ⟨os, hos, hcs, hds⟩ := id hs
  unfold Builtin.Slice.sliceApplied Builtin.Slice.sliceFields
  refine wpAny_bind (wpAny_bind (wpAny_field hos hds (x := vl) rfl (wpAny_bind (wpAny_field hos hds (x := vu) rfl (wpAny_bind (wpAny_field hos hds (x := .none) rfl (wpAny_pure ?_)))))))
  refine wpAny_bind (slicePart_none ?_)
  show wpAny _ _ (if ((1 : Int) == 0) = true then _ else _) _ _ s
  rw [if_neg (by decide)]
  refine wpAny_bind (slicePart_ pl (wpAny_bind (slicePart_ pu (wpAny_bind (wpAny_pure ?_)))))
  show wpAny _ _ (match Builtin.Slice.sliceAdjust lo hi 1 (n : Int) with | (lo, hi) => pure (lo, (1 : Int), Builtin.Slice.slicePlaces lo hi 1)) _ _ s
  rw [adjust_gen lo hi n]
  show wpAny _ _ (pure (((sIx n 0 lo : Nat) : Int), (1 : Int), Builtin.Slice.slicePlaces ((sIx n 0 lo : Nat) : Int) ((sIx n n hi : Nat) : Int) 1)) _ _ s
  rw [places_gen]
  exact wpAny_pure h
theorem pick_gen (xs : Array Value) (i k : Nat) : ((List.range k).filterMap fun (m : Nat) => xs[((i : Int) + (m : Int) * 1).toNat]?).toArray = ((xs.toList.drop i).take k).toArray := by
  have e : (fun (m : Nat) => xs[((i : Int) + (m : Int) * 1).toNat]?) = fun m => xs[i + m]? := by
    funext m
    have : ((i : Int) + (m : Int) * 1).toNat = i + m := by omega
    rw [this]
  rw [e]
  have := pick_run xs i k
  rw [List.filterMap_map] at this
  have e2 : ((fun x => xs[x]?) ∘ fun x => i + x) = fun m => xs[i + m]? := rfl
  rw [e2] at this
  rw [this]

theorem getItem_tuple_cut {t sl : Addr} {items : Array Value} {vl vu : Value} {lo hi : Option Int} {Q : Value → Shared → Prop} (ht : IsTup s.heap t items) (hs : s.heap.IsSliceOf sl vl vu .none) (pl : IsPart vl lo) (pu : IsPart vu hi)
    (hw : ¬ (sIx items.size 0 lo = 0 ∧ sIx items.size items.size hi = items.size))
    (h : Q (.ref s.heap.objs.size) { s with heap := s.heap.push { cls := .type "tuple", data := .seq ((items.toList.drop (sIx items.size 0 lo)).take (sIx items.size items.size hi - sIx items.size 0 lo)).toArray } })
    (hsz : items.size ≤ sizeLine) : wpAny (model prog w) A (getItem (.ref t) (.ref sl)) Q E s := by
  have htake : sizeOk (.seq ((items.toList.drop (sIx items.size 0 lo)).take (sIx items.size items.size hi - sIx items.size 0 lo)).toArray) := by
    show ((items.toList.drop (sIx items.size 0 lo)).take (sIx items.size items.size hi - sIx items.size 0 lo)).toArray.size ≤ sizeLine
    rw [List.size_toArray, List.length_take, List.length_drop, Array.length_toList]
    omega
  have hj : sIx items.size items.size hi ≤ items.size := sIx_le _ _ (Nat.le_refl _) hi
  obtain ⟨os, hos, hcs, hds⟩ := id hs
  have hTs : s.TypeIs (.ref sl) "slice" := ⟨os, hos, hcs⟩
  unfold getItem
  try with_reducible refine wpAny_holding ?_
  first | refine wpAny_bind (wpAny_pure ?_) | skip
  refine wpAny_bind (wpAny_sequenceKey ht.typeIs (by decide) ?_)
  refine wpAny_bind (wpAny_callSpecial?_slot (name := Str.ofString "__getitem__") ht.typeIs PyProof.Rows.slot_tuple_getitem
    (wpAny_call_entry PyProof.Rows.slot_tuple_getitem ht.typeIs entry_tuple_getitem ?_ (args_tuple_getitem _ _)))
  show wpAny _ _ (Builtin.Tuple.tupleItemsOf (.ref t) >>= _) _ _ s
  refine wpAny_bind (tupleItemsOf_ ht ?_)
  refine wpAny_bind (wpAny_typeOf hTs ?_)
  rw [if_pos (by decide)]
  refine wpAny_bind (sliceApplied_gen hs pl pu ?_)
  have hno : ¬ ((((sIx items.size 0 lo : Nat) : Int) == 0 && (1 : Int) == 1 && (sIx items.size items.size hi - sIx items.size 0 lo) == items.size) = true) := by
    intro q
    rw [Bool.and_eq_true, Bool.and_eq_true] at q
    have q1 : ((sIx items.size 0 lo : Nat) : Int) = 0 := eq_of_beq q.1.1
    have q2 : sIx items.size items.size hi - sIx items.size 0 lo = items.size := eq_of_beq q.2
    exact hw ⟨by omega, by omega⟩
  show wpAny _ _ (if (((sIx items.size 0 lo : Nat) : Int) == 0 && (1 : Int) == 1 && (sIx items.size items.size hi - sIx items.size 0 lo) == items.size) = true then _ else _) _ _ s
  rw [if_neg hno, pick_gen]
  first
    | exact wpAny_bind (m := Builtin.Tuple.tupleExact _) (wpAny_newObj_type (wpAny_pure ⟨_, rfl, wpAny_pure h⟩) htake)
    | exact wpAny_bind (m := Builtin.Tuple.tupleExact _) (wpAny_newObj_type (wpAny_bind (wpAny_pure (wpAny_pure ⟨_, rfl, wpAny_pure h⟩))) htake)
    | exact wpAny_bind (wpAny_bind (m := Builtin.Tuple.tupleExact _) (wpAny_newObj_type (wpAny_pure (wpAny_pure ⟨_, rfl, wpAny_pure h⟩)) htake))
    | exact wpAny_bind (wpAny_bind (m := Builtin.Tuple.tupleExact _) (wpAny_newObj_type (wpAny_pure ⟨_, rfl, wpAny_pure h⟩) htake))
end
end HT

namespace L2
open PySem PySem.Spec PyProof.Rows

/-! ### the parts of a slice -/
abbrev TO := St → Hp → (Option Int → Hp → Prop) → Prop
/-- a slice's part (left out, or an int) -/
def PO (X : Cx) (e : Option Expr) (t : TO) : Prop :=
  ∀ (pins : List (Addr × Obj)) (s : Shared) (σ : St) (H : Hp) (Q : Option Int → Hp → Prop), Inv X pins σ H s → t σ H Q →
    wpAny (model X.prog X.w) X.A (evalPart e X.env) (fun u s' => ∃ o H', Inv X pins σ H' s' ∧ IsPart u o ∧ Q o H') X.xe s
def tNoPart : TO := fun _ H Q => Q none H
def tPart (t : TE) : TO := fun σ H Q => t σ H fun x H1 => ∃ i, x = .int i ∧ Q (some i) H1

theorem intsAre_of {ns : List Int} : ∀ {us : List Value}, Vals (ns.map V.int) us → IntsAre us ns := by
  induction ns with
  | nil => intro us r; rw [List.map_nil] at r; cases r; exact .nil
  | cons n ns ih =>
    intro us r
    rw [List.map_cons] at r
    cases r with
    | cons r1 r2 =>
      obtain ⟨t, e⟩ := r1
      subst e
      exact .cons n t (ih r2)

section
variable {X : Cx} {e : Expr} {te : TE} {lo hi : Option Expr} {tl th : TO} {pos p2 : Pos}

theorem po_none : PO X none tNoPart := by
  intro pins s σ H Q I h
  rw [evalPart_none]
  exact wpAny_pure ⟨none, H, I, .none, h⟩
theorem po_some (h : PE X e te) : PO X (some e) (tPart te) := by
  intro pins s σ H Q I hw
  rw [evalPart_some]
  refine thn (h pins s σ H _ I hw) fun u s1 ⟨x, H1, I1, r1, q1⟩ => ?_
  obtain ⟨i, rfl, q⟩ := q1
  obtain ⟨t, rfl⟩ := r1
  exact ⟨some i, H1, I1, .int i t, q⟩

/-- what a slice of a value is, by values: the slice object stands at sl -/
def SlR (X : Cx) (r : V → Option Int → Option Int → Hp → VK → Prop) : Prop :=
  ∀ (pins : List (Addr × Obj)) (s : Shared) (σ : St) (H : Hp) (x : V) (v vl vu : Value) (lo hi : Option Int) (sl : Addr) (Q : VK), Inv X pins σ H s → RelV x v → s.heap.IsSliceOf sl vl vu .none → IsPart vl lo → IsPart vu hi → r x lo hi H Q →
    ∃ T id, typeLookup (.type T) "__getitem__" = pure (some (.builtin id)) ∧ s.TypeIs v T ∧ wpAny (model X.prog X.w) X.A (getItem v (.ref sl)) (EP X pins σ Q) X.xe s
theorem SlR.or {r r' : V → Option Int → Option Int → Hp → VK → Prop} (h : SlR X r) (h' : SlR X r') : SlR X (fun x lo hi H Q => r x lo hi H Q ∨ r' x lo hi H Q) := by
  intro pins s σ H x v vl vu lo hi sl Q I rx hs pl pu q
  rcases q with q | q
  · exact h pins s σ H x v vl vu lo hi sl Q I rx hs pl pu q
  · exact h' pins s σ H x v vl vu lo hi sl Q I rx hs pl pu q
def tSl (r : V → Option Int → Option Int → Hp → VK → Prop) (te : TE) (tl th : TO) : TE := fun σ H Q => te σ H fun x H1 => tl σ H1 fun l H2 => th σ H2 fun u H3 => r x l u H3 Q
/-- a[lo:hi], any a -/
theorem pe_slice {r : V → Option Int → Option Int → Hp → VK → Prop} (hr : SlR X r) (he : PE X e te) (hl : PO X lo tl) (hu : PO X hi th) : PE X (.Subscript e (.Slice lo hi none p2) pos) (tSl r te tl th) := by
  intro pins s σ H Q I h
  refine Subscript_ (thn (he pins s σ H _ I h) fun v s1 ⟨x, H1, I1, r1, q1⟩ => ?_)
  refine wpAny_Slice (thn (hl pins s1 σ H1 _ I1 q1) fun vl s2 ⟨l, H2, I2, pl, q2⟩ => thn (hu pins s2 σ H2 _ I2 q2) fun vu s3 ⟨u, H3, I3, pu, q3⟩ => ?_)
  rw [evalPart_none]
  refine wpAny_pure ?_
  have I4 : Inv X pins σ H3 { s3 with heap := s3.heap.push { cls := .type "slice", data := .fields #[vl, vu, .none] } } := I3.kept (t' := s3.toks) fun b ob q => Heap.get?_push_of_some _ q
  obtain ⟨T, id, hT, ht, hg⟩ := hr pins { s3 with heap := s3.heap.push { cls := .type "slice", data := .fields #[vl, vu, .none] } } σ H3 x v vl vu l u s3.heap.objs.size Q I4 r1 (Heap.IsSliceOf.new ..) pl pu q3
  show wpAny (model X.prog X.w) X.A (subscriptTail e (.Slice lo hi none p2) v (.ref s3.heap.objs.size)) (EP X pins σ Q) X.xe { s3 with heap := s3.heap.push { cls := .type "slice", data := .fields #[vl, vu, .none] } }
  exact tail_any (ops := [.ref s3.heap.objs.size, v]) ht hT hg (by with_unfolding_all rfl)

/-- the items of xs[lo:hi] -/
def cutV (xs : List V) (lo hi : Option Int) : List V := (xs.drop (HT.sIx xs.length 0 lo)).take (HT.sIx xs.length xs.length hi - HT.sIx xs.length 0 lo)
theorem cutV_length (xs : List V) (lo hi : Option Int) : (cutV xs lo hi).length ≤ xs.length := by
  unfold cutV
  rw [List.length_take, List.length_drop]
  omega
/-- t[lo:hi], not the whole of it (the whole would be t itself) -/
def rSlT (K : PySem.W.Frag) : V → Option Int → Option Int → Hp → VK → Prop := fun x lo hi H Q => ∃ a xs, x = .ref a ∧ SqT K H a xs ∧
  ¬ (HT.sIx xs.length 0 lo = 0 ∧ HT.sIx xs.length xs.length hi = xs.length) ∧ ∀ p, H p = none → Q (.ref p) (upd H p (.tup (cutV xs lo hi)))
theorem sl_tup : SlR X (rSlT X.K) := by
  intro pins s σ H x v vl vu lo hi sl Q I rx hs pl pu h
  obtain ⟨a, xs, rfl, hx, hw, q⟩ := h
  cases rx
  obtain ⟨its, r, ht, hz⟩ := I.tuple hx
  have hlen : its.toArray.size = xs.length := by rw [List.size_toArray]; exact r.length.symm
  refine ⟨"tuple", _, PyProof.Rows.slot_tuple_getitem.lookup, ht.typeIs, ?_⟩
  refine HT.getItem_tuple_cut ht hs pl pu (by rw [hlen]; exact hw) ?_ (by rw [hlen]; exact hz)
  rw [hlen]
  refine ⟨.ref s.heap.objs.size, _, I.laid (t' := s.toks) (o := .tup (cutV xs lo hi)) (fun b ob q => Heap.get?_push_of_some _ q) (Nat.le_refl _) ?_, rfl, q _ (I.hok.fresh (Nat.le_refl _))⟩
  exact ⟨Nat.le_trans (cutV_length xs lo hi) hz, _, (r.drop (HT.sIx xs.length 0 lo)).take (HT.sIx xs.length xs.length hi - HT.sIx xs.length 0 lo), IsTup.new _ _⟩

/-! ### t < u, t + u -/
def rLtT (K : PySem.W.Frag) : R2 := fun x y H Q => ∃ a b ns ms, x = .ref a ∧ y = .ref b ∧ SqT K H a (ns.map V.int) ∧ SqT K H b (ms.map V.int) ∧ Q (.bl (HT.lexLt ns ms)) H
theorem op_ltT (hu : X.A.units < cLine) : OpR X (compareOp .Lt) (rLtT X.K) := by
  intro pins s σ H x y v u Q I rx ry h
  obtain ⟨a, b, ns, ms, rfl, rfl, ha, hb, q⟩ := h
  cases rx
  cases ry
  obtain ⟨its, r1, p1, _⟩ := I.tuple ha
  obtain ⟨its2, r2, p2, _⟩ := I.tuple hb
  have i1 : IntsAre its.toArray.toList ns := intsAre_of r1
  have i2 : IntsAre its2.toArray.toList ms := intsAre_of r2
  exact HT.lt_tupInts p1 p2 i1 i2 hu ⟨.bl (HT.lexLt ns ms), H, I, rfl, q⟩
/-- t + u, t not empty: u empty gives t itself -/
def rCatT (K : PySem.W.Frag) : R2 := fun x y H Q => ∃ a b xs ys, x = .ref a ∧ y = .ref b ∧ SqT K H a xs ∧ SqT K H b ys ∧ xs ≠ [] ∧ xs.length + ys.length ≤ sizeLine ∧
  (ys = [] → Q (.ref a) H) ∧ (ys ≠ [] → ∀ p, H p = none → Q (.ref p) (upd H p (.tup (xs ++ ys))))
theorem Vals.nil_iff {xs : List V} {us : List Value} (r : Vals xs us) : us = [] ↔ xs = [] := by
  cases r with
  | nil => simp
  | cons _ _ => simp
theorem op_catT : OpR X (binaryOp .Add) (rCatT X.K) := by
  intro pins s σ H x y v u Q I rx ry h
  obtain ⟨a, b, xs, ys, rfl, rfl, ha, hb, hx, hz, q1, q2⟩ := h
  cases rx
  cases ry
  obtain ⟨its, r1, p1, _⟩ := I.tuple ha
  obtain ⟨its2, r2, p2, _⟩ := I.tuple hb
  refine HT.cat_tup p1 p2 (fun z => hx (r1.nil_iff.mp z)) (fun z => ⟨.ref a, H, I, rfl, q1 (r2.nil_iff.mp z)⟩) (fun z => ?_) (by rw [← r1.length, ← r2.length]; exact hz)
  refine ⟨.ref s.heap.objs.size, _, I.laid (t' := s.toks) (o := .tup (xs ++ ys)) (fun b ob q => Heap.get?_push_of_some _ q) (Nat.le_refl _) ?_, rfl, q2 (fun w => z (r2.nil_iff.mpr w)) _ (I.hok.fresh (Nat.le_refl _))⟩
  exact ⟨by rw [List.length_append]; exact hz, _, r1.append r2, IsTup.new _ _⟩
/-- tuple(t) -/
theorem call_tupleT : CallR X (.type "tuple") (fun xs H Q => ∃ a ys, xs = [.ref a] ∧ SqT X.K H a ys ∧ Q (.ref a) H) := by
  intro pins s σ H xs us Q I r h
  obtain ⟨a, ys, rfl, ha, q⟩ := h
  obtain ⟨u, rfl, ru⟩ := vals1 r
  cases ru
  obtain ⟨its, _, p1, _⟩ := I.tuple ha
  exact call_tuple_same (items := its.toArray) p1 ⟨.ref a, H, I, rfl, q⟩
end
end L2

namespace L2
open PySem PySem.Spec PyProof.Rows

/-! ### places -/
/-- the place that an index of any sign means -/
def ixN (n : Nat) (i : Int) : Option Nat := if 0 ≤ i then (if i < n then some i.toNat else none) else if -(n : Int) ≤ i then some (i + n).toNat else none
def atI {α : Type} (xs : List α) (i : Int) : Option α := (ixN xs.length i).bind fun j => xs[j]?
theorem ixN_seq {n : Nat} {i : Int} {j : Nat} (h : ixN n i = some j) : seqIndex? i n = some j ∧ j < n ∧ -(n : Int) ≤ i ∧ i < n := by
  unfold ixN at h
  by_cases h0 : 0 ≤ i
  · rw [if_pos h0] at h
    by_cases h1 : i < n
    · rw [if_pos h1] at h
      have e : i.toNat = j := Option.some.inj h
      exact ⟨by rw [seqIndex_of h0 h1, e], by omega, by omega, h1⟩
    · rw [if_neg h1] at h; cases h
  · rw [if_neg h0] at h
    by_cases h1 : -(n : Int) ≤ i
    · rw [if_pos h1] at h
      have e : (i + n).toNat = j := Option.some.inj h
      exact ⟨by rw [seqIndex_neg (by omega) h1, e], by omega, h1, by omega⟩
    · rw [if_neg h1] at h; cases h
theorem atI_get {α : Type} {xs : List α} {i : Int} {v : α} (h : atI xs i = some v) : ∃ j, seqIndex? i xs.length = some j ∧ xs[j]? = some v ∧ j < xs.length ∧ -(xs.length : Int) ≤ i ∧ i < xs.length := by
  unfold atI at h
  cases e : ixN xs.length i with
  | none => rw [e] at h; cases h
  | some j =>
    rw [e] at h
    obtain ⟨h1, h2, h3, h4⟩ := ixN_seq e
    exact ⟨j, h1, h, h2, h3, h4⟩
theorem atI_nat {α : Type} {xs : List α} {j : Nat} {v : α} (h : xs[j]? = some v) : atI xs (j : Int) = some v := by
  have hj : j < xs.length := (List.getElem?_eq_some_iff.mp h).1
  have e : ixN xs.length (j : Int) = some j := by
    unfold ixN
    rw [if_pos (by omega), if_pos (by omega)]; simp
  unfold atI; rw [e]; exact h
theorem atI_last {α : Type} (xs : List α) (v : α) : atI (xs ++ [v]) (-1) = some v := by
  have hl : (xs ++ [v]).length = xs.length + 1 := by simp
  have e : ixN (xs ++ [v]).length (-1) = some xs.length := by
    unfold ixN
    rw [hl, if_neg (by decide), if_pos (by omega)]
    congr 1
    omega
  unfold atI
  rw [e]
  show (xs ++ [v])[xs.length]? = some v
  simp

/-! ### what may be subscripted -/
/-- what stands as an index of a plain subscript -/
def PlainIx (b : Expr) : Prop := ∀ o i, subscripted b false o i = operate [o, i] (getItem o i)
/-- a subscript by values -/
def IxR (X : Cx) (r : R2) : Prop :=
  ∀ (value slice : Expr) (pins : List (Addr × Obj)) (s : Shared) (σ : St) (H : Hp) (x y : V) (v u : Value) (Q : VK), Inv X pins σ H s → RelV x v → RelV y u → r x y H Q →
    subscripted slice false v u = operate [v, u] (getItem v u) → wpAny (model X.prog X.w) X.A (subscriptTail value slice v u) (EP X pins σ Q) X.xe s
/-- a call of a builtin's method by values: the receiver, the arguments -/
def MtR (X : Cx) (id : String) (r : V → List V → Hp → VK → Prop) : Prop :=
  ∀ (pins : List (Addr × Obj)) (s : Shared) (σ : St) (H : Hp) (x : V) (xs : List V) (v : Value) (us : List Value) (Q : VK), Inv X pins σ H s → RelV x v → Vals xs us → r x xs H Q →
    wpAny (model X.prog X.w) X.A (call (.builtin id) (v :: us)) (EP X pins σ Q) X.xe s
section
variable {X : Cx} {a b : Expr} {ta tb : TE} {pos : Pos}
theorem IxR.or {r r' : R2} (h : IxR X r) (h' : IxR X r') : IxR X (fun x y H Q => r x y H Q ∨ r' x y H Q) := by
  intro value slice pins s σ H x y v u Q I rx ry q hs
  rcases q with q | q
  · exact h value slice pins s σ H x y v u Q I rx ry q hs
  · exact h' value slice pins s σ H x y v u Q I rx ry q hs
theorem MtR.or {id : String} {r r' : V → List V → Hp → VK → Prop} (h : MtR X id r) (h' : MtR X id r') : MtR X id (fun x xs H Q => r x xs H Q ∨ r' x xs H Q) := by
  intro pins s σ H x xs v us Q I rx rs q
  rcases q with q | q
  · exact h pins s σ H x xs v us Q I rx rs q
  · exact h' pins s σ H x xs v us Q I rx rs q
/-- a[b] -/
theorem pe_ix {r : R2} (hr : IxR X r) (ha : PE X a ta) (hb : PE X b tb) (hs : PlainIx b) : PE X (.Subscript a b pos) (tOp r ta tb) := by
  intro pins s σ H Q I h
  exact Subscript_ (binT ha hb I h fun v u s2 x y H2 I2 rx ry q => hr a b pins s2 σ H2 x y v u Q I2 rx ry q (hs _ _))

def rIxL (K : PySem.W.Frag) : R2 := fun x y H Q => ∃ p xs i v, x = .ref p ∧ y = .int i ∧ SqL K H p xs ∧ atI xs i = some v ∧ Q v H
def rIxT (K : PySem.W.Frag) : R2 := fun x y H Q => ∃ p xs i v, x = .ref p ∧ y = .int i ∧ SqT K H p xs ∧ atI xs i = some v ∧ Q v H
def rIxS : R2 := fun x y H Q => ∃ z i c, x = .str z ∧ y = .int i ∧ z.length ≤ sizeLine ∧ atI z.cps.toList i = some c ∧ Q (.str ⟨#[c]⟩) H
theorem ix_list : IxR X (rIxL X.K) := by
  intro value slice pins s σ H x y v u Q I rx ry h hs
  obtain ⟨p, xs, i, z, rfl, rfl, hq, he, q⟩ := h
  cases rx
  obtain ⟨t, rfl⟩ := ry
  obtain ⟨its, r, pl, hz⟩ := I.list hq
  obtain ⟨j, h1, h2, h3, h4, h5⟩ := atI_get he
  obtain ⟨w, ew, rw'⟩ := r.get h2
  have hl := r.length
  have hn := line63
  have fin : EP X pins σ Q w s := ⟨z, H, I, rw', q⟩
  by_cases h0 : 0 ≤ i
  · have hj : i.toNat = j := by
      rw [seqIndex_of h0 h5] at h1
      exact Option.some.inj h1
    exact item_listR pl.isList h0 (by omega) (by rw [hj]; simpa using ew) fin hs
  · have hj : (i + (its.toArray.size : Int)).toNat = j := by
      rw [seqIndex_neg (by omega) h4] at h1
      rw [List.size_toArray, ← hl]
      exact Option.some.inj h1
    exact subscriptTail_builtinR (x := w) pl.isList.typeIs slot_list_getitem.lookup
      (wpAny_getItem_list_neg (Q := fun r s' => r = w ∧ EP X pins σ Q r s') pl.isList (by omega) (by rw [List.size_toArray] <;> omega) (by omega) (by rw [hj]; simpa using ew) ⟨rfl, fin⟩) hs
theorem ix_tup : IxR X (rIxT X.K) := by
  intro value slice pins s σ H x y v u Q I rx ry h hs
  obtain ⟨p, xs, i, z, rfl, rfl, hq, he, q⟩ := h
  cases rx
  obtain ⟨t, rfl⟩ := ry
  obtain ⟨its, r, pl, hz⟩ := I.tuple hq
  obtain ⟨j, h1, h2, h3, h4, h5⟩ := atI_get he
  obtain ⟨w, ew, rw'⟩ := r.get h2
  have hl := r.length
  have hn := line63
  have fin : EP X pins σ Q w s := ⟨z, H, I, rw', q⟩
  exact subscriptTail_builtinR (x := w) pl.typeIs slot_tuple_getitem.lookup
    (getItem_tuple (j := j) (Q := fun r s' => r = w ∧ EP X pins σ Q r s') pl (by omega) (by omega) (by rw [List.size_toArray, ← hl]; exact h1) (by simpa using ew) ⟨rfl, fin⟩) hs
theorem ix_str : IxR X rIxS := by
  intro value slice pins s σ H x y v u Q I rx ry h hs
  obtain ⟨z, i, c, rfl, rfl, hz, he, q⟩ := h
  obtain ⟨t, rfl⟩ := rx
  obtain ⟨t', rfl⟩ := ry
  obtain ⟨j, h1, h2, h3, h4, h5⟩ := atI_get he
  have hl : z.cps.toList.length = z.length := by simp [Str.length]
  rw [hl] at h1 h4 h5
  have hn := line63
  exact tail_any (typeIs_str s z t) slot_str_getitem.lookup (getItem_str (c := c) (by
    have e1 : decide (i < -(2 ^ 63 : Int)) = false := decide_eq_false (by omega)
    have e2 : decide (i ≥ 2 ^ 63) = false := decide_eq_false (by omega)
    rw [e1, e2, Bool.or_false]) (by rw [h1]; simpa using h2) ⟨.str ⟨#[c]⟩, H, I.tok _, ⟨_, rfl⟩, q⟩) hs
/-- list, tuple or str -/
def rIx (K : PySem.W.Frag) : R2 := fun x y H Q => rIxL K x y H Q ∨ rIxT K x y H Q ∨ rIxS x y H Q
theorem ix_seq : IxR X (rIx X.K) := ix_list.or (ix_tup.or ix_str)

/-! ### xs[i] = v, any sign -/
/-- the list's object behind a store -/
theorem mapSeq_set (its : List Value) (n j : Nat) (u : Value) : Obj.mapSeq (·.setIfInBounds j u) { cls := .type "list", data := .seq its.toArray n } = { cls := .type "list", data := .seq (its.set j u).toArray n } := by
  simp [Obj.mapSeq]
theorem Inv.lst {pins : List (Addr × Obj)} {σ : St} {H : Hp} {s : Shared} {p : Addr} {xs : List V} (I : Inv X pins σ H s) (h : H p = some (.lst xs)) :
    ∃ (its : List Value) (n : Nat), Vals xs its ∧ s.heap.get? p = some { cls := .type "list", data := .seq its.toArray n } ∧ xs.length ≤ sizeLine := by
  obtain ⟨z, its, n, r, e⟩ := I.hok p _ h
  exact ⟨its, n, r, e, z⟩
/-- the list at p is written by an update of its object -/
theorem Inv.lstUpd {pins : List (Addr × Obj)} {σ : St} {H : Hp} {s : Shared} {p : Addr} {xs ys : List V} {its its' : List Value} {n n' : Nat} {f : Obj → Obj} (I : Inv X pins σ H s) (h : H p = some (.lst xs))
    (ho : s.heap.get? p = some { cls := .type "list", data := .seq its.toArray n }) (hf : f { cls := .type "list", data := .seq its.toArray n } = { cls := .type "list", data := .seq its'.toArray n' }) (r : Vals ys its') (hz : ys.length ≤ sizeLine) (t : Nat) :
    Inv X pins σ (upd H p (.lst ys)) { s with heap := s.heap.update p f, toks := t } := by
  have e : (s.heap.update p f).get? p = some { cls := .type "list", data := .seq its'.toArray n' } := by
    rw [Heap.get?_update_self f ho (by rw [hf] <;> rfl), hf]
  refine I.write (x := p) (e := p) (by rw [h]; trivial) (.inl rfl) (fun b u hb q => (Heap.get?_update_other _ _ (Ne.symm hb)).trans q) ⟨_, e⟩ ?_
  exact ⟨hz, its', n', r, e⟩
def rSetL : V → V → V → Hp → (Hp → Prop) → Prop := fun o i v H Q => ∃ p xs k j, o = .ref p ∧ i = .int k ∧ H p = some (.lst xs) ∧ ixN xs.length k = some j ∧ Q (upd H p (.lst (xs.set j v)))
theorem set_list : PSet X rSetL := by
  intro pins s σ H o i v ov iv u Q I ro ri rv h
  obtain ⟨p, xs, k, j, rfl, rfl, hp, hj, q⟩ := h
  cases ro
  obtain ⟨t, rfl⟩ := ri
  obtain ⟨its, n, r, ho, hz⟩ := I.lst hp
  obtain ⟨h1, h2, h3, h4⟩ := ixN_seq hj
  have hl := r.length
  have hn := line63
  have I' : Inv X pins σ (upd H p (.lst (xs.set j v))) { s with heap := s.heap.update p (Obj.mapSeq (·.setIfInBounds j u)) } :=
    I.lstUpd hp ho (mapSeq_set its n j u) (r.set rv j) (by rw [List.length_set]; exact hz) s.toks
  by_cases h0 : 0 ≤ k
  · have hk : k.toNat = j := by
      rw [seqIndex_of h0 h4] at h1
      exact Option.some.inj h1
    exact PySem.W.ki_setAt ho h0 (by omega) (by rw [List.size_toArray, ← hl]; exact h4) (by rw [hk]; exact ⟨_, I', q⟩)
  · have hk : (k + (its.toArray.size : Int)).toNat = j := by
      rw [seqIndex_neg (by omega) h3] at h1
      rw [List.size_toArray, ← hl]
      exact Option.some.inj h1
    exact PySem.W.ki_setBack ho (by omega) (by rw [List.size_toArray, ← hl]; exact h3) (by omega) (by rw [hk]; exact ⟨_, I', q⟩)

/-! ### slices -/
theorem slice_bounds (lo hi : Option Int) (n : Nat) : (sliceBounds lo hi none n).1 = ((HT.sIx n 0 lo : Nat) : Int) ∧ (sliceBounds lo hi none n).2.1 = ((HT.sIx n n hi : Nat) : Int) ∧ (sliceBounds lo hi none n).2.2 = 1 := by
  refine ⟨?_, ?_, rfl⟩
  · cases lo with
    | none => simp [sliceBounds, HT.sIx]
    | some i =>
      simp only [sliceBounds, HT.sIx, Option.getD_none, show (1 : Int) > 0 by decide, if_true]
      by_cases h : i < 0
      · simp only [h, if_true] <;> omega
      · simp only [h, if_false] <;> omega
  · cases hi with
    | none => simp [sliceBounds, HT.sIx]
    | some i =>
      simp only [sliceBounds, HT.sIx, Option.getD_none, show (1 : Int) > 0 by decide, if_true]
      by_cases h : i < 0
      · simp only [h, if_true] <;> omega
      · simp only [h, if_false] <;> omega
theorem slicePick_cut (its : List Value) (lo hi : Option Int) : slicePick its.toArray lo hi none = ((its.drop (HT.sIx its.length 0 lo)).take (HT.sIx its.length its.length hi - HT.sIx its.length 0 lo)).toArray := by
  obtain ⟨h1, h2, h3⟩ := slice_bounds lo hi its.toArray.size
  unfold slicePick
  rw [h1, h2, h3]
  simp only [sliceRange_one, pick_run, List.size_toArray] <;> rfl
/-- xs[lo:hi] of a list: a new list -/
def rSlL (K : PySem.W.Frag) : V → Option Int → Option Int → Hp → VK → Prop := fun x lo hi H Q => ∃ a xs, x = .ref a ∧ SqL K H a xs ∧ ∀ p, H p = none → Q (.ref p) (upd H p (.lst (cutV xs lo hi)))
theorem sl_list : SlR X (rSlL X.K) := by
  intro pins s σ H x v vl vu lo hi sl Q I rx hs pl pu h
  obtain ⟨a, xs, rfl, hx, q⟩ := h
  cases rx
  obtain ⟨its, r, ht, hz⟩ := I.list hx
  have hlen := r.length
  refine ⟨"list", _, slot_list_getitem.lookup, ht.isList.typeIs, ?_⟩
  refine wpAny_getItem_list_slice ht.isList hs pl pu .none (by simp) ?_ (by rw [List.size_toArray] <;> omega)
  rw [slicePick_cut, ← hlen]
  refine ⟨.ref s.heap.objs.size, _, I.laid (t' := s.toks) (o := .lst (cutV xs lo hi)) (fun b ob q => Heap.get?_push_of_some _ q) (Nat.le_refl _) ?_, rfl, q _ (I.hok.fresh (Nat.le_refl _))⟩
  exact ⟨Nat.le_trans (cutV_length xs lo hi) hz, _, 0, (r.drop (HT.sIx xs.length 0 lo)).take (HT.sIx xs.length xs.length hi - HT.sIx xs.length 0 lo), Heap.get?_push_size _ rfl⟩

/-! ### in, not in: flat items -/
def flatV : V → Bool
  | .non => true
  | .bl _ => true
  | .int _ => true
  | .str _ => true
  | _ => false
/-- == of flat values -/
def eqV : V → V → Bool
  | .non, .non => true
  | .bl a, .bl b => a == b
  | .bl a, .int b => (if a then 1 else 0) == b
  | .int a, .bl b => a == (if b then 1 else 0)
  | .int a, .int b => a == b
  | .str a, .str b => a == b
  | _, _ => false
theorem eqAt_V {A : Around} {s : Shared} {y x : V} {u v : Value} (ry : RelV y u) (rx : RelV x v) (fy : flatV y = true) (fx : flatV x = true) : SeqAt.EqAt A s u v (eqV y x) := by
  cases y with
  | non =>
    cases ry
    cases x with
    | non => cases rx; exact SeqAt.EqAt.same _
    | bl b => cases rx; exact SeqAt.EqAt.none_bool b
    | int b => obtain ⟨t, rfl⟩ := rx; exact SeqAt.EqAt.none_int b t
    | str b => obtain ⟨t, rfl⟩ := rx; exact SeqAt.EqAt.none_str b t
    | _ => exact absurd (show false = true from fx) Bool.false_ne_true
  | bl a =>
    cases ry
    cases x with
    | non => cases rx; exact SeqAt.EqAt.bool_none a
    | bl b => cases rx; exact SeqAt.EqAt.bool_bool a b
    | int b => obtain ⟨t, rfl⟩ := rx; exact SeqAt.EqAt.bool_int a b t
    | str b => obtain ⟨t, rfl⟩ := rx; exact SeqAt.EqAt.bool_str a b t
    | _ => exact absurd (show false = true from fx) Bool.false_ne_true
  | int a =>
    obtain ⟨t', rfl⟩ := ry
    cases x with
    | non => cases rx; exact SeqAt.EqAt.int_none a t'
    | bl b => cases rx; exact SeqAt.EqAt.int_bool a t' b
    | int b => obtain ⟨t, rfl⟩ := rx; exact SeqAt.EqAt.int_int a t' b t
    | str b => obtain ⟨t, rfl⟩ := rx; exact SeqAt.EqAt.int_str a t' b t
    | _ => exact absurd (show false = true from fx) Bool.false_ne_true
  | str a =>
    obtain ⟨t', rfl⟩ := ry
    cases x with
    | non => cases rx; exact SeqAt.EqAt.str_none a t'
    | bl b => cases rx; exact SeqAt.EqAt.str_bool a t' b
    | int b => obtain ⟨t, rfl⟩ := rx; exact SeqAt.EqAt.str_int a t' b t
    | str b => obtain ⟨t, rfl⟩ := rx; exact SeqAt.EqAt.str_str a t' b t
    | _ => exact absurd (show false = true from fx) Bool.false_ne_true
  | _ => exact absurd (show false = true from fy) Bool.false_ne_true
/-- the items' answers, read off the values (a value's own answer does not lean on its token) -/
def eqU (x : V) (u : Value) : Bool := match u with
  | .none => eqV .non x
  | .bool b => eqV (.bl b) x
  | .int i _ => eqV (.int i) x
  | .str z _ => eqV (.str z) x
  | _ => false
theorem eqU_of {x y : V} {u : Value} (r : RelV y u) (f : flatV y = true) : eqU x u = eqV y x := by
  cases y with
  | non => cases r; rfl
  | bl b => cases r; rfl
  | int i => obtain ⟨t, rfl⟩ := r; rfl
  | str z => obtain ⟨t, rfl⟩ := r; rfl
  | _ => exact absurd (show false = true from f) Bool.false_ne_true
theorem any_eqU {x : V} : ∀ {xs : List V} {us : List Value}, Vals xs us → xs.all flatV = true → us.any (eqU x) = xs.any fun y => eqV y x
  | _, _, .nil, _ => rfl
  | y :: xs, u :: us, .cons r t, f => by
    rw [List.all_cons, Bool.and_eq_true] at f
    rw [List.any_cons, List.any_cons, eqU_of r f.1, any_eqU t f.2]
theorem mem_eqAt {A : Around} {s : Shared} {x : V} {v : Value} (rx : RelV x v) (fx : flatV x = true) : ∀ {xs : List V} {us : List Value}, Vals xs us → xs.all flatV = true → ∀ u ∈ us, SeqAt.EqAt A s u v (eqU x u)
  | _, _, .nil, _ => fun u hu => by cases hu
  | y :: xs, u :: us, .cons r t, f => fun u' hu => by
    rw [List.all_cons, Bool.and_eq_true] at f
    rcases List.mem_cons.mp hu with rfl | hu
    · rw [eqU_of r f.1]; exact eqAt_V r rx f.1 fx
    · exact mem_eqAt rx fx t f.2 u' hu
def inV (x : V) (xs : List V) : Bool := xs.any fun y => eqV y x
/-- x in a list or tuple of flat items -/
def rIn (K : PySem.W.Frag) (neg : Bool) : R2 := fun x y H Q => ∃ p xs, y = .ref p ∧ (SqL K H p xs ∨ SqT K H p xs) ∧ flatV x = true ∧ xs.all flatV = true ∧ Q (.bl (if neg then !inV x xs else inV x xs)) H
theorem op_in_seq : OpR X (compareOp .In) (rIn X.K false) := by
  intro pins s σ H x y v u Q I rx ry h
  obtain ⟨p, xs, rfl, hq, fx, fs, q⟩ := h
  cases ry
  rcases hq with hq | hq
  · obtain ⟨its, r, pl, hz⟩ := I.list hq
    refine SeqAt.in_listAt (eqU x) pl.isList (fun w hw => mem_eqAt rx fx r fs w (by simpa using hw)) ⟨.bl _, H, I, rfl, ?_⟩
    rw [show its.toArray.any (eqU x) = its.any (eqU x) by simp, any_eqU r fs]
    exact q
  · obtain ⟨its, r, pl, hz⟩ := I.tuple hq
    refine SeqAt.in_tupleAt (eqU x) pl (fun w hw => mem_eqAt rx fx r fs w (by simpa using hw)) ⟨.bl _, H, I, rfl, ?_⟩
    rw [show its.toArray.any (eqU x) = its.any (eqU x) by simp, any_eqU r fs]
    exact q
theorem op_notIn_seq : OpR X (compareOp .NotIn) (rIn X.K true) := by
  intro pins s σ H x y v u Q I rx ry h
  obtain ⟨p, xs, rfl, hq, fx, fs, q⟩ := h
  cases ry
  rcases hq with hq | hq
  · obtain ⟨its, r, pl, hz⟩ := I.list hq
    refine SeqAt.notIn_listAt (eqU x) pl.isList (fun w hw => mem_eqAt rx fx r fs w (by simpa using hw)) ⟨.bl _, H, I, rfl, ?_⟩
    rw [show its.toArray.any (eqU x) = its.any (eqU x) by simp, any_eqU r fs]
    exact q
  · obtain ⟨its, r, pl, hz⟩ := I.tuple hq
    refine SeqAt.notIn_tupleAt (eqU x) pl (fun w hw => mem_eqAt rx fx r fs w (by simpa using hw)) ⟨.bl _, H, I, rfl, ?_⟩
    rw [show its.toArray.any (eqU x) = its.any (eqU x) by simp, any_eqU r fs]
    exact q
theorem op_notIn_str : OpR X (compareOp .NotIn) (fun x y H Q => ∃ i j, x = .str i ∧ y = .str j ∧ Q (.bl (!(!(Builtin.Str.occurrences j i 0 j.length 1).isEmpty))) H) := by
  intro pins s σ H x y v u Q I rx ry h
  obtain ⟨i, j, rfl, rfl, q⟩ := h
  obtain ⟨t, rfl⟩ := rx
  obtain ⟨t', rfl⟩ := ry
  exact notIn_str ⟨.bl _, H, I, rfl, q⟩

/-! ### len, list(x), tuple(x) of any list or tuple that is read -/
theorem call_len_seq : CallR X (.builtin "len") (fun xs H Q => ∃ p ys, xs = [.ref p] ∧ (SqL X.K H p ys ∨ SqT X.K H p ys) ∧ Q (.int ys.length) H) := by
  intro pins s σ H xs us Q I r h
  obtain ⟨p, ys, rfl, hq, q⟩ := h
  obtain ⟨u, rfl, rx⟩ := vals1 r
  cases rx
  have hn := line63
  rcases hq with hq | hq
  · obtain ⟨its, r', pl, hz⟩ := I.list hq
    have hlen := r'.length
    exact Calls.call_len_list pl.isList (by simp only [List.size_toArray] <;> omega) ⟨.int ys.length, H, I.tok _, ⟨s.toks + 1, by rw [List.size_toArray, hlen]⟩, q⟩
  · obtain ⟨its, r', pl, hz⟩ := I.tuple hq
    have hlen := r'.length
    exact len_tuple pl (by simp only [List.size_toArray] <;> omega) ⟨.int ys.length, H, I.tok _, ⟨s.toks + 1, by rw [List.size_toArray, hlen]⟩, q⟩
theorem call_len_str : CallR X (.builtin "len") (fun xs H Q => ∃ z, xs = [.str z] ∧ z.length ≤ sizeLine ∧ Q (.int z.length) H) := by
  intro pins s σ H xs us Q I r h
  obtain ⟨z, rfl, hz, q⟩ := h
  obtain ⟨u, rfl, t, rfl⟩ := vals1 r
  have hn := line63
  exact len_str (by omega) ⟨.int z.length, H, I.tok _, ⟨_, rfl⟩, q⟩
theorem CallR.or {f : Value} {r r' : List V → Hp → VK → Prop} (h : CallR X f r) (h' : CallR X f r') : CallR X f (fun xs H Q => r xs H Q ∨ r' xs H Q) := by
  intro pins s σ H xs us Q I rs q
  rcases q with q | q
  · exact h pins s σ H xs us Q I rs q
  · exact h' pins s σ H xs us Q I rs q
theorem call_list_of : CallR X (.type "list") (fun xs H Q => ∃ p ys, xs = [.ref p] ∧ (SqL X.K H p ys ∨ SqT X.K H p ys) ∧ ∀ l, H l = none → Q (.ref l) (upd H l (.lst ys))) := by
  intro pins s σ H xs us Q I r h
  obtain ⟨p, ys, rfl, hq, q⟩ := h
  obtain ⟨u, rfl, rx⟩ := vals1 r
  cases rx
  have fin : ∀ (its : List Value), Vals ys its → ys.length ≤ sizeLine → ∀ (h' : Heap) (c' : Nat), (∀ b o', s.heap.get? b = some o' → h'.get? b = some o') →
      h'.get? s.heap.objs.size = some { cls := .type "list", dict := none, data := .seq its.toArray c', slots := #[] } → EP X pins σ Q (.ref s.heap.objs.size) { s with heap := h' } := fun its r' hz h' c' kp e =>
    ⟨.ref s.heap.objs.size, _, I.laid (t' := s.toks) kp (Nat.le_refl _) (show ObjOk X.prog X.w _ h' _ (.lst ys) from ⟨hz, its, c', r', e⟩), rfl, q _ (I.hok.fresh (Nat.le_refl _))⟩
  rcases hq with hq | hq
  · obtain ⟨its, r', pl, hz⟩ := I.list hq
    have hlen := r'.length
    obtain ⟨o, ho, hc, n, hd⟩ := pl.isList
    exact call_list_seq p (.inl rfl) ho hc hd (fun h' c' kp e => fin its r' hz h' c' kp e) (by simp only [List.size_toArray] <;> omega)
  · obtain ⟨its, r', pl, hz⟩ := I.tuple hq
    have hlen := r'.length
    obtain ⟨o, ho, hc, n, hd⟩ := pl
    exact call_list_seq p (.inr rfl) ho hc hd (fun h' c' kp e => fin its r' hz h' c' kp e) (by simp only [List.size_toArray] <;> omega)
theorem call_tuple_of : CallR X (.type "tuple") (fun xs H Q => ∃ p ys, xs = [.ref p] ∧ ((SqL X.K H p ys ∧ ∀ l, H l = none → Q (.ref l) (upd H l (.tup ys))) ∨ (SqT X.K H p ys ∧ Q (.ref p) H))) := by
  intro pins s σ H xs us Q I r h
  obtain ⟨p, ys, rfl, h⟩ := h
  obtain ⟨u, rfl, rx⟩ := vals1 r
  cases rx
  rcases h with ⟨hq, q⟩ | ⟨hq, q⟩
  · obtain ⟨its, r', pl, hz⟩ := I.list hq
    have hlen := r'.length
    refine call_tuple_list pl.isList (fun h' kp => ?_) (by simp only [List.size_toArray] <;> omega)
    have I1 : Inv X pins σ H { s with heap := h' } := I.kept (t' := s.toks) kp
    have I2 : Inv X pins σ (upd H h'.objs.size (.tup ys)) { s with heap := h'.push { cls := .type "tuple", data := .seq its.toArray } } :=
      I1.laid (t' := s.toks) (fun b o e => Heap.get?_push_of_some _ e) (Nat.le_refl _) (show ObjOk X.prog X.w _ _ _ (.tup ys) from ⟨hz, its, r', IsTup.new _ _⟩)
    exact ⟨.ref h'.objs.size, _, I2, rfl, q _ (I1.hok.fresh (Nat.le_refl _))⟩
  · obtain ⟨its, r', pl, hz⟩ := I.tuple hq
    exact call_tuple_same pl ⟨.ref p, H, I, rfl, q⟩

/-! ### the call of a builtin's method: o.m(..) -/
/-- the value is of that builtin type -/
def tyV (K : PySem.W.Frag) (T : String) (x : V) (H : Hp) : Prop := match x with
  | .str _ => T = "str"
  | .int _ => T = "int"
  | .ref p => (T = "list" ∧ ∃ xs, SqL K H p xs) ∨ (T = "tuple" ∧ ∃ o, K.lookup p = some o ∧ o.cls = .type "tuple" ∧ o.dict = none) ∨
      (T = "dict" ∧ ((∃ kvs, H p = some (.dK kvs)) ∨ ∃ kvs, H p = some (.dT kvs))) ∨ (T = "set" ∧ ∃ S n, H p = some (.set S n))
  | _ => False
theorem tyV_is {pins : List (Addr × Obj)} {σ : St} {H : Hp} {s : Shared} {T : String} {x : V} {v : Value} (I : Inv X pins σ H s) (r : RelV x v) (ty : tyV X.K T x H) :
    s.TypeIs v T ∧ ∀ a, v = .ref a → ∃ ob, s.heap.get? a = some ob ∧ ob.dict = none := by
  cases x with
  | str z =>
    obtain ⟨t, rfl⟩ := r
    cases (show T = "str" from ty)
    exact ⟨typeIs_str s z t, fun _ e => nomatch e⟩
  | int i =>
    obtain ⟨t, rfl⟩ := r
    cases (show T = "int" from ty)
    exact ⟨typeIs_int s i t, fun _ e => nomatch e⟩
  | ref p =>
    cases r
    rcases ty with ⟨rfl, xs, hq⟩ | ⟨rfl, o, hk, hc, hd⟩ | ⟨rfl, hk⟩ | ⟨rfl, S, n, hk⟩
    · obtain ⟨its, _, pl, _⟩ := I.list hq
      refine ⟨pl.isList.typeIs, fun a e => ?_⟩
      cases e
      obtain ⟨o, n, e, c, hd, _⟩ := pl
      exact ⟨o, e, hd⟩
    · refine ⟨⟨o, I.kIn p o hk, hc⟩, fun a e => ?_⟩
      cases e
      exact ⟨o, I.kIn _ o hk, hd⟩
    · have z : ∃ o, s.heap.get? p = some o ∧ o.ExactDict := by
        rcases hk with ⟨kvs, hk⟩ | ⟨kvs, hk⟩
        · obtain ⟨_, _, _, _, o, _, _, e, ex, _⟩ := I.hok p _ hk
          exact ⟨o, e, ex⟩
        · obtain ⟨_, _, _, _, o, _, _, e, ex, _⟩ := I.hok p _ hk
          exact ⟨o, e, ex⟩
      obtain ⟨o, e, ex⟩ := z
      refine ⟨⟨o, e, ex.1⟩, fun a e2 => ?_⟩
      cases e2
      exact ⟨o, e, ex.2.1⟩
    · obtain ⟨o, _, _, _, e, ex, _⟩ := I.hok p _ hk
      refine ⟨⟨o, e, ex.1⟩, fun a e2 => ?_⟩
      cases e2
      exact ⟨o, e, ex.2.1⟩
  | _ => exact False.elim ty
def tBM0 (K : PySem.W.Frag) (T : String) (r : V → List V → Hp → VK → Prop) (to : TE) : TE := fun σ H Q => to σ H fun x H1 => tyV K T x H1 ∧ r x [] H1 Q
def tBM (K : PySem.W.Frag) (T : String) (r : V → List V → Hp → VK → Prop) (to : TE) (t : TA) : TE := fun σ H Q => to σ H fun x H1 => tyV K T x H1 ∧ t σ H1 fun xs H2 => r x xs H2 Q
variable {o e : Expr} {es : List Expr} {to : TE} {t : TA} {name : Str} {apos cpos : Pos} {T id : String} {r : V → List V → Hp → VK → Prop}
theorem pe_bm0 (pa : PlainAttrs T) (slot : Slot T name id) (hty : typeOf (.builtin id) = pure (.type "method_descriptor")) (hm : MtR X id r) (ho : PE X o to)
    (hbase : attributeBase o name X.env (eval o X.env) = eval o X.env := by rfl) (hline : (apos.endLine == cpos.line) = true := by rfl) : PE X (.Call (.Attribute o name apos) [] [] cpos) (tBM0 X.K T r to) := by
  intro pins s σ H Q I h
  refine wpAny_Call_method0_late hbase hline (thn (ho pins s σ H _ I h) fun v s1 ⟨x, H1, I1, r1, ty, q1⟩ => ?_)
  obtain ⟨h1, h2⟩ := tyV_is I1 r1 ty
  exact ⟨T, id, pa, slot, hty, h1, h2, Calls.callWith_builtin rfl (PySem.evalArgs_none (hm pins s1 σ H1 x [] v [] Q I1 r1 .nil q1))⟩
theorem pe_bm (pa : PlainAttrs T) (slot : Slot T name id) (hty : typeOf (.builtin id) = pure (.type "method_descriptor")) (hm : MtR X id r) (ho : PE X o to) (ha : PA X (e :: es) t)
    (hbase : attributeBase o name X.env (eval o X.env) = eval o X.env := by rfl)
    (hfew : ((backTo cpos (starEach (e :: es) X.env)).all (fun x => !x.1) && (backToKw cpos (keywordEach [] X.env)).all (fun x => x.1.isSome)
      && decide ((e :: es).length + ([] : List Keyword).length + (if ([] : List Keyword).isEmpty then 0 else 1) < 30)) = true := by rfl)
    (hline : (apos.endLine == cpos.line) = true := by rfl) (hs : starEach (e :: es) X.env = (false, eval e X.env) :: starEach es X.env := by rfl) (hplain : (backTo cpos (starEach es X.env)).any (·.1) = false := by rfl) :
    PE X (.Call (.Attribute o name apos) (e :: es) [] cpos) (tBM X.K T r to t) := by
  intro pins s σ H Q I h
  refine wpAny_Call_method_late hbase hfew hline rfl (thn (ho pins s σ H _ I h) fun v s1 ⟨x, H1, I1, r1, ty, q1⟩ => ?_)
  obtain ⟨h1, h2⟩ := tyV_is I1 r1 ty
  refine ⟨T, id, pa, slot, hty, h1, h2, ?_⟩
  have hA := ha cpos pins s1 σ H1 _ I1 q1
  rw [hs] at hA ⊢
  refine Calls.callWith_builtin (by show (false || (backTo cpos (starEach es X.env)).any (·.1)) = false; rw [hplain] <;> rfl) (Calls.evalArgs_plain ?_)
  exact thn hA fun us s2 ⟨vs, H2, I2, r2, q2⟩ => hm pins s2 σ H2 x vs v us Q I2 r1 r2 q2
/- xs.append(e), list.index on a module's tuple .. are MtR facts of 06m -/
end
end L2

namespace L2
open PySem PySem.Spec PyProof.Rows

def MtM (X : Cx) (id : String) (r : V → List V → Hp → VK → Prop) : Prop :=
  ∀ (pins : List (Addr × Obj)) (s : Shared) (σ : St) (H : Hp) (x : V) (xs : List V) (v : Value) (us : List Value) (Q : VK), Inv X pins σ H s → RelV x v → Vals xs us → r x xs H Q →
    wpAny (model X.prog X.w) X.A (call (.builtin id) (v :: us)) (EP X pins σ Q) X.xe s

/-! ### lists of values -/
theorem Vals.one : ∀ {x : V} {us : List Value}, Vals [x] us → ∃ u, us = [u] ∧ RelV x u
  | _, _, .cons r .nil => ⟨_, rfl, r⟩
theorem Vals.two : ∀ {x y : V} {us : List Value}, Vals [x, y] us → ∃ u v, us = [u, v] ∧ RelV x u ∧ RelV y v
  | _, _, _, .cons r (.cons q .nil) => ⟨_, _, rfl, r, q⟩
theorem Vals.zero : ∀ {us : List Value}, Vals [] us → us = []
  | _, .nil => rfl
theorem Vals.dropLast {xs : List V} {us : List Value} (h : Vals xs us) : Vals xs.dropLast us.dropLast := by
  induction h with
  | nil => exact .nil
  | cons r t ih =>
    cases t with
    | nil => exact .nil
    | cons q t' => exact .cons r ih
theorem Vals.eraseIdx : ∀ {xs : List V} {us : List Value} (i : Nat), Vals xs us → Vals (xs.eraseIdx i) (us.eraseIdx i)
  | _, _, _, .nil => .nil
  | _, _, 0, .cons _ t => t
  | _, _, i + 1, .cons r t => .cons r (Vals.eraseIdx i t)
theorem Vals.reverse {xs : List V} {us : List Value} (h : Vals xs us) : Vals xs.reverse us.reverse := by
  induction h with
  | nil => exact .nil
  | cons r t ih => rw [List.reverse_cons, List.reverse_cons]; exact Vals.append ih (.cons r .nil)
theorem Vals.rep {xs : List V} {us : List Value} (h : Vals xs us) : ∀ k : Nat, Vals (List.replicate k xs).flatten (List.replicate k us).flatten
  | 0 => .nil
  | k + 1 => by
    rw [List.replicate_succ, List.replicate_succ, List.flatten_cons, List.flatten_cons]
    exact Vals.append h (Vals.rep h k)
theorem erase_last {α : Type} (l : List α) : l.eraseIdx (l.length - 1) = l.dropLast := by
  induction l with
  | nil => rfl
  | cons a r ih =>
    cases r with
    | nil => rfl
    | cons b r =>
      have e : (a :: b :: r).length - 1 = ((b :: r).length - 1) + 1 := by
        have h1 : (a :: b :: r).length = r.length + 2 := rfl
        have h2 : (b :: r).length = r.length + 1 := rfl
        omega
      rw [e, List.eraseIdx_cons_succ, ih]
      all_goals rfl
theorem len_erase {α : Type} : ∀ (l : List α) (i : Nat), (l.eraseIdx i).length ≤ l.length
  | [], _ => Nat.le_refl _
  | _ :: _, 0 => Nat.le_succ _
  | _ :: r, i + 1 => Nat.succ_le_succ (len_erase r i)
theorem foldl_rep (its : List Value) : ∀ (k : Nat) (acc : List Value),
    List.foldl (fun x1 x2 => x1 ++ x2) acc.toArray (List.replicate k its.toArray) = (acc ++ (List.replicate k its).flatten).toArray
  | 0, acc => by simp
  | k + 1, acc => by
    have e : acc.toArray ++ its.toArray = (acc ++ its).toArray := by simp
    have e2 : (acc ++ its) ++ (List.replicate k its).flatten = acc ++ (List.replicate (k + 1) its).flatten := by
      rw [List.replicate_succ, List.flatten_cons, List.append_assoc]
    rw [← e2, ← foldl_rep its k (acc ++ its), ← e, List.replicate_succ, List.foldl_cons]

section
variable {X : Cx} {pins : List (Addr × Obj)} {σ : St} {H : Hp} {s : Shared} {l b : Addr} {xs ys zs : List V}

/-! ### the two steps: a tracked list is rewritten, a new list is laid -/
theorem Inv.lset {its its' : List Value} {n : Nat} {f : Array Value → Array Value} {t' : Nat} (I : Inv X pins σ H s) (hH : H l = some (.lst xs))
    (e : s.heap.get? l = some { cls := .type "list", data := .seq its.toArray n }) (hf : f its.toArray = its'.toArray) (hv : Vals ys its') (hz : ys.length ≤ sizeLine) :
    Inv X pins σ (upd H l (.lst ys)) { s with heap := s.heap.update l (Obj.mapSeq f), toks := t' } := by
  have q := PySem.IsL.update e f
  rw [hf] at q
  refine I.write (x := l) (e := l) (by rw [hH]; exact trivial) (.inl rfl) (fun b' u hb hu => (Heap.get?_update_other s.heap (Obj.mapSeq f) (Ne.symm hb)).trans hu) ⟨_, q⟩ ?_
  exact ⟨hz, its', _, hv, q⟩
theorem Inv.lnew {its : List Value} {t' : Nat} (I : Inv X pins σ H s) (hv : Vals ys its) (hz : ys.length ≤ sizeLine) :
    Inv X pins σ (upd H s.heap.objs.size (.lst ys)) { s with heap := s.heap.push { cls := .type "list", data := .seq its.toArray }, toks := t' } :=
  I.laid (fun _ _ q => Heap.get?_push_of_some _ q) (Nat.le_refl _) ⟨hz, its, 0, hv, Heap.get?_push_size _ rfl⟩
theorem Inv.fresh (I : Inv X pins σ H s) : H s.heap.objs.size = none := I.hok.fresh (Nat.le_refl _)
theorem Inv.lstM (I : Inv X pins σ H s) (hH : H l = some (.lst xs)) : xs.length ≤ sizeLine ∧ ∃ (its : List Value) (n : Nat), Vals xs its ∧ xs.length = its.length ∧ s.heap.get? l = some { cls := .type "list", data := .seq its.toArray n } := by
  obtain ⟨z, its, n, r, e⟩ := I.hok l _ hH
  exact ⟨z, its, n, r, r.length, e⟩

theorem notLongL {n : Nat} (h : n ≤ sizeLine) : Builtin.List.listTooLong n = false := by
  unfold Builtin.List.listTooLong
  exact decide_eq_false (by omega)
end

section
variable {X : Cx}

/-! ### methods -/
def rAppend : V → List V → Hp → VK → Prop := fun x vs H Q => ∃ l xs y, x = .ref l ∧ vs = [y] ∧ H l = some (.lst xs) ∧ xs.length < sizeLine ∧ Q .non (upd H l (.lst (xs ++ [y])))
theorem mt_append : MtM X "list.append" rAppend := by
  intro pins s σ H x vs v us Q I rx rv h
  obtain ⟨l, xs, y, rfl, rfl, hH, hz, q⟩ := h
  cases rx
  obtain ⟨u, rfl, ru⟩ := rv.one
  obtain ⟨z, its, n, r, hl, e⟩ := I.lstM hH
  refine call_meets F.slot_list_append ⟨_, e, rfl⟩ F.entry_list_append (F.args_list_append_2 _ _) (PySem.list_append l its.toArray n u (by rw [List.size_toArray]; omega)) ⟨e, ?_⟩
  refine ⟨.non, _, I.lset (its' := its ++ [u]) hH e (by simp) (r.append (.cons ru .nil)) ?_, rfl, q⟩
  rw [List.length_append, List.length_singleton]
  omega

def rExtend : V → List V → Hp → VK → Prop := fun x vs H Q => ∃ l b xs zs, x = .ref l ∧ vs = [.ref b] ∧ H l = some (.lst xs) ∧ H b = some (.lst zs) ∧ xs.length + zs.length ≤ sizeLine ∧ Q .non (upd H l (.lst (xs ++ zs)))
theorem mt_extend : MtM X "list.extend" rExtend := by
  intro pins s σ H x vs v us Q I rx rv h
  obtain ⟨l, b, xs, zs, rfl, rfl, hH, hB, hz, q⟩ := h
  cases rx
  obtain ⟨u, rfl, ru⟩ := rv.one
  cases ru
  obtain ⟨z, its, n, r, hl, e⟩ := I.lstM hH
  obtain ⟨z2, its2, n2, r2, hl2, e2⟩ := I.lstM hB
  have hsz : its.toArray.size + its2.toArray.size ≤ sizeLine := by rw [List.size_toArray, List.size_toArray]; omega
  have hlong : ¬ (!its.toArray.isEmpty && Builtin.List.listTooLong (its.toArray.size + its2.toArray.size)) = true := by
    rw [notLongL hsz, Bool.and_false]
    exact Bool.false_ne_true
  refine call_meets F.slot_list_extend ⟨_, e, rfl⟩ F.entry_list_extend (F.args_list_extend_2 _ _)
    (AutoSeq1.list_extend_list_list_0 l its.toArray n b its2.toArray n2 hlong (by rw [List.size_toArray]; omega) (by omega)) ⟨e, e2, ?_⟩
  refine ⟨.non, _, I.lset (its' := its ++ its2) hH e (by simp) (r.append r2) ?_, rfl, q⟩
  rw [List.length_append]
  omega

def rPop : V → List V → Hp → VK → Prop := fun x vs H Q => ∃ l xs y, x = .ref l ∧ vs = [] ∧ H l = some (.lst xs) ∧ xs[xs.length - 1]? = some y ∧ Q y (upd H l (.lst xs.dropLast))
theorem mt_pop : MtM X "list.pop" rPop := by
  intro pins s σ H x vs v us Q I rx rv h
  obtain ⟨l, xs, y, rfl, rfl, hH, hy, q⟩ := h
  cases rx
  have hus := rv.zero
  subst hus
  obtain ⟨z, its, n, r, hl, e⟩ := I.lstM hH
  obtain ⟨u, hu, ru⟩ := r.get hy
  have hy' : its.toArray[its.toArray.size - 1]? = some u := by
    show its.toArray[its.length - 1]? = some u
    rw [← Array.getElem?_toList, ← hl]
    exact hu
  refine call_meets F.slot_list_pop ⟨_, e, rfl⟩ F.entry_list_pop (F.args_list_pop_1 _) (MeetsSeq.list_pop_last l its.toArray n u hy' (by rw [List.size_toArray]; omega)) ⟨e, ?_⟩
  refine ⟨y, _, I.lset (its' := its.dropLast) hH e ?_ r.dropLast ?_, ru, q⟩
  · show its.toArray.eraseIdxIfInBounds (its.toArray.size - 1) = its.dropLast.toArray
    rw [List.size_toArray, List.eraseIdxIfInBounds_toArray, erase_last]
  · rw [List.length_dropLast]
    omega

def rPopAt : V → List V → Hp → VK → Prop := fun x vs H Q => ∃ l xs i k y, x = .ref l ∧ vs = [.int i] ∧ H l = some (.lst xs) ∧ -(2 ^ 63) ≤ i ∧ i < 2 ^ 63 ∧ seqIndex? i xs.length = some k ∧ xs[k]? = some y ∧ Q y (upd H l (.lst (xs.eraseIdx k)))
theorem mt_popAt : MtM X "list.pop" rPopAt := by
  intro pins s σ H x vs v us Q I rx rv h
  obtain ⟨l, xs, i, k, y, rfl, rfl, hH, h1, h2, hk, hy, q⟩ := h
  cases rx
  obtain ⟨u, rfl, ru⟩ := rv.one
  obtain ⟨t, rfl⟩ := ru
  obtain ⟨z, its, n, r, hl, e⟩ := I.lstM hH
  obtain ⟨w, hw, rw'⟩ := r.get hy
  refine call_meets F.slot_list_pop ⟨_, e, rfl⟩ F.entry_list_pop (F.args_list_pop_2 _ _)
    (MeetsSeq.list_pop_at l its.toArray n i t k w (fitsIndex_both h1 h2) (by rw [List.size_toArray, ← hl]; exact hk) (by rw [← Array.getElem?_toList]; exact hw) (by rw [List.size_toArray]; omega)) ⟨e, ?_⟩
  refine ⟨y, _, I.lset (its' := its.eraseIdx k) hH e ?_ (r.eraseIdx k) ?_, rw', q⟩
  · show its.toArray.eraseIdxIfInBounds k = (its.eraseIdx k).toArray
    rw [List.eraseIdxIfInBounds_toArray]
  · have := len_erase xs k
    omega

def rReverse : V → List V → Hp → VK → Prop := fun x vs H Q => ∃ l xs, x = .ref l ∧ vs = [] ∧ H l = some (.lst xs) ∧ Q .non (upd H l (.lst xs.reverse))
theorem mt_reverse : MtM X "list.reverse" rReverse := by
  intro pins s σ H x vs v us Q I rx rv h
  obtain ⟨l, xs, rfl, rfl, hH, q⟩ := h
  cases rx
  have hus := rv.zero
  subst hus
  obtain ⟨z, its, n, r, hl, e⟩ := I.lstM hH
  refine call_meets F.slot_list_reverse ⟨_, e, rfl⟩ F.entry_list_reverse (F.args_list_reverse_1 _) (AutoSeq1.list_reverse_list_0 l its.toArray n (by rw [List.size_toArray]; omega)) ⟨e, ?_⟩
  refine ⟨.non, _, I.lset (its' := its.reverse) hH e (by simp) r.reverse ?_, rfl, q⟩
  rw [List.length_reverse]
  omega

def rClear : V → List V → Hp → VK → Prop := fun x vs H Q => ∃ l xs, x = .ref l ∧ vs = [] ∧ H l = some (.lst xs) ∧ Q .non (upd H l (.lst []))
theorem mt_clear : MtM X "list.clear" rClear := by
  intro pins s σ H x vs v us Q I rx rv h
  obtain ⟨l, xs, rfl, rfl, hH, q⟩ := h
  cases rx
  have hus := rv.zero
  subst hus
  obtain ⟨z, its, n, r, hl, e⟩ := I.lstM hH
  refine call_meets F.slot_list_clear ⟨_, e, rfl⟩ F.entry_list_clear (F.args_list_clear_1 _) (AutoSeq1.list_clear_list_0 l its.toArray n (by rw [List.size_toArray]; omega)) ⟨e, ?_⟩
  exact ⟨.non, _, I.lset (its' := []) (ys := []) hH e rfl .nil (Nat.zero_le _), rfl, q⟩

/-! ### list + list, list += list, list * int -/
def rCat : R2 := fun x y H Q => ∃ l b xs zs, x = .ref l ∧ y = .ref b ∧ H l = some (.lst xs) ∧ H b = some (.lst zs) ∧ xs.length + zs.length ≤ sizeLine ∧ ∀ p, H p = none → Q (.ref p) (upd H p (.lst (xs ++ zs)))
theorem op_cat : OpR X (binaryOp .Add) rCat := by
  intro pins s σ H x y v u Q I rx ry h
  obtain ⟨l, b, xs, zs, rfl, rfl, hH, hB, hz, q⟩ := h
  cases rx
  cases ry
  obtain ⟨z, its, n, r, hl, e⟩ := I.lstM hH
  obtain ⟨z2, its2, n2, r2, hl2, e2⟩ := I.lstM hB
  refine PySem.P.add_list e e2 ?_ (by rw [List.size_toArray, List.size_toArray]; omega)
  have ea : its.toArray ++ its2.toArray = (its ++ its2).toArray := by simp
  rw [ea]
  exact ⟨.ref _, _, I.lnew (t' := s.toks) (r.append r2) (by rw [List.length_append]; omega), rfl, q _ I.fresh⟩
/-- a list times an int (a negative one is nothing) -/
def rRep : R2 := fun x y H Q => ∃ l k xs, x = .ref l ∧ y = .int k ∧ H l = some (.lst xs) ∧ -(2 ^ 63) ≤ k ∧ k < 2 ^ 63 ∧ xs.length * k.toNat ≤ sizeLine ∧
  ∀ p, H p = none → Q (.ref p) (upd H p (.lst (List.replicate k.toNat xs).flatten))
theorem len_rep {α : Type} (xs : List α) (k : Nat) : (List.replicate k xs).flatten.length = k * xs.length := by
  induction k with
  | zero => simp
  | succ k ih => rw [List.replicate_succ, List.flatten_cons, List.length_append, ih, Nat.succ_mul, Nat.add_comm]
theorem op_rep : OpR X (binaryOp .Mult) rRep := by
  intro pins s σ H x y v u Q I rx ry h
  obtain ⟨l, k, xs, rfl, rfl, hH, h1, h2, hz, q⟩ := h
  cases rx
  obtain ⟨t, rfl⟩ := ry
  obtain ⟨z, its, n, r, hl, e⟩ := I.lstM hH
  have hlen : its.toArray.size * k.toNat ≤ sizeLine := by rw [List.size_toArray, ← hl]; exact hz
  have hcap : ¬ its.toArray.size * k.toNat > (2 ^ 63 - 1) / 8 := by
    have : (sizeLine : Nat) ≤ (2 ^ 63 - 1) / 8 := by decide
    omega
  have hfit : ¬ (!Builtin.List.listFitsIndex k) = true := by
    rw [fitsIndex_both h1 h2]
    exact Bool.false_ne_true
  have hlong : ¬ Builtin.List.listTooLong (its.toArray.size * k.toNat) = true := by
    rw [notLongL hlen]
    exact Bool.false_ne_true
  have hnew : List.foldl (fun x1 x2 => x1 ++ x2) #[] (List.replicate (if its.toArray.isEmpty = true then 0 else k.toNat) its.toArray) = (List.replicate k.toNat its).flatten.toArray := by
    have f0 : ∀ m : Nat, List.foldl (fun x1 x2 => x1 ++ x2) #[] (List.replicate m its.toArray) = (List.replicate m its).flatten.toArray := fun m => by
      have := foldl_rep its m []
      rw [List.nil_append] at this
      exact this
    rw [f0]
    cases its with
    | nil => simp
    | cons a r' => rw [if_neg (by simp)]
  refine wpAny_binaryOp_repeat_ref (T := "list") (U := "int") (by decide) ⟨_, e, rfl⟩ (fun s' => typeIs_int s' k t) noFill_list_mul F.fills_int_mul F.slot_int_rmul repeat_list F.slot_int_index.lookup
    (call_meets F.slot_int_rmul (typeIs_int s k t) F.entry_int_rmul (F.args_int_rmul_2 _ _) (int___rmul___int_list k t l its.toArray n)
      ⟨e, rfl, ⟨_, e, rfl⟩, call_meets F.slot_list_mul ⟨_, e, rfl⟩ F.entry_list_mul (F.args_list_mul_2 _ _) (AutoListH.list___mul___list_int_3 l its.toArray n k t hfit hcap hlong) ⟨e, ?_⟩⟩)
  rw [hnew]
  exact ⟨.ref _, _, I.lnew (t' := s.toks) (r.rep k.toNat) (by rw [len_rep, Nat.mul_comm]; exact hz), rfl, q _ I.fresh⟩

/-! ### del xs[i] -/
theorem del_list {pins : List (Addr × Obj)} {s : Shared} {σ : St} {H : Hp} {l : Addr} {xs : List V} {i : Int} {t : Tok} {k : Nat} {Q : Unit → Shared → Prop} (I : Inv X pins σ H s) (hH : H l = some (.lst xs))
    (h1 : -(2 ^ 63) ≤ i) (h2 : i < 2 ^ 63) (hk : seqIndex? i xs.length = some k) (h : ∀ s', Inv X pins σ (upd H l (.lst (xs.eraseIdx k))) s' → Q () s') :
    wpAny (model X.prog X.w) X.A (delItem (.ref l) (.int i t)) Q X.xe s := by
  obtain ⟨z, its, n, r, hl, e⟩ := I.lstM hH
  refine PySem.P.delItem_list (k := k) e (fitsIndex_both h1 h2) (by rw [List.size_toArray, ← hl]; exact hk) (h _ ?_) (by rw [List.size_toArray]; omega)
  refine I.lset (its' := its.eraseIdx k) (t' := s.toks) hH e ?_ (r.eraseIdx k) ?_
  · show its.toArray.eraseIdxIfInBounds k = (its.eraseIdx k).toArray
    rw [List.eraseIdxIfInBounds_toArray]
  · have := len_erase xs k
    omega
end

/-! ### xs[a:b] = ys -/
section
variable {prog : Program} {w : World} {A : Around} {E : Value → Shared → Prop} {s : Shared}
theorem splice_eq (its its2 : List Value) (a c : Nat) : its.toArray.extract 0 a ++ its2.toArray ++ its.toArray.extract c its.toArray.size = (its.take a ++ its2 ++ its.drop c).toArray := by
  apply Array.toList_inj.mp
  first
    | (simp
       exact List.take_of_length_le (by simp))
    | simp [List.take_of_length_le]
    | simp
theorem bounds_run {a c n : Nat} (hac : a ≤ c) (hc : c ≤ n) : sliceBounds (some (a : Int)) (some (c : Int)) none n = ((a : Int), (c : Int), 1) := by
  simp only [sliceBounds, Option.getD_none]
  have h1 : ¬ ((a : Int) < 0) := by omega
  have h2 : ¬ ((c : Int) < 0) := by omega
  simp only [h1, h2, if_false, show (1 : Int) > 0 by decide, if_true]
  congr 1
  · omega
  · congr 1; omega
set_option maxRecDepth 100000 in
/-- list.__setitem__ with a slice of step one and another list -/
theorem setItem_slice {l b sl : Addr} {items new : Array Value} {n n2 : Nat} {vl vu : Value} {a c : Nat} {Q : Unit → Shared → Prop}
    (e : s.heap.get? l = some { cls := .type "list", data := .seq items n }) (e2 : s.heap.get? b = some { cls := .type "list", data := .seq new n2 }) (hne : l ≠ b)
    (hs : s.heap.IsSliceOf sl vl vu .none) (pl : IsPart vl (some (a : Int))) (pu : IsPart vu (some (c : Int))) (hac : a ≤ c) (hc : c ≤ items.size)
    (hsz : items.size + new.size ≤ sizeLine) (h : Q () { s with heap := s.heap.update l (Obj.mapSeq fun xs => xs.extract 0 a ++ new ++ xs.extract c xs.size) }) :
    wpAny (model prog w) A (setItem (.ref l) (.ref sl) (.ref b)) Q E s := by
  have hl : s.heap.IsList l items := PySem.IsL.isList e
  have hb : s.heap.IsList b new := PySem.IsL.isList e2
  obtain ⟨os, hos, hcs, hds⟩ := id hs
  have hTs : s.TypeIs (.ref sl) "slice" := ⟨os, hos, hcs⟩
  have hstep : ¬ ((rawPart none == rawInt 0) = true) := Bool.false_ne_true
  have hsame : Builtin.List.listSameRef (.ref l) (.ref b) = false := by
    unfold Builtin.List.listSameRef
    exact beq_eq_false_iff_ne.mpr hne
  have hmax : (max (a : Int) (c : Int)).toNat = c := by omega
  have hz' : ((fun xs : Array Value => xs.extract 0 a ++ new ++ xs.extract c xs.size) items).size ≤ sizeLine + 1 := by
    simp only [Array.size_append, Array.size_extract]
    omega
  unfold setItem
  try with_reducible refine wpAny_holding ?_
  first | refine wpAny_bind (wpAny_pure ?_) | skip
  refine wpAny_bind (wpAny_sequenceKey hl.typeIs (by decide) ?_)
  refine wpAny_bind (wpAny_callSpecial?_slot (name := Str.ofString "__setitem__") hl.typeIs slot_list_setitem
    (wpAny_call_entry slot_list_setitem hl.typeIs entry_list_setitem ?_ (args_list_setitem _ _ _)))
  show wpAny _ _ (Builtin.List.listSubscript? (.ref sl) >>= _) _ _ s
  refine wpAny_bind ?_
  unfold Builtin.List.listSubscript?
  refine wpAny_bind (wpAny_specialOf hTs slice_no_index ?_)
  simp only [Option.isNone_none, if_true]
  refine wpAny_pure ?_
  show wpAny _ _ (typeOf (.ref sl) >>= _) _ _ s
  refine wpAny_bind (wpAny_typeOf hTs ?_)
  first
    | rw [if_neg (by decide)]
    | refine PySem.W.KFB.if_not (by decide) ?_
  rw [listSliceParts_eq]
  refine wpAny_bind (wpAny_bind (wpAny_field hos hds (x := .none) rfl (wpAny_bind (wpAny_listPart .none ?_))))
  rw [if_neg hstep]
  refine wpAny_bind (wpAny_field hos hds (x := vl) rfl (wpAny_bind (wpAny_listPart pl ?_)))
  refine wpAny_bind (wpAny_field hos hds (x := vu) rfl (wpAny_bind (wpAny_listPart pu (wpAny_pure ?_))))
  first
    | simp only [hsame, Bool.false_eq_true, if_false]
    | refine PySem.W.KFB.if_not hsame ?_
    | (dsimp only
       rw [if_neg (by rw [hsame]; exact Bool.false_ne_true)])
  refine wpAny_bind (m := Builtin.List.listAllItems (.ref b) "must assign iterable to extended slice") ?_
  unfold Builtin.List.listAllItems
  refine wpAny_bind (wpAny_typeOf hb.typeIs ?_)
  first
    | refine PySem.W.KFB.if_so (by decide) ?_
    | rw [if_pos (by decide)]
    | simp only [beq_self_eq_true, Bool.true_or, if_true]
  unfold Builtin.List.listItems
  refine wpAny_bind (wpAny_seqItems e2 rfl (wpAny_pure ?_))
  refine wpAny_bind (wpAny_bind (wpAny_seqItems e rfl (wpAny_pure ?_)))
  refine wpAny_bind (wpAny_of_eq ((sliceIndices_raw (some (a : Int)) (some (c : Int)) none items.size (by simp)).trans (congrArg (pure : Int × Int × Int → Sem (Int × Int × Int)) (bounds_run hac hc))) ?_)
  show wpAny _ _ (if ((1 : Int) == 1) = true then _ else _) _ _ s
  rw [if_pos (by decide)]
  refine wpAny_bind (wpAny_rule ?_)
  first
    | simp only [notLongL hsz, Bool.false_eq_true, if_false]
    | refine PySem.W.KFB.if_not (notLongL hsz) ?_
  first | refine wpAny_bind (wpAny_pure ?_) | skip
  show wpAny _ _ (updateSeq l (fun xs => xs.extract 0 ((a : Int)).toNat ++ new ++ xs.extract (max (a : Int) (c : Int)).toNat xs.size) >>= _) _ _ s
  rw [hmax, Int.toNat_natCast]
  refine wpAny_bind (wpAny_updateSeq (hz := Nat.le_trans (Nat.le_add_right _ _) hsz) (_hz' := hz') e rfl ?_)
  refine wpAny_bind (wpAny_letGo ?_)
  first
    | exact wpAny_bind (wpAny_pure (wpAny_pure ⟨.none, rfl, wpAny_pure h⟩))
    | exact wpAny_pure ⟨.none, rfl, wpAny_pure h⟩
end

section
variable {X : Cx}
/-- xs[a:c] = ys of another list, at the value level: sl is the slice object that was just made -/
theorem set_slice {pins : List (Addr × Obj)} {s : Shared} {σ : St} {H : Hp} {l b sl : Addr} {xs ys : List V} {a c : Int} {vl vu : Value} {Q : Unit → Shared → Prop} (I : Inv X pins σ H s)
    (hH : H l = some (.lst xs)) (hB : H b = some (.lst ys)) (hne : l ≠ b) (hs : s.heap.IsSliceOf sl vl vu .none) (ra : RelV (.int a) vl) (rc : RelV (.int c) vu) (h0 : 0 ≤ a) (hac : a ≤ c) (hc : c ≤ xs.length)
    (hz : xs.length + ys.length ≤ sizeLine) (h : ∀ s', Inv X pins σ (upd H l (.lst (xs.take a.toNat ++ ys ++ xs.drop c.toNat))) s' → Q () s') :
    wpAny (model X.prog X.w) X.A (setItem (.ref l) (.ref sl) (.ref b)) Q X.xe s := by
  obtain ⟨ta, rfl⟩ := ra
  obtain ⟨tc, rfl⟩ := rc
  obtain ⟨z, its, n, r, hl, e⟩ := I.lstM hH
  obtain ⟨z2, its2, n2, r2, hl2, e2⟩ := I.lstM hB
  obtain ⟨a', rfl⟩ := Int.eq_ofNat_of_zero_le h0
  obtain ⟨c', rfl⟩ := Int.eq_ofNat_of_zero_le (Int.le_trans h0 hac)
  simp only [Int.toNat_natCast] at h
  refine setItem_slice (a := a') (c := c') e e2 hne hs (.int _ _) (.int _ _) (by omega) (by rw [List.size_toArray]; omega) (by rw [List.size_toArray, List.size_toArray]; omega) (h _ ?_)
  refine I.lset (its' := its.take a' ++ its2 ++ its.drop c') (t' := s.toks) hH e ?_ (Vals.append (Vals.append (r.take _) r2) (r.drop _)) ?_
  · exact splice_eq its its2 a' c'
  · rw [List.length_append, List.length_append, List.length_take, List.length_drop]
    omega
end
end L2

namespace Att
open PySem PySem.W PySem.Calls PyProof.Rows

/-! ### the script -/
theorem ints_of_wellAll {P : Params} {h : Heap} : ∀ (ns : List Int) (vs : List Value), WellAll P h vs (ns.map WData.int) → IntsAre vs ns := by
  intro ns
  induction ns with
  | nil =>
    intro vs w
    rw [List.map_nil] at w
    cases w
    exact .nil
  | cons n ns ih =>
    intro vs w
    rw [List.map_cons] at w
    cases w with
    | cons a b =>
      cases a
      exact .cons _ _ (ih _ b)

theorem script_of {l : OpenLaw} {n : Nat} (hn : l.most = some n) {P : Params} {h : Heap} {args : List WData} {vals : List Value}
    (hpre : l.row.toRowW.claim.pre args = true) (hwl : WellAll P h vals args) :
    ∃ a vs ns, vals = [Value.ref a] ∧ args = [WData.list (ns.map WData.int)] ∧ h.get? a = some { cls := .type "list", data := .seq vs.toArray } ∧ IntsAre vs ns ∧ ns.length ≤ n := by
  have hsh : WShape.hasAll [] args [.list .int] = true := (pre_splitW hpre).1
  have hc : l.pre.holds [] { args := args } = true := (pre_splitW hpre).2
  obtain ⟨d, r, rfl, h1, h2⟩ := hasAllW_cons hsh
  obtain rfl := hasAllW_nil h2
  obtain ⟨xs, rfl, h3⟩ := hasW_list h1
  obtain ⟨ns, rfl⟩ := items_int h3
  have hlen : ns.length ≤ n := by
    unfold OpenLaw.pre at hc
    have h4 : (WTm.not (.lt (.lit (.int (n : Int))) (.len (.arg 0)))).holds [] { args := [.list (ns.map .int)] } = true := by
      have h4 := (holds_andW hc).1
      rw [hn] at h4
      exact h4
    have h5 := condW_of h4 (w_not (w_lt w_lit (w_len_list (w_arg rfl))))
    rw [List.length_map] at h5
    refine Nat.le_of_not_lt fun q => ?_
    have q' : (n : Int) < ((ns.length : Nat) : Int) := by omega
    first
      | (rw [decide_eq_true q'] at h5; exact absurd h5 (by decide))
      | (simp at h5; omega)
  cases hwl with
  | cons w1 w2 =>
    cases w2
    cases w1 with
    | list ho hall => exact ⟨_, _, ns, rfl, rfl, ho, ints_of_wellAll ns _ hall, hlen⟩

theorem post_true (l : OpenLaw) (args : List WData) : l.row.toRowW.claim.post args (.bool true) args = true :=
  postW_of (r := l.row.toRowW) (X := (true == true))
    (show WShape.has [] (.bool true) .bool = true by first | rfl | decide | simp [WShape.has, WShape.arms, WShape.armsAll])
    (show (WTm.eq .res (.lit (.bool true))).value [] { args := args, res := some (.bool true), after := args } = some (.bool (true == true)) from w_eq_bool (w_res rfl) w_lit) rfl

/-! ### the attachment: holds_open's last premise (the goal 'hc' behind k_head) from a wpAny of the law's body -/
theorem attach {l : OpenLaw} {n : Nat} {q : Program} {loose : List Str} {XP : (Str → Option Value) → Heap → Prop} {YP : World → Heap → Prop} {d : DefRec} {x : Str}
    (hn : l.most = some n) (hdf : d.params.defaults = [])
    (hbind : ∀ pm cd doc v : Value, bindArgs (docDef d.name d.params d.body d.scope pm cd doc) ⟨[v], []⟩ = pure [(x, v)])
    (hx : d.scope.names.lookup x = some .local ∨ d.scope.names.lookup x = some .cell)
    (hk : d.scope.kind = .function) (hco : d.scope.isCoroutine = false) (hgen : d.scope.isGenerator = false)
    (body : ∀ (w : World) (s₀ s₁ s : Shared) (mg mb : Str → Option Value) (fa : Addr) (o : Obj) (pm cd doc : Value) (a : Addr) (vs : List Value) (ns : List Int),
      Ground q loose [] XP w s₀ mg mb s₁.heap → YP w s₁.heap →
      s₁.heap.get? fa = some o → o.data = .func (docDef d.name d.params d.body d.scope pm cd doc) → s₁.heap.CodeRec cd d.name → mg d.name = some (.ref fa) →
      s₁.heap.get? a = some { cls := .type "list", data := .seq vs.toArray } → IntsAre vs ns → ns.length ≤ n →
      s.gens = #[] → s.os = s₁.os →
      Fr s₁.heap s₁.heap.objs.size s.heap (bindL (envOfC d.name d.scope s₁.heap.objs.size fa cd).kindOf [(x, .ref a)] fun _ => none) →
      Cl s₁.heap.objs.size (cellsFrom (s₁.heap.objs.size + 1) d.scope.names []) s.heap (bindC (envOfC d.name d.scope s₁.heap.objs.size fa cd).kindOf [(x, .ref a)] fun _ => none) →
      wpAny (model l.prog w) (callerA.deeper (envOfC d.name d.scope s₁.heap.objs.size fa cd)) (execs d.body (envOfC d.name d.scope s₁.heap.objs.size fa cd))
        (fun f s' => f = .ret (.bool true) ∧ OldK s₁.heap s'.heap ∧ s'.os = s₁.os ∧ AllBare s'.gens) (fun _ _ => False) s) :
    WalkO q loose XP YP l.row.toRowW d [] (fun f vs => PySem.call f vs) := by
  intro w s₀ s₁ mg mb G Y fa o pm cd doc dV kV ho hd hcd hD hmg hg args vals as hpre hlay hrd hwl hlo
  obtain rfl : dV = .none := Dflts.none hD hdf
  obtain rfl : kV = .none := Dflts.noKw hD
  obtain ⟨a, vs, ns, rfl, rfl, hobj, hints, hlen⟩ := script_of hn hpre hwl
  refine enter_call ?_
  refine call_cells_ret (o := o) (by rw [depth_caller]; decide) ho (fd_plain hd) G.T.nolimit hcd (hbind pm cd doc (.ref a)) (fun y hy => ?_) (fun h₁ tk F X => ?_) hco hgen hk
  · obtain rfl : y = (x, Value.ref a) := List.mem_singleton.mp hy
    rcases hx with e | e
    · exact .inl e
    · exact .inr ⟨e, cellsFrom_some _ _ _ (.inl e)⟩
  · refine wpAny_mono (body w s₀ s₁ { s₁ with heap := h₁, toks := tk } mg mb fa o pm cd doc a vs ns G Y ho (fd_plain hd) hcd hmg hobj hints hlen hg rfl F X) (fun f s' hq => ?_) (fun _ _ hq => hq)
    obtain ⟨rfl, h2, h3, h4⟩ := hq
    exact ⟨.inl ⟨.bool true, .bool true, [], rfl, fun _ => rfl, .bool true, post_true l _, fun _ => ⟨List.Pairwise.nil, fun _ hm => (nomatch hm)⟩⟩, h2, h3, h4⟩

/-- the same from a codeAny of the CALL (for a layer whose function contracts speak of calls) -/
theorem attach_call {l : OpenLaw} {n : Nat} {q : Program} {loose : List Str} {XP : (Str → Option Value) → Heap → Prop} {YP : World → Heap → Prop} {d : DefRec}
    (hn : l.most = some n) (hdf : d.params.defaults = [])
    (call : ∀ (w : World) (s₀ s₁ : Shared) (mg mb : Str → Option Value) (fa : Addr) (o : Obj) (pm cd doc : Value) (a : Addr) (vs : List Value) (ns : List Int),
      Ground q loose [] XP w s₀ mg mb s₁.heap → YP w s₁.heap →
      s₁.heap.get? fa = some o → o.data = .func (docDef d.name d.params d.body d.scope pm cd doc) → s₁.heap.CodeRec cd d.name → mg d.name = some (.ref fa) →
      s₁.heap.get? a = some { cls := .type "list", data := .seq vs.toArray } → IntsAre vs ns → ns.length ≤ n → s₁.gens = #[] →
      codeAny (model l.prog w) callerA (.call (.ref fa) ⟨[.ref a], []⟩) (fun r s' => r = .ok (.ret (.bool true)) ∧ OldK s₁.heap s'.heap ∧ s'.os = s₁.os ∧ AllBare s'.gens) s₁) :
    WalkO q loose XP YP l.row.toRowW d [] (fun f vs => PySem.call f vs) := by
  intro w s₀ s₁ mg mb G Y fa o pm cd doc dV kV ho hd hcd hD hmg hg args vals as hpre hlay hrd hwl hlo
  obtain rfl : dV = .none := Dflts.none hD hdf
  obtain rfl : kV = .none := Dflts.noKw hD
  obtain ⟨a, vs, ns, rfl, rfl, hobj, hints, hlen⟩ := script_of hn hpre hwl
  refine enter_call (codeAny_mono (call w s₀ s₁ mg mb fa o pm cd doc a vs ns G Y ho (fd_plain hd) hcd hmg hobj hints hlen hg) fun r s' hq => ?_)
  obtain ⟨rfl, h2, h3, h4⟩ := hq
  exact ⟨.inl ⟨.bool true, .bool true, [], rfl, fun _ => rfl, .bool true, post_true l _, fun _ => ⟨List.Pairwise.nil, fun _ hm => (nomatch hm)⟩⟩, h2, h3, h4⟩

/-- the same where the top left finished generators (o_head chose holds_openN): nothing may have changed at all and no generator may be left -/
theorem attachN {l : OpenLaw} {n : Nat} {q : Program} {loose : List Str} {XP : (Str → Option Value) → Heap → Prop} {YP : World → Heap → Prop} {d : DefRec} {x : Str}
    (hn : l.most = some n) (hdf : d.params.defaults = [])
    (hbind : ∀ pm cd doc v : Value, bindArgs (docDef d.name d.params d.body d.scope pm cd doc) ⟨[v], []⟩ = pure [(x, v)])
    (hx : d.scope.names.lookup x = some .local ∨ d.scope.names.lookup x = some .cell)
    (hk : d.scope.kind = .function) (hco : d.scope.isCoroutine = false) (hgen : d.scope.isGenerator = false)
    (body : ∀ (w : World) (s₀ s₁ s : Shared) (mg mb : Str → Option Value) (fa : Addr) (o : Obj) (pm cd doc : Value) (a : Addr) (vs : List Value) (ns : List Int),
      Ground q loose [] XP w s₀ mg mb s₁.heap → YP w s₁.heap →
      s₁.heap.get? fa = some o → o.data = .func (docDef d.name d.params d.body d.scope pm cd doc) → s₁.heap.CodeRec cd d.name → mg d.name = some (.ref fa) →
      s₁.heap.get? a = some { cls := .type "list", data := .seq vs.toArray } → IntsAre vs ns → ns.length ≤ n →
      s.gens = #[] → s.os = s₁.os →
      Fr s₁.heap s₁.heap.objs.size s.heap (bindL (envOfC d.name d.scope s₁.heap.objs.size fa cd).kindOf [(x, .ref a)] fun _ => none) →
      Cl s₁.heap.objs.size (cellsFrom (s₁.heap.objs.size + 1) d.scope.names []) s.heap (bindC (envOfC d.name d.scope s₁.heap.objs.size fa cd).kindOf [(x, .ref a)] fun _ => none) →
      wpAny (model l.prog w) (callerA.deeper (envOfC d.name d.scope s₁.heap.objs.size fa cd)) (execs d.body (envOfC d.name d.scope s₁.heap.objs.size fa cd))
        (fun f s' => f = .ret (.bool true) ∧ (∀ b o, s₁.heap.get? b = some o → s'.heap.get? b = some o) ∧ s'.os = s₁.os ∧ s'.gens = #[]) (fun _ _ => False) s) :
    WalkN q loose XP YP l.row.toRowW d [] (fun f vs => PySem.call f vs) := by
  intro w s₀ s₁ mg mb G Y fa o pm cd doc dV kV ho hd hcd hD hmg hg args vals as hpre hlay hrd hwl hlo
  obtain rfl : dV = .none := Dflts.none hD hdf
  obtain rfl : kV = .none := Dflts.noKw hD
  obtain ⟨a, vs, ns, rfl, rfl, hobj, hints, hlen⟩ := script_of hn hpre hwl
  refine enter_callW ?_
  refine call_cells_ret (o := o) (by rw [depth_caller]; decide) ho (fd_plain hd) G.T.nolimit hcd (hbind pm cd doc (.ref a)) (fun y hy => ?_) (fun h₁ tk F X => ?_) hco hgen hk
  · obtain rfl : y = (x, Value.ref a) := List.mem_singleton.mp hy
    rcases hx with e | e
    · exact .inl e
    · exact .inr ⟨e, cellsFrom_some _ _ _ (.inl e)⟩
  · refine wpAny_mono (body w s₀ s₁ { s₁ with heap := h₁, toks := tk } mg mb fa o pm cd doc a vs ns G Y ho (fd_plain hd) hcd hmg hobj hints hlen hg rfl F X) (fun f s' hq => ?_) (fun _ _ hq => hq)
    obtain ⟨rfl, h2, h3, h4⟩ := hq
    exact ⟨.inl ⟨.bool true, .bool true, [], rfl, fun _ => rfl, .bool true, post_true l _, fun _ => ⟨List.Pairwise.nil, fun _ hm => (nomatch hm)⟩⟩, h2, h3, h4⟩

/-! ### rules over ANY heap (no ledger) from facts about the written part K: the library's own take a ledger (News) for what they write -/
section
variable {prog : Program} {w : World} {A : Around} {E : Value → Shared → Prop} {s : Shared} {K : Frag}

/-- a def of the module, or a method (qual 'C.m'), entered: the frame is the next address; cells behind it -/
theorem call_fn {R : Result → Shared → Prop} {name qual : Str} {params : Arguments} {body : List Stmt} {scope : Scope} {dV kV doc pm cdv ct oc : Value} {an od : Option Addr} {osl : Array (Option Value)} {f : Addr} {args : Args} {binds : List (Str × Value)}
    (X : K.In s.heap) (hlim : s.heap.NoLimit) (ho : K.lookup f = some ⟨oc, od, .func (fnOf name qual params body scope dV kV doc pm an cdv ct), osl⟩) (hcd : codeIn K cdv qual = true) (hroom : A.depth < recursionLimit)
    (hbind : BindsTo s (fnOf name qual params body scope dV kV doc pm an cdv ct) args binds)
    (hkind : (binds.all fun y => scope.names.lookup y.1 == some .local || scope.names.lookup y.1 == some .cell) = true)
    (h : ∀ s₁, InCallC s s.heap.objs.size (bindL (envOfC qual scope s.heap.objs.size f cdv).kindOf binds fun _ => none) (cellsFrom (s.heap.objs.size + 1) scope.names [])
        (bindC (envOfC qual scope s.heap.objs.size f cdv).kindOf binds fun _ => none) s₁ →
      wpAny (model prog w) (A.deeper (envOfC qual scope s.heap.objs.size f cdv)) (execs body (envOfC qual scope s.heap.objs.size f cdv))
        (fun fl s' => R (.ok (.ret (match fl with | .ret v => v | _ => .none))) s')
        (fun e s' => wpAny (model prog w) (A.deeper (envOfC qual scope s.heap.objs.size f cdv)) (leaving (envOfC qual scope s.heap.objs.size f cdv) e) (fun _ s'' => R (.error e) s'') (fun e' s'' => R (.error e') s'') s') s₁)
    (hco : scope.isCoroutine = false) (hgen : scope.isGenerator = false) (hk : scope.kind = .function) : codeAny (model prog w) A (.call (.ref f) args) R s := by
  refine codeAny_call_function hroom (X _ _ ho) rfl hco hgen rfl (codeRec_of X hcd) (hbind _ _ _ _ ?_)
  refine wpAny_newFunctionEnv_cells hk (kindsX hkind _) fun env he s₁ x => ?_
  subst he
  exact ⟨hlim.keeps x.toInCall.keep, codeAny_func (h s₁ x)⟩

/-- C(..): dict at size, instance at size + 1, then __init__ -/
theorem make_obj {R : Result → Shared → Prop} {C fI : Addr} {rest : List Value} {kw : List (Str × Value)}
    (X : K.In s.heap) (hm : makesIn K C = true) (hi : findIn K (.ref C) "__init__" = some (some (.ref fI))) (hf : isFn K (.ref fI) = true)
    (h : codeAny (model prog w) (A.under (.builtin "type.__call__" ⟨.ref C :: rest, kw⟩)) (.call (.ref fI) ⟨.ref (s.heap.objs.size + 1) :: rest, kw⟩) (InitBack (s.heap.objs.size + 1) R)
      { s with heap := (s.heap.push emptyDict).push (instObj C s.heap.objs.size) }) : codeAny (model prog w) A (.call (.ref C) ⟨rest, kw⟩) R s := by
  obtain ⟨hh, g, d, t, os⟩ := s
  exact make_core (makes_of X hm) (looks_findIn X hi) (fun self => bind_fn X self (beq_iff_eq.mp hf)) (.inl rfl) h

/-- x.name where the instance's dict holds the name and the class does not -/
theorem get_field {x C : Addr} {ox : Obj} {es : List DictEntry} {n : Nat} {name : Str} {expr : Bool} {v : Value} {Q : Value → Shared → Prop}
    (X : K.In s.heap) (I : PySem.W.InstAt s.heap x ox C (some (dictOf es n))) (hg : plainGet K C name = true) (hh : hasDictIn K C = true) (ha : findIn K (.ref C) name = some none)
    (hl : getL name es = some (some v)) (hv : handedIn v = true) (h : Q v { s with toks := s.toks + 1 }) : wpAny (model prog w) A (getAttr (.ref x) name expr) Q E s :=
  get_value X I (plainGet_of hg).1 (findObj_own hh ha rfl hl) hv h

/-- x.m(..): the method found in the class -/
theorem get_method {x C f : Addr} {ox : Obj} {es : List DictEntry} {n : Nat} {name : Str} {pl : Sem Bool} {Q : Value × List Value → Shared → Prop}
    (X : K.In s.heap) (I : PySem.W.InstAt s.heap x ox C (some (dictOf es n))) (hg : plainGet K C name = true) (hf : findIn K (.ref C) name = some (some (.ref f))) (ht : isFn K (.ref f) = true)
    (hl : getL name es = some none) (h : Q (.ref f, [.ref x]) s) : wpAny (model prog w) A (getMethod (.ref x) name pl) Q E s :=
  method_fn X I (plainGet_of hg).1 (plainGet_of hg).2 hf (beq_iff_eq.mp ht) (by show (lookIn name (dictOf es n)).map _ = _; rw [lookIn_dict, hl]; rfl) h

/-! the whole heap as the ledger: makes every rule that writes through a ledger a rule over any heap -/
def noObjs (h : Heap) : Heap := { h with objs := #[] }
theorem noObjs_get (h : Heap) (b : Addr) : (noObjs h).get? b = none := by
  cases e : (noObjs h).get? b with
  | none => rfl
  | some o => exact absurd (Heap.lt_size e) (Nat.not_lt_zero _)
def ledger (h : Heap) (L d : Addr) : List (Addr × Obj) := (List.range h.objs.size).filterMap fun a => if a = L ∨ a = d then none else (h.get? a).map fun o => (a, o)
theorem mem_ledger {h : Heap} {L d a : Addr} {o : Obj} : (a, o) ∈ ledger h L d ↔ a ≠ L ∧ a ≠ d ∧ h.get? a = some o := by
  unfold ledger
  rw [List.mem_filterMap]
  constructor
  · rintro ⟨b, _, e⟩
    split at e
    · cases e
    · rename_i hb
      obtain ⟨o', ho, e'⟩ := Option.map_eq_some_iff.mp e
      cases e'
      exact ⟨fun q => hb (.inl q), fun q => hb (.inr q), ho⟩
  · rintro ⟨n1, n2, ho⟩
    refine ⟨a, List.mem_range.mpr (Heap.lt_size ho), ?_⟩
    rw [if_neg (show ¬ (a = L ∨ a = d) from fun q => q.elim n1 n2), ho] <;> rfl
theorem news_ledger {h : Heap} {L d : Addr} {od : Obj} (hne : d ≠ L) (ho : h.get? d = some od) : News (noObjs h) L h ([] ++ (d, od) :: ledger h L d) := by
  rintro ⟨a, o⟩ hp
  rcases List.mem_cons.mp hp with e | hp
  · cases e
    exact ⟨ho, hne, noObjs_get _ _⟩
  · obtain ⟨n1, n2, e⟩ := mem_ledger.mp hp
    exact ⟨e, n1, noObjs_get _ _⟩
theorem fr_all {h : Heap} {L : Addr} {m : Str → Option Value} (n : h.Ns L m) : Fr (noObjs h) L h m :=
  ⟨n, fun b o e => (by rw [noObjs_get] at e; cases e), Nat.zero_le _⟩
/-- Upd of the head entry (for append_K, setItem_K ..) -/
theorem upd_ledger {h : Heap} {L d : Addr} {o o' : Obj} : Upd d o o' ((d, o) :: ledger h L d) ((d, o') :: ledger h L d) :=
  .head fun ⟨_, _⟩ hp => (mem_ledger.mp hp).2.1

/-- x.name = v over any heap: L is any namespace of the heap (the frame's, say): its map stays, its object is not told; all else but the dict stays -/
theorem set_field {x C dx L : Addr} {ox : Obj} {m : Str → Option Value} {es es' : List DictEntry} {n n' : Nat} {name : Str} {v : Value} {Q : Unit → Shared → Prop}
    (X : K.In s.heap) (I : PySem.W.InstAt s.heap x ox C (some (dictOf es n))) (hd : ox.dict = some dx) (hL : s.heap.Ns L m) (hne : dx ≠ L)
    (hs : findIn K (.ref C) "__setattr__" = some (some (.builtin "object.__setattr__"))) (hp : plainOver K C = true) (ht : takerIn K C name = some none) (hh : hasDictIn K C = true) (hl : (getL name es).isSome = true)
    (e : (putL name (PyData.keyHash w.params name) (.str name (s.toks + 1)) v es, putN name es n) = (es', n')) (hz : es'.length ≤ 1000)
    (h : ∀ h' : Heap, h'.Ns L m → h'.get? dx = some (dictOf es' n') → (∀ b o, b ≠ dx → b ≠ L → s.heap.get? b = some o → h'.get? b = some o) → Q () { s with heap := h', toks := s.toks + 2 }) :
    wpAny (model prog w) A (setAttr (.ref x) name v) Q E s := by
  obtain ⟨e1, e2⟩ := Prod.mk.inj e
  have hdx : s.heap.get? dx = some (dictOf es n) := by
    have := I.dict
    rw [hd] at this
    exact this
  refine set_plain X I hs (osa_dict (s := { s with toks := s.toks + 1 }) (h₀ := noObjs s.heap) (L := L) (m := m) (od := dictOf es n) (od' := dictOf es' n') (es := es') (n := n') (pre := []) (post := ledger s.heap L dx)
    (fr_all hL) (news_ledger hne hdx) X I hd hp ht hh hl (fun _ q => nomatch q) (fun ⟨_, _⟩ q => (mem_ledger.mp q).2.1) (by rw [putName_dict, e1, e2]) rfl hz fun h' F' N' => ?_)
  exact h h' F'.ns (N'.get (List.Mem.head _)) fun b o n1 n2 ho => N'.get (List.Mem.tail _ (mem_ledger.mpr ⟨n2, n1, ho⟩))
end
end Att

namespace L2
open PySem PySem.Spec PyProof.Rows

theorem vals_ints : ∀ {vs : List Value} {ns : List Int}, IntsAre vs ns → Vals (ns.map V.int) vs
  | _, _, .nil => .nil
  | _, _, .cons n t h => .cons ⟨t, rfl⟩ (vals_ints h)

/-- nothing is tracked but the script, known to the object (or it is an object of the module) -/
def Only (H : Hp) : Prop := ∀ b, H b = none ∨ ∃ o xs, H b = some (.frz o (.lst xs))

/-- THE HEAD: the law's promise, at the heap behind the top. F, the promise of the law's def, may use that base is part of the heap (so K.In base, base.Ns mainGlobals mg stand in Mod) -/
theorem law_call {P : Program} {w : World} {K : PySem.W.Frag} {mg mb : Str → Option Value} {CX : CXT} {k : Nat} {fa a : Addr} {fd : FuncData} {x : Str} {sp : Sp} {s₁ : Shared} {vs : List Value} {ns : List Int}
    (KX : K.In s₁.heap) (hns : s₁.heap.Ns mainGlobals mg) (hb : s₁.heap.Ns builtinsNs mb) (hbb : ∀ x : Str, x ≠ "__name__" → mb x = bootBuiltins x) (hlim : s₁.heap.NoLimit) (hg : s₁.gens = #[])
    (ha : s₁.heap.get? a = some { cls := .type "list", data := .seq vs.toArray }) (hi : IntsAre vs ns) (hl : ns.length ≤ sizeLine) (hr : Room k callerA)
    (F : ∀ base : Heap, K.In base → base.Ns mainGlobals mg → FnOk P w K mg base CX k fa fd [x] sp) (hbind : ∀ (s : Shared) (u : Value), BindsTo s fd ⟨[u], []⟩ [(x, u)])
    (hsp : ∀ H : Hp, Only H → SqL K H a (ns.map V.int) → sp [.ref a] H (fun v _ => v = .bl true) fun _ _ _ => False)
    (hCX : ∀ H e s', CX [] H s₁ (fun _ _ _ => False) e s' → False) :
    codeAny (model P w) callerA (.call (.ref fa) ⟨[.ref a], []⟩) (fun r s' => r = .ok (.ret (.bool true)) ∧ OldK s₁.heap s'.heap ∧ s'.os = s₁.os ∧ AllBare s'.gens) s₁ := by
  have rv := vals_ints hi
  have lenV := hi.length
  -- from an abstract heap in which nothing but the script may be tracked
  have core : ∀ H : Hp, Only H → SqL K H a (ns.map V.int) → HOk P w H s₁.heap → (∀ b, H b ≠ none → b = a) → (H a ≠ none → K.lookup a = none) →
      codeAny (model P w) callerA (.call (.ref fa) ⟨[.ref a], []⟩) (fun r s' => r = .ok (.ret (.bool true)) ∧ OldK s₁.heap s'.heap ∧ s'.os = s₁.os ∧ AllBare s'.gens) s₁ := by
    intro H hO hS hok hA hK
    have base_of : ∀ {b : Addr} {o : Obj}, s₁.heap.get? b = some o → H b = none → (hidT s₁.heap H).get? b = some o := fun e n => hidT_get e n
    have noA : ∀ {b : Addr} {o : Obj} {es : Array DictEntry} {ep : Nat}, s₁.heap.get? b = some o → o.data = .dict es ep → H b = none := fun {b o es ep} e d => by
      cases q : H b with
      | none => rfl
      | some u =>
        have e' : b = a := hA b (by rw [q]; simp)
        subst e'
        rw [ha] at e; cases e
        have d' : Data.seq vs.toArray _ = Data.dict es ep := d
        cases d'
    have nsK : ∀ {b : Addr} {m : Str → Option Value}, s₁.heap.Ns b m → (hidT s₁.heap H).Ns b m := fun {b m} ⟨o, es, ep, e, d, r⟩ => ⟨o, es, ep, base_of e (noA e d), d, r⟩
    have hKb : K.In (hidT s₁.heap H) := fun b o e => base_of (KX b o e) (by
      cases q : H b with
      | none => rfl
      | some u =>
        have e' : b = a := hA b (by rw [q]; simp)
        subst e'
        rw [hK (by rw [q]; simp)] at e; cases e)
    have hM : Mod K mg (hidT s₁.heap H) := ⟨hKb, nsK hns, ⟨mb, nsK hb, hbb⟩, let ⟨mc, h1, h2⟩ := hlim; ⟨mc, nsK h1, h2⟩⟩
    have e0 : Env0 P w K mg (hidT s₁.heap H) callerA [] s₁ H := ⟨rfl, hM, fun b o e => of_hidT e, Nat.le_of_eq (hidT_size _ _), trivial, fun b hb => absurd (show b ∈ ([] : List Addr) from hb) (by simp), hok, .of_eq hg⟩
    refine codeAny_mono ((F _ hKb (nsK hns)).run callerA [] s₁ H ⟨[.ref a], []⟩ [.ref a] [.ref a] _ _ hr e0 (hbind s₁ (.ref a)) (.cons rfl .nil) (hsp H hO hS)) fun r s' h => ?_
    cases r with
    | error e => exact (hCX H e s' h).elim
    | ok fl =>
      cases fl with
      | next => exact False.elim h
      | brk => exact False.elim h
      | cont => exact False.elim h
      | ret u =>
        obtain ⟨v, H', os, bare, un, hok', r', q⟩ := h
        have q' : v = .bl true := q
        subst q'
        obtain rfl : u = Value.bool true := r'
        refine ⟨rfl, OldK.of_keep fun b o e => ?_, os, bare⟩
        cases q : H b with
        | none => exact un.keep b o e q (by intro z; exact absurd (show b ∈ ([] : List Addr) from z) (by simp)) (by simp)
        | some u =>
          rcases hO b with z | ⟨ob, xs, z⟩
          · rw [q] at z; cases z
          · have z2 := un.frzs b ob _ z
            obtain ⟨e1, _⟩ := hok b _ z
            obtain ⟨e2, _⟩ := hok' b _ z2
            rw [e] at e1; cases e1
            exact e2
  cases hk : K.lookup a with
  | some o =>
    -- the script is one of the module's own objects
    have e := KX a o hk
    rw [ha] at e
    cases e
    refine core (fun _ => none) (fun _ => .inl rfl) (.inr ⟨_, vs.toArray, _, hk, rfl, rfl, rfl, by rw [List.size_toArray, lenV]; exact hl, by simpa using rv⟩) (fun b u z => by have z' : (none : Option HO) = some u := z; cases z') (fun b z => absurd rfl z) fun z => absurd rfl z
  | none =>
    refine core (fun b => if b = a then some (.frz { cls := .type "list", data := .seq vs.toArray } (.lst (ns.map V.int))) else none) (fun b => ?_) (.inl (.inr ⟨{ cls := .type "list", data := .seq vs.toArray }, if_pos rfl⟩)) (fun b u z => ?_) (fun b z => ?_) fun _ => hk
    · by_cases hb : b = a
      · exact .inr ⟨_, _, if_pos hb⟩
      · exact .inl (if_neg hb)
    · by_cases hb : b = a
      · have z' := (if_pos hb).symm.trans z
        cases z'
        subst hb
        exact ⟨ha, by rw [List.length_map]; exact hl, vs, _, rv, ha⟩
      · have z' := (if_neg hb).symm.trans z
        cases z'
    · by_cases hb : b = a
      · exact hb
      · exact absurd (if_neg hb) z
end L2

namespace L2
open PySem PySem.Spec PyProof.Rows

abbrev KOf {K : PySem.W.Frag} {h : Heap} (_ : K.In h) : PySem.W.Frag := K

/-- the goal that k_head leaves (case hc), from the law's promise. F gives the function object fd (K's own) once, then the promise over every base -/
theorem walk_of {l : PySem.W.OpenLaw} {n k : Nat} {q : Program} {loose : List Str} {XP : (Str → Option Value) → Heap → Prop} {YP : World → Heap → Prop} {d : DefRec} {K : Params → PySem.W.Frag} {CX : World → CXT} {sp : World → Sp} {x : Str}
    (hn : l.most = some n) (hn2 : n ≤ sizeLine) (hdf : d.params.defaults = []) (hr : Room k callerA)
    (hY : ∀ (w : World) (h : Heap), YP w h → (K w.params).In h)
    (F : ∀ (w : World) (mg : Str → Option Value) (fa : Addr) (h : Heap), (K w.params).In h → h.Ns mainGlobals mg → mg d.name = some (.ref fa) →
      ∃ fd : FuncData, (∀ (s : Shared) (u : Value), BindsTo s fd ⟨[u], []⟩ [(x, u)]) ∧
        ∀ base : Heap, (K w.params).In base → base.Ns mainGlobals mg → FnOk l.prog w (K w.params) mg base (CX w) k fa fd [x] (sp w))
    (hsp : ∀ (w : World) (H : Hp) (a : Addr) (ns : List Int), ns.length ≤ n → Only H → SqL (K w.params) H a (ns.map V.int) → sp w [.ref a] H (fun v _ => v = .bl true) fun _ _ _ => False)
    (hCX : ∀ (w : World) (H : Hp) (s : Shared) (e : Value) (s' : Shared), CX w [] H s (fun _ _ _ => False) e s' → False) :
    PySem.W.WalkO q loose XP YP l.row.toRowW d [] (fun f vs => PySem.call f vs) := by
  refine Att.attach_call hn hdf fun w s₀ s₁ mg mb fa o pm cd doc a vs ns G Y ho hd hcd hmg hobj hints hlen hg => ?_
  have KX := hY w _ Y
  obtain ⟨fd, hb, hF⟩ := F w mg fa _ KX G.T.g hmg
  exact law_call KX G.T.g G.T.b G.T.builtins G.T.nolimit hg hobj hints (Nat.le_trans hlen hn2) hr hF hb (fun H hO hS => hsp w H a ns hlen hO hS) fun H e s' => hCX w H s₁ e s'
/-- the same where the promise hangs on the written part alone: (sp := My.sp_law), no hole under a binder -/
theorem walk_ofK {l : PySem.W.OpenLaw} {n k : Nat} {q : Program} {loose : List Str} {XP : (Str → Option Value) → Heap → Prop} {YP : World → Heap → Prop} {d : DefRec} {K : Params → PySem.W.Frag} {CX : CXT} {sp : PySem.W.Frag → Sp} {x : Str}
    (hn : l.most = some n) (hn2 : n ≤ sizeLine) (hdf : d.params.defaults = []) (hr : Room k callerA)
    (hY : ∀ (w : World) (h : Heap), YP w h → (K w.params).In h)
    (F : ∀ (w : World) (mg : Str → Option Value) (fa : Addr) (h : Heap), (K w.params).In h → h.Ns mainGlobals mg → mg d.name = some (.ref fa) →
      ∃ fd : FuncData, (∀ (s : Shared) (u : Value), BindsTo s fd ⟨[u], []⟩ [(x, u)]) ∧
        ∀ base : Heap, (K w.params).In base → base.Ns mainGlobals mg → FnOk l.prog w (K w.params) mg base CX k fa fd [x] (sp (K w.params)))
    (hsp : ∀ (K : PySem.W.Frag) (H : Hp) (a : Addr) (ns : List Int), ns.length ≤ n → Only H → SqL K H a (ns.map V.int) → sp K [.ref a] H (fun v _ => v = .bl true) fun _ _ _ => False)
    (hCX : ∀ (H : Hp) (s : Shared) (e : Value) (s' : Shared), CX [] H s (fun _ _ _ => False) e s' → False) :
    PySem.W.WalkO q loose XP YP l.row.toRowW d [] (fun f vs => PySem.call f vs) :=
  walk_of (K := K) (CX := fun _ => CX) (sp := fun w => sp (K w.params)) hn hn2 hdf hr hY F (fun w H a ns h1 h2 h3 => hsp (K w.params) H a ns h1 h2 h3) fun _ H s e s' => hCX H s e s'
end L2

/- THE LAST THEOREM (shape; LID, My.* are yours):
   My.Adr: a structure of the addresses that your layer names (classes, functions); My.Txt K t: a structure (Prop) of the equations over K;
   My.txt_mk : {K} {implicit addresses ..} (e1 : nsIn K mainGlobals "law" = some (some (.ref f))) (e2 : K.lookup f = some ⟨oc, od, .func (fnOf "law" "law" params body scope dV kV doc pm an cdv ct), sl⟩) (e3 : codeIn K cdv "law" = true) .. : ∃ t, My.Txt K t

set_option maxRecDepth 100000 in
set_option maxHeartbeats 0 in
theorem PySem.Challenge.cw_LID_holds : PySem.Challenge.rw_LID.Holds := by
  w_on; o_law; k_head; (case hw => w_witness2)
  k_fill
  refine L2.walk_of (l := PySem.Challenge.rw_LID) (n := 63) (k := 40) (x := "script") (CX := fun w => ..) (sp := fun _ => My.sp_law) rfl (by decide) rfl ⟨rfl, by decide, by decide⟩ (fun w h Y => PySem.W.kIn_of Y) ?F ?S ?C
  case F =>
    intro w mg fa h KX G hmg
    have T : ∃ t, My.Txt (L2.KOf KX) t := by
      dsimp only [L2.KOf]                          -- K must stand as «<heap const> w.params» for k_is
      refine' My.txt_mk ?e1 ?e2 ?e3 ..
      (case e1 => PySem.W.k_is)                    -- in the order: a name -> its address -> its object -> its parts
      (case e2 => PySem.W.k_is)
      ..
    obtain ⟨t, T⟩ := T
    have e0 := hmg.symm.trans (PySem.W.mg_of KX G T.law)
    cases e0                                       -- fa is the law's own address
    exact ⟨_, fun s u => .of_eq rfl, fun base kb nb => My.law_fn T kb nb⟩     -- if «.of_eq rfl» comes too early: refine' ⟨_, ?b, fun base kb nb => My.law_fn T kb nb⟩; exact fun s u => .of_eq rfl
  case S => exact fun w H a ns hl hO hS => ..
  case C => exact ..
(the tactic k_is has no namespace: write k_is) -/

/-! SHORT WORDS over the layer: a def of the text, its body, what a loop and a test want. -/
namespace L2
open PySem PySem.Spec PyProof.Rows

/-! ### the text by places -/
/-- the j-th statement of a class's body -/
def inClass (s : Stmt) (j : Nat) : Stmt := match s with
  | .ClassDef _ _ _ body _ _ _ _ _ _ _ => body.getD j (.Pass ⟨0, 0, 0, 0⟩)
  | _ => .Pass ⟨0, 0, 0, 0⟩
def defArgs (s : Stmt) : Arguments := match s with
  | .FunctionDef _ a _ _ _ _ _ _ _ _ => a
  | _ => { posonlyargs := [], args := [], vararg := none, kwonlyargs := [], kw_defaults := [], kwarg := none, defaults := [] }
def defBody (s : Stmt) : List Stmt := match s with
  | .FunctionDef _ _ b _ _ _ _ _ _ _ => b
  | _ => []
def defScope (s : Stmt) : Scope := match s with
  | .FunctionDef _ _ _ _ _ _ sc _ _ _ => sc
  | _ => { kind := .function, names := [], isGenerator := false, isCoroutine := false }

/-! ### no exception leaves a def -/
abbrev CX0 : CXT := fun _ _ _ _ _ _ => False
abbrev E0 : XK := fun _ _ _ => False
theorem pass0 {X : Cx} : Passes CX0 X E0 := fun _ _ _ _ _ _ _ h => h.elim

/-! ### a def (or method) of the text as it stands behind the top -/
structure Fun (K : PySem.W.Frag) (x qual : Str) (st : Stmt) (f : Addr) (fd : FuncData) : Prop where
  ex : ∃ (oc : Value) (od : Option Addr) (kV doc pm : Value) (an : Option Addr) (cdv ct : Value) (osl : Array (Option Value)),
    fd = PySem.W.fnOf x qual (defArgs st) (defBody st) (defScope st) .none kV doc pm an cdv ct ∧ K.lookup f = some ⟨oc, od, .func fd, osl⟩ ∧ PySem.W.codeIn K cdv qual = true
  kp : PySem.W.keepIn K (.ref f) = true
section
variable {P : Program} {w : World} {K : PySem.W.Frag} {mg : Str → Option Value} {base : Heap}
/-- THE RULE for a def: its body as a term of rules, and the reading of that term -/
theorem Fun.ok {x qual : Str} {st : Stmt} {f : Addr} {fd : FuncData} {N ps : List Str} {k : Nat} {sp : Sp} (F : Fun K x qual st f fd) (S : FnScope N ps (defScope st)) (len : ∀ vs H Q E, sp vs H Q E → vs.length = ps.length)
    (hbody : ∀ (cdv : Value) (A : Around) (outer : List Env) (s : Shared) (H : Hp) (vs : List V) (Q : VK) (E : XK), Room k (A.deeper (envOfC qual (defScope st) s.heap.objs.size f cdv)) → sp vs H Q E →
      ∃ t, PSs (cxOf CX0 P w K mg base N qual (defScope st) f cdv A outer s H E).nox (defBody st) t ∧ t { nx := fun _ H' => Q .non H', rt := Q } (start N vs) H) : FnOk P w K mg base CX0 (k + 1) f fd ps sp := by
  obtain ⟨oc, od, kV, doc, pm, an, cdv, ct, osl, rfl, lk, hcd⟩ := F.ex
  refine fn_of lk hcd S len fun A outer s H vs Q E hr hsp => ?_
  obtain ⟨t, h, q⟩ := hbody cdv A outer s H vs Q E hr hsp
  exact ⟨t, h.nox, q⟩
/-- how its arguments bind (no defaults): h is «fun _ _ _ _ _ _ us hl => match us, hl with | [_, _], _ => rfl», one _ a parameter -/
theorem Fun.binds {x qual : Str} {st : Stmt} {f : Addr} {fd : FuncData} {ps : List Str} (F : Fun K x qual st f fd)
    (h : ∀ (kV doc pm : Value) (an : Option Addr) (cdv ct : Value) (us : List Value), us.length = ps.length → bindArgs (PySem.W.fnOf x qual (defArgs st) (defBody st) (defScope st) .none kV doc pm an cdv ct) ⟨us, []⟩ = pure (ps.zip us)) : Binds K fd ps [] := by
  obtain ⟨oc, od, kV, doc, pm, an, cdv, ct, osl, rfl, lk, hcd⟩ := F.ex
  exact .all (h kV doc pm an cdv ct)
theorem fun_mk {x qual : Str} {st : Stmt} {f : Addr} {oc : Value} {od an : Option Addr} {osl : Array (Option Value)} {kV doc pm cdv ct : Value} (l : K.lookup f = some ⟨oc, od, .func (PySem.W.fnOf x qual (defArgs st) (defBody st) (defScope st) .none kV doc pm an cdv ct), osl⟩)
    (c : PySem.W.codeIn K cdv qual = true) (k : PySem.W.keepIn K (.ref f) = true) : Fun K x qual st f (PySem.W.fnOf x qual (defArgs st) (defBody st) (defScope st) .none kV doc pm an cdv ct) := ⟨⟨oc, od, kV, doc, pm, an, cdv, ct, osl, rfl, l, c⟩, k⟩
end
theorem hu_of {A : Around} {k : Nat} (hr : Room k A) : A.units + 1 < cLine := Nat.lt_of_le_of_lt (Nat.add_le_add_left (by decide : 1 ≤ 64) _) hr.units
theorem small1000 {n : Nat} (h : n ≤ 1000) : n < sizeLine := Nat.lt_of_le_of_lt h (by decide)

/-! ### expressions in short: the name that stands in the i-th slot -/
section
variable {X : Cx}
theorem pv (i : Nat) {x : Str} {pos : Pos} (hN : X.N[i]? = some x := by rfl) (hv : Vis X.env.scope x := by first | exact Or.inl rfl | exact Or.inr (Or.inl rfl) | exact Or.inr (Or.inr rfl)) (hd : (x == ("__debug__" : Str)) = false := by decide)
    (hcd : (x == ("__classdict__" : Str)) = false := by decide) : PE X (.Name x pos) (tVar i) := pe_var hN hv hd hcd
end

/-! ### tests -/
theorem iteF {A B : Prop} (h : B) : if false = true then A else B := by
  rw [if_neg Bool.false_ne_true]
  exact h
theorem iteT {A B : Prop} (h : A) : if true = true then A else B := by
  rw [if_pos rfl]
  exact h
theorem ite2 {c A B : Prop} [Decidable c] (h1 : c → A) (h2 : ¬ c → B) : if c then A else B := by
  by_cases h : c
  · rw [if_pos h]
    exact h1 h
  · rw [if_neg h]
    exact h2 h
theorem iteNS {c A B : Prop} [Decidable c] (hc : c) (h : B) : if (!decide c) = true then A else B := by
  rw [decide_eq_true hc]
  exact iteF h

/-! ### heaps -/
/-- all that was tracked is as it was -/
def Same (H H' : Hp) : Prop := ∀ b o, H b = some o → H' b = some o
theorem Same.refl (H : Hp) : Same H H := fun _ _ h => h
theorem Same.trans {H H1 H2 : Hp} (a : Same H H1) (b : Same H1 H2) : Same H H2 := fun c o h => b c o (a c o h)
theorem Same.free {H H' : Hp} (e : Same H H') {l : Addr} (h : H' l = Option.none) : H l = Option.none := by
  cases q : H l with
  | none => rfl
  | some o =>
    rw [e l o q] at h
    cases h
theorem Same.seq {K : PySem.W.Frag} {H H' : Hp} {a : Addr} {xs : List V} (e : Same H H') (h : SqL K H a xs) : SqL K H' a xs := by
  rcases h with (h | ⟨o, h⟩) | h
  · exact .inl (.inl (e _ _ h))
  · exact .inl (.inr ⟨o, e _ _ h⟩)
  · exact .inr h

end L2

end

section
set_option Elab.async false
set_option linter.all false
set_option maxRecDepth 100000
namespace L3
open PySem PySem.Spec L2

/-! ### data -/
inductive D where
  | non | bl (b : Bool) | int (i : Int) | str (x : Str) | tup (xs : List D) | con (xs : List D) | obj (n : Nat) | fn (x : Str)
inductive DO where
  | lst (xs : List D)
abbrev DH := List DO
abbrev DS := List (Option D)
inductive XD where
  | mk (cls : Str) (args : List D)
inductive Out (α : Type) where
  | stuck
  | ok (a : α) (G : DH)
  | exn (c : XD) (G : DH)
abbrev M (α : Type) := DH → Out α
def M.bind {α β : Type} (m : M α) (k : α → M β) : M β := fun G => match m G with
  | .stuck => .stuck
  | .ok a G' => k a G'
  | .exn c G' => .exn c G'
def M.ret {α : Type} (a : α) : M α := fun G => .ok a G
def M.stop {α : Type} : M α := fun _ => .stuck
def M.raise {α : Type} (c : XD) : M α := fun G => .exn c G

/-! ### how data lie in the abstract heap -/
/-- a list that never changes (the script) -/
def SqC (K : PySem.W.Frag) (H : Hp) (a : Addr) (xs : List V) : Prop :=
  (∃ o, H a = some (.frz o (.lst xs))) ∨
    ∃ (o : Obj) (its : Array Value) (n : Nat), K.lookup a = some o ∧ o.cls = .type "list" ∧ o.dict = none ∧ o.data = .seq its n ∧ its.size ≤ sizeLine ∧ Vals xs its.toList
theorem SqC.seq {K : PySem.W.Frag} {H : Hp} {a : Addr} {xs : List V} (h : SqC K H a xs) : SqL K H a xs := by
  rcases h with ⟨o, h⟩ | h
  · exact .inl (.inr ⟨o, h⟩)
  · exact .inr h
mutual
def Rep (K : PySem.W.Frag) (mg : Str → Option Value) (ρ : List Addr) (H : Hp) : D → V → Prop
  | .non, v => v = .non
  | .bl b, v => v = .bl b
  | .int i, v => v = .int i
  | .str x, v => v = .str x
  | .tup ds, v => ∃ a xs, v = .ref a ∧ SqT K H a xs ∧ Reps K mg ρ H ds xs
  | .con ds, v => ∃ a xs, v = .ref a ∧ SqC K H a xs ∧ Reps K mg ρ H ds xs
  | .obj n, v => ∃ a, v = .ref a ∧ ρ[n]? = some a
  | .fn x, v => ∃ a, v = .ref a ∧ mg x = some (.ref a)
def Reps (K : PySem.W.Frag) (mg : Str → Option Value) (ρ : List Addr) (H : Hp) : List D → List V → Prop
  | [], vs => vs = []
  | d :: ds, vs => ∃ v r, vs = v :: r ∧ Rep K mg ρ H d v ∧ Reps K mg ρ H ds r
end
structure Fut (K : PySem.W.Frag) (H H' : Hp) (ρ ρ' : List Addr) : Prop where
  tup : ∀ a xs, SqT K H a xs → SqT K H' a xs
  con : ∀ a xs, SqC K H a xs → SqC K H' a xs
  pre : ∃ r, ρ' = ρ ++ r
section
variable {K : PySem.W.Frag} {mg : Str → Option Value} {H H' H1 H2 : Hp} {ρ ρ' ρ1 ρ2 : List Addr}
theorem Fut.refl : Fut K H H ρ ρ := ⟨fun _ _ h => h, fun _ _ h => h, [], by simp⟩
theorem Fut.trans (a : Fut K H H1 ρ ρ1) (b : Fut K H1 H2 ρ1 ρ2) : Fut K H H2 ρ ρ2 := by
  obtain ⟨r1, e1⟩ := a.pre
  obtain ⟨r2, e2⟩ := b.pre
  exact ⟨fun x xs h => b.tup x xs (a.tup x xs h), fun x xs h => b.con x xs (a.con x xs h), r1 ++ r2, by rw [e2, e1, List.append_assoc]⟩
theorem Fut.get (f : Fut K H H' ρ ρ') {n : Nat} {a : Addr} (h : ρ[n]? = some a) : ρ'[n]? = some a := by
  obtain ⟨r, e⟩ := f.pre
  rw [e, List.getElem?_append_left (List.getElem?_eq_some_iff.mp h).1]; exact h
mutual
theorem Rep.mono (f : Fut K H H' ρ ρ') : ∀ (d : D) (v : V), Rep K mg ρ H d v → Rep K mg ρ' H' d v
  | .non, v, h => by unfold Rep at h ⊢; exact h
  | .bl b, v, h => by unfold Rep at h ⊢; exact h
  | .int i, v, h => by unfold Rep at h ⊢; exact h
  | .str x, v, h => by unfold Rep at h ⊢; exact h
  | .tup ds, v, h => by
    unfold Rep at h ⊢
    obtain ⟨a, xs, e, s, r⟩ := h
    exact ⟨a, xs, e, f.tup _ _ s, Reps.mono f ds xs r⟩
  | .con ds, v, h => by
    unfold Rep at h ⊢
    obtain ⟨a, xs, e, s, r⟩ := h
    exact ⟨a, xs, e, f.con _ _ s, Reps.mono f ds xs r⟩
  | .obj n, v, h => by
    unfold Rep at h ⊢
    obtain ⟨a, e, r⟩ := h
    exact ⟨a, e, f.get r⟩
  | .fn x, v, h => by unfold Rep at h ⊢; exact h
theorem Reps.mono (f : Fut K H H' ρ ρ') : ∀ (ds : List D) (vs : List V), Reps K mg ρ H ds vs → Reps K mg ρ' H' ds vs
  | [], vs, h => by unfold Reps at h ⊢; exact h
  | d :: ds, vs, h => by
    unfold Reps at h ⊢
    obtain ⟨v, r, e, h1, h2⟩ := h
    exact ⟨v, r, e, Rep.mono f d v h1, Reps.mono f ds r h2⟩
end
theorem Reps.length : ∀ {ds : List D} {vs : List V}, Reps K mg ρ H ds vs → ds.length = vs.length
  | [], vs, h => by unfold Reps at h; subst h; rfl
  | d :: ds, vs, h => by
    unfold Reps at h
    obtain ⟨v, r, rfl, _, h2⟩ := h
    simp [Reps.length h2]
theorem Reps.nil : Reps K mg ρ H [] [] := by unfold Reps; rfl
theorem Reps.cons {d : D} {v : V} {ds : List D} {vs : List V} (h : Rep K mg ρ H d v) (t : Reps K mg ρ H ds vs) : Reps K mg ρ H (d :: ds) (v :: vs) := by
  unfold Reps; exact ⟨v, vs, rfl, h, t⟩
theorem Reps.get : ∀ {ds : List D} {vs : List V} {i : Nat} {d : D}, Reps K mg ρ H ds vs → ds[i]? = some d → ∃ v, vs[i]? = some v ∧ Rep K mg ρ H d v
  | [], vs, i, d, h, e => by simp at e
  | x :: ds, vs, 0, d, h, e => by
    unfold Reps at h
    obtain ⟨v, r, rfl, h1, _⟩ := h
    simp at e; subst e
    exact ⟨v, rfl, h1⟩
  | x :: ds, vs, i + 1, d, h, e => by
    unfold Reps at h
    obtain ⟨v, r, rfl, _, h2⟩ := h
    obtain ⟨u, e1, e2⟩ := Reps.get (i := i) (d := d) h2 (by simpa using e)
    exact ⟨u, by simpa using e1, e2⟩
theorem Reps.append : ∀ {ds es : List D} {vs us : List V}, Reps K mg ρ H ds vs → Reps K mg ρ H es us → Reps K mg ρ H (ds ++ es) (vs ++ us)
  | [], es, vs, us, h, h' => by unfold Reps at h; subst h; exact h'
  | d :: ds, es, vs, us, h, h' => by
    unfold Reps at h
    obtain ⟨v, r, rfl, h1, h2⟩ := h
    exact .cons h1 (Reps.append h2 h')
theorem Reps.take : ∀ (n : Nat) {ds : List D} {vs : List V}, Reps K mg ρ H ds vs → Reps K mg ρ H (ds.take n) (vs.take n)
  | 0, _, _, _ => by simpa using Reps.nil
  | n + 1, [], vs, h => by unfold Reps at h; subst h; simpa using Reps.nil
  | n + 1, d :: ds, vs, h => by
    unfold Reps at h
    obtain ⟨v, r, rfl, h1, h2⟩ := h
    exact .cons h1 (Reps.take n h2)
theorem Reps.drop : ∀ (n : Nat) {ds : List D} {vs : List V}, Reps K mg ρ H ds vs → Reps K mg ρ H (ds.drop n) (vs.drop n)
  | 0, _, _, h => by simpa using h
  | n + 1, [], vs, h => by unfold Reps at h; subst h; simpa using Reps.nil
  | n + 1, d :: ds, vs, h => by
    unfold Reps at h
    obtain ⟨v, r, rfl, h1, h2⟩ := h
    simpa using Reps.drop n h2
theorem Reps.set {x : D} {y : V} (hx : Rep K mg ρ H x y) : ∀ (n : Nat) {ds : List D} {vs : List V}, Reps K mg ρ H ds vs → Reps K mg ρ H (ds.set n x) (vs.set n y)
  | _, [], vs, h => by unfold Reps at h; subst h; simpa using Reps.nil
  | 0, d :: ds, vs, h => by
    unfold Reps at h
    obtain ⟨v, r, rfl, h1, h2⟩ := h
    exact .cons hx h2
  | n + 1, d :: ds, vs, h => by
    unfold Reps at h
    obtain ⟨v, r, rfl, h1, h2⟩ := h
    exact .cons h1 (Reps.set hx n h2)
theorem Reps.ints : ∀ (ns : List Int), Reps K mg ρ H (ns.map D.int) (ns.map V.int)
  | [] => .nil
  | n :: ns => .cons (by unfold Rep; rfl) (Reps.ints ns)
end

def ORep (K : PySem.W.Frag) (mg : Str → Option Value) (ρ : List Addr) (H : Hp) (a : Addr) : DO → Prop
  | .lst ds => ∃ xs, H a = some (.lst xs) ∧ Reps K mg ρ H ds xs
structure HAb (K : PySem.W.Frag) (mg : Str → Option Value) (H : Hp) (ρ : List Addr) (G : DH) : Prop where
  hl : ρ.length = G.length
  nd : ρ.Nodup
  ob : ∀ (n : Nat) (o : DO), G[n]? = some o → ∃ a, ρ[n]? = some a ∧ ORep K mg ρ H a o
def SRep (K : PySem.W.Frag) (mg : Str → Option Value) (H : Hp) (ρ : List Addr) (σ : St) (τ : DS) : Prop :=
  σ.length = τ.length ∧ ∀ (i : Nat) (d : D), τ[i]? = some (some d) → ∃ v, σ[i]? = some (some v) ∧ Rep K mg ρ H d v
structure Ab (K : PySem.W.Frag) (mg : Str → Option Value) (σ : St) (H : Hp) (τ : DS) (ρ : List Addr) (G : DH) : Prop where
  st : SRep K mg H ρ σ τ
  hp : HAb K mg H ρ G
section
variable {K : PySem.W.Frag} {mg : Str → Option Value} {H H' H1 H2 : Hp} {ρ ρ' ρ1 ρ2 : List Addr} {G G' : DH} {σ : L2.St} {τ : DS}
theorem SRep.mono (f : Fut K H H' ρ ρ') (h : SRep K mg H ρ σ τ) : SRep K mg H' ρ' σ τ := ⟨h.1, fun i d e => by
  obtain ⟨v, e1, r⟩ := h.2 i d e
  exact ⟨v, e1, r.mono f⟩⟩
theorem SRep.set {i : Nat} {d : D} {v : V} (h : SRep K mg H ρ σ τ) (r : Rep K mg ρ H d v) : SRep K mg H ρ (σ.set i (some v)) (τ.set i (some d)) := by
  refine ⟨by simp [h.1], fun j e he => ?_⟩
  by_cases hj : i = j
  · subst hj
    rw [List.getElem?_set] at he
    by_cases hi : i < τ.length
    · rw [if_pos rfl, if_pos hi] at he
      cases he
      exact ⟨v, by rw [List.getElem?_set, if_pos rfl, if_pos (by rw [h.1]; exact hi)], r⟩
    · rw [if_pos rfl, if_neg hi] at he
      cases he
  · rw [List.getElem?_set_ne hj] at he
    obtain ⟨u, e1, r1⟩ := h.2 j e he
    exact ⟨u, by rw [List.getElem?_set_ne hj]; exact e1, r1⟩
theorem Ab.fut (ab : Ab K mg σ H τ ρ G) (f : Fut K H H' ρ ρ') (hp : HAb K mg H' ρ' G') : Ab K mg σ H' τ ρ' G' := ⟨ab.st.mono f, hp⟩
/-- an object of the heap -/
theorem HAb.lst {n : Nat} {ds : List D} (h : HAb K mg H ρ G) (e : G[n]? = some (.lst ds)) : ∃ a xs, ρ[n]? = some a ∧ H a = some (.lst xs) ∧ Reps K mg ρ H ds xs := by
  obtain ⟨a, e1, xs, e2, r⟩ := h.ob n _ e
  exact ⟨a, xs, e1, e2, r⟩
theorem HAb.there {n : Nat} {a : Addr} (h : HAb K mg H ρ G) (e : ρ[n]? = some a) : ∃ o, H a = some o := by
  have hn : n < G.length := by rw [← h.hl]; exact (List.getElem?_eq_some_iff.mp e).1
  obtain ⟨a', e1, r⟩ := h.ob n G[n] (List.getElem?_eq_getElem hn)
  rw [e] at e1; cases e1
  cases hg : G[n] with
  | lst xs => rw [hg] at r; obtain ⟨ys, e2, _⟩ := r; exact ⟨_, e2⟩
theorem HAb.not_mem {p : Addr} (h : HAb K mg H ρ G) (hp : H p = none) : p ∉ ρ := fun hm => by
  obtain ⟨n, hn, e⟩ := List.getElem_of_mem hm
  obtain ⟨o, q⟩ := h.there (n := n) (a := p) (by rw [List.getElem?_eq_getElem hn, e])
  rw [hp] at q; cases q
theorem ORep.mono {a : Addr} {o : DO} (f : Fut K H H' ρ ρ') (he : ∀ u, H a = some u → H' a = some u) (h : ORep K mg ρ H a o) : ORep K mg ρ' H' a o := by
  cases o with
  | lst ds =>
    obtain ⟨xs, e, r⟩ := h
    exact ⟨xs, he _ e, r.mono f⟩
/-- a new object that is no part of the mirror's heap (a tuple) -/
theorem fut_new {p : Addr} {o : HO} (hp : H p = none) (ρ : List Addr) : Fut K H (upd H p o) ρ ρ := by
  refine ⟨fun a xs h => ?_, fun a xs h => ?_, [], by simp⟩
  · rcases h with (h | ⟨q, h⟩) | h
    · exact .inl (.inl (by rw [upd_ne (ne_of_none h hp)]; exact h))
    · exact .inl (.inr ⟨q, by rw [upd_ne (ne_of_none h hp)]; exact h⟩)
    · exact .inr h
  · rcases h with ⟨q, h⟩ | h
    · exact .inl ⟨q, by rw [upd_ne (ne_of_none h hp)]; exact h⟩
    · exact .inr h
theorem fut_set {p : Addr} {xs ys : List V} (hp : H p = some (.lst xs)) (ρ : List Addr) : Fut K H (upd H p (.lst ys)) ρ ρ := by
  refine ⟨fun a zs h => ?_, fun a zs h => ?_, [], by simp⟩
  · rcases h with (h | ⟨q, h⟩) | h
    · exact .inl (.inl (by rw [upd_ne (ne_of h hp (by intro z; cases z))]; exact h))
    · exact .inl (.inr ⟨q, by rw [upd_ne (ne_of h hp (by intro z; cases z))]; exact h⟩)
    · exact .inr h
  · rcases h with ⟨q, h⟩ | h
    · exact .inl ⟨q, by rw [upd_ne (ne_of h hp (by intro z; cases z))]; exact h⟩
    · exact .inr h
theorem HAb.new {p : Addr} {o : HO} (h : HAb K mg H ρ G) (hp : H p = none) : HAb K mg (upd H p o) ρ G :=
  ⟨h.hl, h.nd, fun n ob e => by
    obtain ⟨a, e1, r⟩ := h.ob n ob e
    exact ⟨a, e1, r.mono (fut_new hp ρ) fun u q => by rw [upd_ne (ne_of_none q hp)]; exact q⟩⟩
theorem getElem?_concat_self {α : Type} (l : List α) (a : α) : (l ++ [a])[l.length]? = some a := by simp
theorem fut_more (ρ : List Addr) (p : Addr) : Fut K H H ρ (ρ ++ [p]) := ⟨fun _ _ h => h, fun _ _ h => h, [p], rfl⟩
theorem HAb.more {p : Addr} {ds : List D} {xs : List V} (h : HAb K mg H ρ G) (hp : H p = none) (r : Reps K mg ρ H ds xs) : HAb K mg (upd H p (.lst xs)) (ρ ++ [p]) (G ++ [.lst ds]) := by
  have f : Fut K H (upd H p (.lst xs)) ρ (ρ ++ [p]) := (fut_new hp ρ).trans (fut_more ρ p)
  refine ⟨by simp [h.hl], ?_, fun n ob e => ?_⟩
  · rw [List.nodup_append]
    refine ⟨h.nd, by simp, fun a ha b hb => ?_⟩
    have e : b = p := by simpa using hb
    subst e
    rintro rfl
    exact h.not_mem hp ha
  · by_cases hn : n < G.length
    · rw [List.getElem?_append_left hn] at e
      obtain ⟨a, e1, r'⟩ := h.ob n ob e
      exact ⟨a, f.get e1, r'.mono f fun u q => by rw [upd_ne (ne_of_none q hp)]; exact q⟩
    · have hl : n < (G ++ [DO.lst ds]).length := (List.getElem?_eq_some_iff.mp e).1
      have hn' : n = G.length := by simp at hl; omega
      subst hn'
      rw [getElem?_concat_self] at e
      cases e
      refine ⟨p, by rw [← h.hl, getElem?_concat_self], xs, upd_same, r.mono f⟩
theorem HAb.put {n : Nat} {a : Addr} {ds es : List D} {xs ys : List V} (h : HAb K mg H ρ G) (hn : ρ[n]? = some a) (ha : H a = some (.lst xs)) (r : Reps K mg ρ H es ys) : HAb K mg (upd H a (.lst ys)) ρ (G.set n (.lst es)) := by
  have f : Fut K H (upd H a (.lst ys)) ρ ρ := fut_set ha ρ
  refine ⟨by simp [h.hl], h.nd, fun m ob e => ?_⟩
  by_cases hm : n = m
  · subst hm
    rw [List.getElem?_set, if_pos rfl] at e
    split at e
    · cases e
      exact ⟨a, hn, ys, upd_same, r.mono f⟩
    · cases e
  · rw [List.getElem?_set_ne hm] at e
    obtain ⟨b, e1, r'⟩ := h.ob m ob e
    have hb : b ≠ a := by
      rintro rfl
      obtain ⟨h1, e1'⟩ := List.getElem?_eq_some_iff.mp hn
      obtain ⟨h2, e2'⟩ := List.getElem?_eq_some_iff.mp e1
      exact hm ((List.getElem_inj h.nd).mp (e1'.trans e2'.symm))
    exact ⟨b, e1, r'.mono f fun u q => by rw [upd_ne hb]; exact q⟩
end

/-! ### the lifted readings -/
abbrev EXK := XD → St → Hp → Prop
section
variable (K : PySem.W.Frag) (mg : Str → Option Value) (EE : EXK)
def OkE (H : Hp) (σ : St) (τ : DS) (ρ : List Addr) : Out D → VK → Prop
  | .stuck, _ => False
  | .ok d G', Q => ∀ v H' ρ', Fut K H H' ρ ρ' → Ab K mg σ H' τ ρ' G' → Rep K mg ρ' H' d v → Q v H'
  | .exn c G', _ => ∀ H' ρ', Fut K H H' ρ ρ' → Ab K mg σ H' τ ρ' G' → EE c σ H'
def OkT (H : Hp) (σ : St) (τ : DS) (ρ : List Addr) : Out Bool → (Bool → Hp → Prop) → Prop
  | .stuck, _ => False
  | .ok b G', Q => ∀ H' ρ', Fut K H H' ρ ρ' → Ab K mg σ H' τ ρ' G' → Q b H'
  | .exn c G', _ => ∀ H' ρ', Fut K H H' ρ ρ' → Ab K mg σ H' τ ρ' G' → EE c σ H'
def OkA (H : Hp) (σ : St) (τ : DS) (ρ : List Addr) : Out (List D) → (List V → Hp → Prop) → Prop
  | .stuck, _ => False
  | .ok ds G', Q => ∀ vs H' ρ', Fut K H H' ρ ρ' → Ab K mg σ H' τ ρ' G' → Reps K mg ρ' H' ds vs → Q vs H'
  | .exn c G', _ => ∀ H' ρ', Fut K H H' ρ ρ' → Ab K mg σ H' τ ρ' G' → EE c σ H'
def liftE (m : DS → M D) : TE := fun σ H Q => ∃ τ ρ G, Ab K mg σ H τ ρ G ∧ OkE K mg EE H σ τ ρ (m τ G) Q
def liftT (m : DS → M Bool) : TT := fun σ H Q => ∃ τ ρ G, Ab K mg σ H τ ρ G ∧ OkT K mg EE H σ τ ρ (m τ G) Q
def liftA (m : DS → M (List D)) : TA := fun σ H Q => ∃ τ ρ G, Ab K mg σ H τ ρ G ∧ OkA K mg EE H σ τ ρ (m τ G) Q
inductive Res where
  | stuck
  | nx (τ : DS) (G : DH)
  | rt (d : D) (G : DH)
  | bk (τ : DS) (G : DH)
  | ct (τ : DS) (G : DH)
  | xn (c : XD) (τ : DS) (G : DH)
def OkS (H : Hp) (ρ : List Addr) (Dd : Ends) : Res → Prop
  | .stuck => False
  | .nx τ G => ∀ σ' H' ρ', Fut K H H' ρ ρ' → Ab K mg σ' H' τ ρ' G → Dd.nx σ' H'
  | .bk τ G => ∀ σ' H' ρ', Fut K H H' ρ ρ' → Ab K mg σ' H' τ ρ' G → Dd.bk σ' H'
  | .ct τ G => ∀ σ' H' ρ', Fut K H H' ρ ρ' → Ab K mg σ' H' τ ρ' G → Dd.ct σ' H'
  | .rt d G => ∀ v H' ρ', Fut K H H' ρ ρ' → HAb K mg H' ρ' G → Rep K mg ρ' H' d v → Dd.rt v H'
  | .xn c τ G => ∀ σ' H' ρ', Fut K H H' ρ ρ' → Ab K mg σ' H' τ ρ' G → EE c σ' H'
abbrev MS := DS → DH → Res
def liftS (m : MS) : TS := fun Dd σ H => ∃ τ ρ G, Ab K mg σ H τ ρ G ∧ OkS K mg EE H ρ Dd (m τ G)
end
section
variable {K : PySem.W.Frag} {mg : Str → Option Value} {EE : EXK} {H H1 : Hp} {σ : L2.St} {τ : DS} {ρ ρ1 : List Addr}
theorem OkE.fut {r : Out D} {Q : VK} (f : Fut K H H1 ρ ρ1) (h : OkE K mg EE H σ τ ρ r Q) : OkE K mg EE H1 σ τ ρ1 r Q := by
  cases r with
  | stuck => exact h
  | ok d G' => exact fun v H' ρ' f' => h v H' ρ' (f.trans f')
  | exn c G' => exact fun H' ρ' f' => h H' ρ' (f.trans f')
theorem OkT.fut {r : Out Bool} {Q : Bool → Hp → Prop} (f : Fut K H H1 ρ ρ1) (h : OkT K mg EE H σ τ ρ r Q) : OkT K mg EE H1 σ τ ρ1 r Q := by
  cases r with
  | stuck => exact h
  | ok d G' => exact fun H' ρ' f' => h H' ρ' (f.trans f')
  | exn c G' => exact fun H' ρ' f' => h H' ρ' (f.trans f')
theorem OkA.fut {r : Out (List D)} {Q : List V → Hp → Prop} (f : Fut K H H1 ρ ρ1) (h : OkA K mg EE H σ τ ρ r Q) : OkA K mg EE H1 σ τ ρ1 r Q := by
  cases r with
  | stuck => exact h
  | ok d G' => exact fun v H' ρ' f' => h v H' ρ' (f.trans f')
  | exn c G' => exact fun H' ρ' f' => h H' ρ' (f.trans f')
theorem OkS.fut {r : Res} {Dd : Ends} (f : Fut K H H1 ρ ρ1) (h : OkS K mg EE H ρ Dd r) : OkS K mg EE H1 ρ1 Dd r := by
  cases r with
  | stuck => exact h
  | nx τ G => exact fun s H' ρ' f' => h s H' ρ' (f.trans f')
  | bk τ G => exact fun s H' ρ' f' => h s H' ρ' (f.trans f')
  | ct τ G => exact fun s H' ρ' f' => h s H' ρ' (f.trans f')
  | rt d G => exact fun s H' ρ' f' => h s H' ρ' (f.trans f')
  | xn c τ G => exact fun s H' ρ' f' => h s H' ρ' (f.trans f')
/-- one step, then the rest -/
theorem bindEE {m : DS → M D} {k : DS → D → M D} {Q : VK} (h : liftE K mg EE (fun τ => (m τ).bind (k τ)) σ H Q) :
    liftE K mg EE m σ H fun x H1 => ∃ τ ρ G d, Ab K mg σ H1 τ ρ G ∧ Rep K mg ρ H1 d x ∧ OkE K mg EE H1 σ τ ρ (k τ d G) Q := by
  obtain ⟨τ, ρ, G, ab, ok⟩ := h
  refine ⟨τ, ρ, G, ab, ?_⟩
  dsimp only [M.bind] at ok
  cases e : m τ G with
  | stuck => rw [e] at ok; exact ok
  | exn c G' => rw [e] at ok; exact ok
  | ok d G' => rw [e] at ok; exact fun v H' ρ' f ab' r => ⟨τ, ρ', G', d, ab', r, ok.fut f⟩
theorem bindET {m : DS → M D} {k : DS → D → M Bool} {Q : Bool → Hp → Prop} (h : liftT K mg EE (fun τ => (m τ).bind (k τ)) σ H Q) :
    liftE K mg EE m σ H fun x H1 => ∃ τ ρ G d, Ab K mg σ H1 τ ρ G ∧ Rep K mg ρ H1 d x ∧ OkT K mg EE H1 σ τ ρ (k τ d G) Q := by
  obtain ⟨τ, ρ, G, ab, ok⟩ := h
  refine ⟨τ, ρ, G, ab, ?_⟩
  dsimp only [M.bind] at ok
  cases e : m τ G with
  | stuck => rw [e] at ok; exact ok
  | exn c G' => rw [e] at ok; exact ok
  | ok d G' => rw [e] at ok; exact fun v H' ρ' f ab' r => ⟨τ, ρ', G', d, ab', r, ok.fut f⟩
theorem bindTE {m : DS → M Bool} {k : DS → Bool → M D} {Q : VK} (h : liftE K mg EE (fun τ => (m τ).bind (k τ)) σ H Q) :
    liftT K mg EE m σ H fun b H1 => ∃ τ ρ G, Ab K mg σ H1 τ ρ G ∧ OkE K mg EE H1 σ τ ρ (k τ b G) Q := by
  obtain ⟨τ, ρ, G, ab, ok⟩ := h
  refine ⟨τ, ρ, G, ab, ?_⟩
  dsimp only [M.bind] at ok
  cases e : m τ G with
  | stuck => rw [e] at ok; exact ok
  | exn c G' => rw [e] at ok; exact ok
  | ok d G' => rw [e] at ok; exact fun H' ρ' f ab' => ⟨τ, ρ', G', ab', ok.fut f⟩
theorem bindTT {m : DS → M Bool} {k : DS → Bool → M Bool} {Q : Bool → Hp → Prop} (h : liftT K mg EE (fun τ => (m τ).bind (k τ)) σ H Q) :
    liftT K mg EE m σ H fun b H1 => ∃ τ ρ G, Ab K mg σ H1 τ ρ G ∧ OkT K mg EE H1 σ τ ρ (k τ b G) Q := by
  obtain ⟨τ, ρ, G, ab, ok⟩ := h
  refine ⟨τ, ρ, G, ab, ?_⟩
  dsimp only [M.bind] at ok
  cases e : m τ G with
  | stuck => rw [e] at ok; exact ok
  | exn c G' => rw [e] at ok; exact ok
  | ok d G' => rw [e] at ok; exact fun H' ρ' f ab' => ⟨τ, ρ', G', ab', ok.fut f⟩
theorem bindEA {m : DS → M D} {k : DS → D → M (List D)} {Q : List V → Hp → Prop} (h : liftA K mg EE (fun τ => (m τ).bind (k τ)) σ H Q) :
    liftE K mg EE m σ H fun x H1 => ∃ τ ρ G d, Ab K mg σ H1 τ ρ G ∧ Rep K mg ρ H1 d x ∧ OkA K mg EE H1 σ τ ρ (k τ d G) Q := by
  obtain ⟨τ, ρ, G, ab, ok⟩ := h
  refine ⟨τ, ρ, G, ab, ?_⟩
  dsimp only [M.bind] at ok
  cases e : m τ G with
  | stuck => rw [e] at ok; exact ok
  | exn c G' => rw [e] at ok; exact ok
  | ok d G' => rw [e] at ok; exact fun v H' ρ' f ab' r => ⟨τ, ρ', G', d, ab', r, ok.fut f⟩
theorem bindAA {m : DS → M (List D)} {k : DS → List D → M (List D)} {Q : List V → Hp → Prop} (h : liftA K mg EE (fun τ => (m τ).bind (k τ)) σ H Q) :
    liftA K mg EE m σ H fun x H1 => ∃ τ ρ G d, Ab K mg σ H1 τ ρ G ∧ Reps K mg ρ H1 d x ∧ OkA K mg EE H1 σ τ ρ (k τ d G) Q := by
  obtain ⟨τ, ρ, G, ab, ok⟩ := h
  refine ⟨τ, ρ, G, ab, ?_⟩
  dsimp only [M.bind] at ok
  cases e : m τ G with
  | stuck => rw [e] at ok; exact ok
  | exn c G' => rw [e] at ok; exact ok
  | ok d G' => rw [e] at ok; exact fun v H' ρ' f ab' r => ⟨τ, ρ', G', d, ab', r, ok.fut f⟩
theorem bindAE {m : DS → M (List D)} {k : DS → List D → M D} {Q : VK} (h : liftE K mg EE (fun τ => (m τ).bind (k τ)) σ H Q) :
    liftA K mg EE m σ H fun x H1 => ∃ τ ρ G d, Ab K mg σ H1 τ ρ G ∧ Reps K mg ρ H1 d x ∧ OkE K mg EE H1 σ τ ρ (k τ d G) Q := by
  obtain ⟨τ, ρ, G, ab, ok⟩ := h
  refine ⟨τ, ρ, G, ab, ?_⟩
  dsimp only [M.bind] at ok
  cases e : m τ G with
  | stuck => rw [e] at ok; exact ok
  | exn c G' => rw [e] at ok; exact ok
  | ok d G' => rw [e] at ok; exact fun v H' ρ' f ab' r => ⟨τ, ρ', G', d, ab', r, ok.fut f⟩
/-- an expression, then a statement's end -/
def sBind {α : Type} (m : M α) (k : α → DH → Res) (x : XD → DH → Res) : DH → Res := fun G => match m G with
  | .stuck => .stuck
  | .ok a G' => k a G'
  | .exn c G' => x c G'
theorem bindES {m : DS → M D} {k : DS → D → DH → Res} {Dd : Ends} (h : liftS K mg EE (fun τ => sBind (m τ) (k τ) fun c G => .xn c τ G) Dd σ H) :
    liftE K mg EE m σ H fun x H1 => ∃ τ ρ G d, Ab K mg σ H1 τ ρ G ∧ Rep K mg ρ H1 d x ∧ OkS K mg EE H1 ρ Dd (k τ d G) := by
  obtain ⟨τ, ρ, G, ab, ok⟩ := h
  refine ⟨τ, ρ, G, ab, ?_⟩
  dsimp only [sBind] at ok
  cases e : m τ G with
  | stuck => rw [e] at ok; exact ok
  | exn c G' => rw [e] at ok; exact fun H' ρ' f ab' => ok σ H' ρ' f ab'
  | ok d G' => rw [e] at ok; exact fun v H' ρ' f ab' r => ⟨τ, ρ', G', d, ab', r, ok.fut f⟩
theorem bindTS {m : DS → M Bool} {k : DS → Bool → DH → Res} {Dd : Ends} (h : liftS K mg EE (fun τ => sBind (m τ) (k τ) fun c G => .xn c τ G) Dd σ H) :
    liftT K mg EE m σ H fun b H1 => ∃ τ ρ G, Ab K mg σ H1 τ ρ G ∧ OkS K mg EE H1 ρ Dd (k τ b G) := by
  obtain ⟨τ, ρ, G, ab, ok⟩ := h
  refine ⟨τ, ρ, G, ab, ?_⟩
  dsimp only [sBind] at ok
  cases e : m τ G with
  | stuck => rw [e] at ok; exact ok
  | exn c G' => rw [e] at ok; exact fun H' ρ' f ab' => ok σ H' ρ' f ab'
  | ok d G' => rw [e] at ok; exact fun H' ρ' f ab' => ⟨τ, ρ', G', ab', ok.fut f⟩
end

/-! ### the judgements -/
def QE (X : Cx) (EE : EXK) (e : Expr) (m : DS → M D) : Prop := PE X e (liftE X.K X.mg EE m)
def QT (X : Cx) (EE : EXK) (e : Expr) (m : DS → M Bool) : Prop := PT X e (liftT X.K X.mg EE m)
def QW (X : Cx) (EE : EXK) (e : Expr) (m : DS → M Bool) : Prop := PW X e (liftT X.K X.mg EE m)
def QA (X : Cx) (EE : EXK) (es : List Expr) (m : DS → M (List D)) : Prop := PA X es (liftA X.K X.mg EE m)
def QS (X : Cx) (EE : EXK) (st : Stmt) (m : MS) : Prop := PS X st (liftS X.K X.mg EE m)
def QSs (X : Cx) (EE : EXK) (st : List Stmt) (m : MS) : Prop := PSs X st (liftS X.K X.mg EE m)
section
variable {X : Cx}
theorem PE.mono {e : Expr} {t t' : TE} (h : PE X e t) (i : ∀ σ H Q, t' σ H Q → t σ H Q) : PE X e t' := fun pins s σ H Q I q => h pins s σ H Q I (i _ _ _ q)
theorem PT.mono {e : Expr} {t t' : TT} (h : PT X e t) (i : ∀ σ H Q, t' σ H Q → t σ H Q) : PT X e t' := fun pins s σ H Q I q => h pins s σ H Q I (i _ _ _ q)
theorem PA.mono {e : List Expr} {t t' : TA} (h : PA X e t) (i : ∀ σ H Q, t' σ H Q → t σ H Q) : PA X e t' := fun pos pins s σ H Q I q => h pos pins s σ H Q I (i _ _ _ q)
theorem PS.mono {e : Stmt} {t t' : TS} (h : PS X e t) (i : ∀ D σ H, t' D σ H → t D σ H) : PS X e t' := fun pins s σ H D I q => h pins s σ H D I (i _ _ _ q)
theorem PSs.mono {e : List Stmt} {t t' : TS} (h : PSs X e t) (i : ∀ D σ H, t' D σ H → t D σ H) : PSs X e t' := fun pins s σ H D I q => h pins s σ H D I (i _ _ _ q)
end
end L3

end

section
set_option Elab.async false
set_option linter.all false
set_option maxRecDepth 100000
namespace L3
open PySem PySem.Spec L2
section
variable {X : Cx} {EE : EXK} {a b c : Expr} {ma mb mc : DS → M D} {pos : Pos}

/-! ### names and constants -/
def eVar (i : Nat) : DS → M D := fun τ G => match τ[i]? with
  | some (some d) => .ok d G
  | _ => .stuck
def eC (d : D) : DS → M D := fun _ => M.ret d
theorem qe_var (i : Nat) {x : Str} {pos : Pos} (hN : X.N[i]? = some x := by rfl) (hv : Vis X.env.scope x := by first | exact Or.inl rfl | exact Or.inr (Or.inl rfl) | exact Or.inr (Or.inr rfl)) (hd : (x == ("__debug__" : Str)) = false := by decide)
    (hcd : (x == ("__classdict__" : Str)) = false := by decide) : QE X EE (.Name x pos) (eVar i) := PE.mono (pe_var hN hv hd hcd) fun σ H Q ⟨τ, ρ, G, ab, ok⟩ => by
  unfold eVar at ok
  cases e : τ[i]? with
  | none => rw [e] at ok; exact ok.elim
  | some o =>
    cases o with
    | none => rw [e] at ok; exact ok.elim
    | some d =>
      rw [e] at ok
      obtain ⟨v, e1, r⟩ := ab.st.2 i d e
      exact ⟨v, e1, ok v H ρ .refl ab r⟩
theorem qe_C {d : D} {v : V} {e : Expr} (h : PE X e (tC v)) (r : ∀ ρ H, Rep X.K X.mg ρ H d v) : QE X EE e (eC d) := PE.mono h fun σ H Q ⟨τ, ρ, G, ab, ok⟩ => ok v H ρ .refl ab (r ρ H)
theorem qe_int {i : Int} {j pos} : QE X EE (.Constant (.int i) j pos) (eC (.int i)) := qe_C pe_int fun _ _ => by unfold Rep; rfl
theorem qe_bl {i : Bool} {j pos} : QE X EE (.Constant (.bool i) j pos) (eC (.bl i)) := qe_C pe_bl fun _ _ => by unfold Rep; rfl
theorem qe_non {j pos} : QE X EE (.Constant .none j pos) (eC .non) := qe_C pe_non fun _ _ => by unfold Rep; rfl
theorem qe_str {x j pos} : QE X EE (.Constant (.str x) j pos) (eC (.str x)) := qe_C pe_str fun _ _ => by unfold Rep; rfl
/-- a name of the module that stands for data -/
def GlobD (K : PySem.W.Frag) (mg : Str → Option Value) (x : Str) (d : D) : Prop := ∃ u v, mg x = some u ∧ RelV v u ∧ ∀ ρ H, Rep K mg ρ H d v
theorem qe_glob {x : Str} {d : D} {pos : Pos} (h : GlobD X.K X.mg x d) (hg : Gl X x := by rfl) (hd : (x == ("__debug__" : Str)) = false := by decide) : QE X EE (.Name x pos) (eC d) := by
  obtain ⟨u, v, hm, r, hr⟩ := h
  exact qe_C (pe_glob hg hm r hd) hr

/-! ### two-place operations -/
def eOp (f : D → D → M D) (ma mb : DS → M D) : DS → M D := fun τ => (ma τ).bind fun x => (mb τ).bind fun y => f x y
/-- the mirror's operation f reads as r -/
def OpD (X : Cx) (EE : EXK) (r : R2) (f : D → D → M D) : Prop := ∀ (σ : L2.St) (H : Hp) (τ : DS) (ρ : List Addr) (G : DH) (x y : V) (d e : D) (Q : VK),
  Ab X.K X.mg σ H τ ρ G → Rep X.K X.mg ρ H d x → Rep X.K X.mg ρ H e y → OkE X.K X.mg EE H σ τ ρ (f d e G) Q → r x y H Q
theorem op_lift {f : D → D → M D} {r : R2} (hd : OpD X EE r f) {σ : L2.St} {H : Hp} {Q : VK} (h : liftE X.K X.mg EE (eOp f ma mb) σ H Q) :
    tOp r (liftE X.K X.mg EE ma) (liftE X.K X.mg EE mb) σ H Q := by
  obtain ⟨τ, ρ, G, ab, ok⟩ := bindEE (k := fun τ x => (mb τ).bind fun y => f x y) h
  refine ⟨τ, ρ, G, ab, ?_⟩
  cases e : ma τ G with
  | stuck => rw [e] at ok; exact ok
  | exn c G' => rw [e] at ok; exact ok
  | ok d G' =>
    rw [e] at ok
    intro v H' ρ' f' ab' r'
    obtain ⟨τ2, ρ2, G2, d2, ab2, r2, ok2⟩ := ok v H' ρ' f' ab' r'
    refine ⟨τ2, ρ2, G2, ab2, ?_⟩
    dsimp only [M.bind] at ok2
    cases e2 : mb τ2 G2 with
    | stuck => rw [e2] at ok2; exact ok2
    | exn c G' => rw [e2] at ok2; exact ok2
    | ok d3 G3 =>
      rw [e2] at ok2
      exact fun v3 H3 ρ3 f3 ab3 r3 => hd σ H3 τ2 ρ3 G3 v v3 d2 d3 Q ab3 (r2.mono f3) r3 (ok2.fut f3)
theorem qe_op {op : Operator} {r : R2} {f : D → D → M D} (ho : OpR X (binaryOp op) r) (hd : OpD X EE r f) (ha : QE X EE a ma) (hb : QE X EE b mb) : QE X EE (.BinOp a op b pos) (eOp f ma mb) :=
  PE.mono (pe_op ho ha hb) fun _ _ _ h => op_lift hd h
theorem qe_cmp {op : CmpOp} {r : R2} {f : D → D → M D} (ho : OpR X (compareOp op) r) (hd : OpD X EE r f) (ha : QE X EE a ma) (hb : QE X EE b mb) (hm : behindInMarks op b = false) : QE X EE (.Compare a [op] [b] pos) (eOp f ma mb) :=
  PE.mono (pe_cmpR ho ha hb hm) fun _ _ _ h => op_lift hd h
theorem qe_ix {r : R2} {f : D → D → M D} (ho : IxR X r) (hd : OpD X EE r f) (ha : QE X EE a ma) (hb : QE X EE b mb) (hs : PlainIx b := by intro _ _; rfl) : QE X EE (.Subscript a b pos) (eOp f ma mb) :=
  PE.mono (pe_ix ho ha hb hs) fun _ _ _ h => op_lift hd h
theorem OpD.or {r r' : R2} {f : D → D → M D} (h : ∀ (σ : L2.St) (H : Hp) (τ : DS) (ρ : List Addr) (G : DH) (x y : V) (d e : D) (Q : VK),
  Ab X.K X.mg σ H τ ρ G → Rep X.K X.mg ρ H d x → Rep X.K X.mg ρ H e y → OkE X.K X.mg EE H σ τ ρ (f d e G) Q → r x y H Q ∨ r' x y H Q) : OpD X EE (fun x y H Q => r x y H Q ∨ r' x y H Q) f := h

/-- ints in, a value out -/
def dInt2 (C : Int → Int → Bool) (g : Int → Int → D) : D → D → M D
  | .int i, .int j => if C i j then M.ret (g i j) else M.stop
  | _, _ => M.stop
theorem int2_of {C : Int → Int → Bool} {g : Int → Int → D} {d e : D} {G : DH} {σ : L2.St} {H : Hp} {τ : DS} {ρ : List Addr} {Q : VK} (ok : OkE X.K X.mg EE H σ τ ρ (dInt2 C g d e G) Q) :
    ∃ i j, d = .int i ∧ e = .int j ∧ C i j = true ∧ OkE X.K X.mg EE H σ τ ρ (.ok (g i j) G) Q := by
  cases d <;> cases e <;> try exact ok.elim
  rename_i i j
  dsimp only [dInt2] at ok
  cases hc : C i j with
  | false => rw [hc] at ok; exact ok.elim
  | true => rw [hc] at ok; exact ⟨i, j, rfl, rfl, hc, ok⟩
theorem opD_int {C : Int → Int → Bool} {P : Int → Int → Prop} {g : Int → Int → D} {gv : Int → Int → V} (hC : ∀ i j, C i j = true → P i j) (hg : ∀ i j ρ H, Rep X.K X.mg ρ H (g i j) (gv i j)) : OpD X EE (rI P gv) (dInt2 C g) :=
  fun σ H τ ρ G x y d e Q ab r1 r2 ok => by
    obtain ⟨i, j, rfl, rfl, hc, ok⟩ := int2_of ok
    unfold Rep at r1 r2
    exact ⟨i, j, r1, r2, hC i j hc, ok _ H ρ .refl ab (hg i j ρ H)⟩
theorem opD_int0 {g : Int → Int → D} {gv : Int → Int → V} (hg : ∀ i j ρ H, Rep X.K X.mg ρ H (g i j) (gv i j)) : OpD X EE (rI0 gv) (dInt2 (fun _ _ => true) g) :=
  fun σ H τ ρ G x y d e Q ab r1 r2 ok => by
    obtain ⟨i, j, rfl, rfl, hc, ok⟩ := int2_of ok
    unfold Rep at r1 r2
    exact ⟨i, j, r1, r2, ok _ H ρ .refl ab (hg i j ρ H)⟩
abbrev dSub := dInt2 (fun _ _ => true) fun i j => .int (i - j)
abbrev dMul := dInt2 (fun i j => (decide (-(2 ^ 64) < i) && decide (i < 2 ^ 64)) || (decide (-(2 ^ 64) < j) && decide (j < 2 ^ 64))) fun i j => .int (i * j)
abbrev dFdiv := dInt2 (fun _ j => decide (0 < j) && decide (j < 1073741824)) fun i j => .int (i / j)
abbrev dMod := dInt2 (fun _ j => decide (0 < j)) fun i j => .int (i % j)
abbrev dPow := dInt2 (fun i j => decide (0 ≤ j) && (decide (j ≤ 1000000) && decide (i.natAbs < 2 ^ 64))) fun i j => .int (i ^ j.toNat)
abbrev dLt := dInt2 (fun _ _ => true) fun i j => .bl (decide (i < j))
abbrev dLe := dInt2 (fun _ _ => true) fun i j => .bl (decide (i ≤ j))
abbrev dGt := dInt2 (fun _ _ => true) fun i j => .bl (decide (j < i))
abbrev dGe := dInt2 (fun _ _ => true) fun i j => .bl (decide (j ≤ i))
theorem qe_sub (ha : QE X EE a ma) (hb : QE X EE b mb) : QE X EE (.BinOp a .Sub b pos) (eOp dSub ma mb) := qe_op op_sub (opD_int0 fun _ _ _ _ => by unfold Rep; rfl) ha hb
theorem qe_mul (ha : QE X EE a ma) (hb : QE X EE b mb) : QE X EE (.BinOp a .Mult b pos) (eOp dMul ma mb) := qe_op op_mul (opD_int (fun i j h => by
  simp only [Bool.or_eq_true, Bool.and_eq_true, decide_eq_true_eq] at h; exact h) fun _ _ _ _ => by unfold Rep; rfl) ha hb
theorem qe_fdiv (ha : QE X EE a ma) (hb : QE X EE b mb) : QE X EE (.BinOp a .FloorDiv b pos) (eOp dFdiv ma mb) := qe_op op_fdiv (opD_int (fun i j h => by
  simp only [Bool.and_eq_true, decide_eq_true_eq] at h; exact h) fun _ _ _ _ => by unfold Rep; rfl) ha hb
theorem qe_mod (ha : QE X EE a ma) (hb : QE X EE b mb) : QE X EE (.BinOp a .Mod b pos) (eOp dMod ma mb) := qe_op op_mod (opD_int (fun i j h => of_decide_eq_true h) fun _ _ _ _ => by unfold Rep; rfl) ha hb
theorem qe_pow (ha : QE X EE a ma) (hb : QE X EE b mb) : QE X EE (.BinOp a .Pow b pos) (eOp dPow ma mb) := qe_op op_pow (opD_int (fun i j h => by
  simp only [Bool.and_eq_true, decide_eq_true_eq] at h; exact h) fun _ _ _ _ => by unfold Rep; rfl) ha hb
theorem qe_lt (ha : QE X EE a ma) (hb : QE X EE b mb) : QE X EE (.Compare a [.Lt] [b] pos) (eOp dLt ma mb) := qe_cmp op_lt (opD_int0 fun _ _ _ _ => by unfold Rep; rfl) ha hb (nomark _)
theorem qe_le (ha : QE X EE a ma) (hb : QE X EE b mb) : QE X EE (.Compare a [.LtE] [b] pos) (eOp dLe ma mb) := qe_cmp op_le (opD_int0 fun _ _ _ _ => by unfold Rep; rfl) ha hb (nomark _)
theorem qe_gt (ha : QE X EE a ma) (hb : QE X EE b mb) : QE X EE (.Compare a [.Gt] [b] pos) (eOp dGt ma mb) := qe_cmp op_gt (opD_int0 fun _ _ _ _ => by unfold Rep; rfl) ha hb (nomark _)
theorem qe_ge (ha : QE X EE a ma) (hb : QE X EE b mb) : QE X EE (.Compare a [.GtE] [b] pos) (eOp dGe ma mb) := qe_cmp op_ge (opD_int0 fun _ _ _ _ => by unfold Rep; rfl) ha hb (nomark _)

/-! ### new objects -/
def dNew (ds : List D) : M D := fun G => if ds.length ≤ sizeLine then .ok (.obj G.length) (G ++ [.lst ds]) else .stuck
def dTup (ds : List D) : M D := fun G => if ds.length ≤ sizeLine then .ok (.tup ds) G else .stuck
theorem new_ok {σ : L2.St} {H : Hp} {τ : DS} {ρ : List Addr} {G : DH} {ds : List D} {vs : List V} {Q : VK} (ab : Ab X.K X.mg σ H τ ρ G) (r : Reps X.K X.mg ρ H ds vs) (ok : OkE X.K X.mg EE H σ τ ρ (dNew ds G) Q) :
    vs.length ≤ sizeLine ∧ ∀ p, H p = none → Q (.ref p) (upd H p (.lst vs)) := by
  unfold dNew at ok
  split at ok
  · rename_i hl
    rw [r.length] at hl
    refine ⟨hl, fun p hp => ?_⟩
    have f : Fut X.K H (upd H p (.lst vs)) ρ (ρ ++ [p]) := (fut_new hp ρ).trans (fut_more ρ p)
    refine ok (.ref p) _ (ρ ++ [p]) f (ab.fut f (ab.hp.more hp r)) ?_
    unfold Rep
    exact ⟨p, rfl, by rw [← ab.hp.hl, getElem?_concat_self]⟩
  · exact ok.elim
theorem tup_ok {σ : L2.St} {H : Hp} {τ : DS} {ρ : List Addr} {G : DH} {ds : List D} {vs : List V} {Q : VK} (ab : Ab X.K X.mg σ H τ ρ G) (r : Reps X.K X.mg ρ H ds vs) (ok : OkE X.K X.mg EE H σ τ ρ (dTup ds G) Q) :
    vs.length ≤ sizeLine ∧ ∀ p, H p = none → Q (.ref p) (upd H p (.tup vs)) := by
  unfold dTup at ok
  split at ok
  · rename_i hl
    rw [r.length] at hl
    refine ⟨hl, fun p hp => ?_⟩
    have f : Fut X.K H (upd H p (.tup vs)) ρ ρ := fut_new hp ρ
    refine ok (.ref p) _ ρ f (ab.fut f (ab.hp.new hp)) ?_
    unfold Rep
    exact ⟨p, vs, rfl, .of upd_same, r.mono f⟩
  · exact ok.elim

/-! ### argument lists, displays -/
def aNil : DS → M (List D) := fun _ => M.ret []
def aCons (m : DS → M D) (r : DS → M (List D)) : DS → M (List D) := fun τ => (m τ).bind fun x => (r τ).bind fun xs => M.ret (x :: xs)
theorem qa_nil : QA X EE [] aNil := PA.mono pa_nil fun σ H Q ⟨τ, ρ, G, ab, ok⟩ => ok [] H ρ .refl ab .nil
theorem qa_cons {e : Expr} {es : List Expr} {m : DS → M D} {r : DS → M (List D)} (ha : QE X EE e m) (hr : QA X EE es r) (hs : starEach (e :: es) X.env = (false, eval e X.env) :: starEach es X.env := by rfl) : QA X EE (e :: es) (aCons m r) :=
  PA.mono (pa_cons ha hr hs) fun σ H Q h => by
    obtain ⟨τ, ρ, G, ab, ok⟩ := bindEA (k := fun τ x => (r τ).bind fun xs => M.ret (x :: xs)) h
    refine ⟨τ, ρ, G, ab, ?_⟩
    cases e : m τ G with
    | stuck => rw [e] at ok; exact ok
    | exn c G' => rw [e] at ok; exact ok
    | ok d G' =>
      rw [e] at ok
      intro v H' ρ' f' ab' r'
      obtain ⟨τ2, ρ2, G2, d2, ab2, r2, ok2⟩ := ok v H' ρ' f' ab' r'
      refine ⟨τ2, ρ2, G2, ab2, ?_⟩
      dsimp only [M.bind] at ok2
      cases e2 : r τ2 G2 with
      | stuck => rw [e2] at ok2; exact ok2
      | exn c G' => rw [e2] at ok2; exact ok2
      | ok d3 G3 =>
        rw [e2] at ok2
        exact fun v3 H3 ρ3 f3 ab3 r3 => ok2 (v :: v3) H3 ρ3 f3 ab3 (.cons (r2.mono f3) r3)
/-- the arguments, then a step -/
def eArgs (f : List D → M D) (m : DS → M (List D)) : DS → M D := fun τ => (m τ).bind f
theorem args_lift {m : DS → M (List D)} {f : List D → M D} {r : List V → Hp → VK → Prop} {σ : L2.St} {H : Hp} {Q : VK}
    (hd : ∀ (H : Hp) (τ : DS) (ρ : List Addr) (G : DH) (xs : List V) (ds : List D), Ab X.K X.mg σ H τ ρ G → Reps X.K X.mg ρ H ds xs → OkE X.K X.mg EE H σ τ ρ (f ds G) Q → r xs H Q)
    (h : liftE X.K X.mg EE (eArgs f m) σ H Q) : liftA X.K X.mg EE m σ H fun xs H1 => r xs H1 Q := by
  obtain ⟨τ, ρ, G, ab, ok⟩ := bindAE (k := fun _ => f) h
  refine ⟨τ, ρ, G, ab, ?_⟩
  cases e : m τ G with
  | stuck => rw [e] at ok; exact ok
  | exn c G' => rw [e] at ok; exact ok
  | ok d G' =>
    rw [e] at ok
    intro v H' ρ' f' ab' r'
    obtain ⟨τ2, ρ2, G2, d2, ab2, r2, ok2⟩ := ok v H' ρ' f' ab' r'
    exact hd H' τ2 ρ2 G2 v d2 ab2 r2 ok2
theorem qe_tup {es : List Expr} {m : DS → M (List D)} {x1} (h : QA X EE es m) : QE X EE (.Tuple es x1 pos) (eArgs dTup m) :=
  PE.mono (pe_tup h) fun σ H Q h => args_lift (r := fun xs H1 Q => xs.length ≤ sizeLine ∧ ∀ p, H1 p = none → Q (.ref p) (upd H1 p (.tup xs))) (fun H τ ρ G xs ds ab r ok => tup_ok ab r ok) h
theorem qe_lst {es : List Expr} {m : DS → M (List D)} (h : QA X EE es m) : QE X EE (.List es pos) (eArgs dNew m) :=
  PE.mono (pe_lst h) fun σ H Q h => args_lift (r := fun xs H1 Q => xs.length ≤ sizeLine ∧ ∀ p, H1 p = none → Q (.ref p) (upd H1 p (.lst xs))) (fun H τ ρ G xs ds ab r ok => new_ok ab r ok) h
/-- a built-in called with values -/
def CallD (X : Cx) (EE : EXK) (r : List V → Hp → VK → Prop) (f : List D → M D) : Prop := ∀ (σ : L2.St) (H : Hp) (τ : DS) (ρ : List Addr) (G : DH) (xs : List V) (ds : List D) (Q : VK),
  Ab X.K X.mg σ H τ ρ G → Reps X.K X.mg ρ H ds xs → OkE X.K X.mg EE H σ τ ρ (f ds G) Q → r xs H Q
theorem qe_callB {x : Str} {p : Pos} {e : Expr} {es : List Expr} {m : DS → M (List D)} {id : String} {r : List V → Hp → VK → Prop} {f : List D → M D} (hc : CallR X (.builtin id) r) (hd : CallD X EE r f) (hm : X.mg x = none) (ha : QA X EE (e :: es) m)
    (hg : Gl X x := by rfl) (hv : bootBuiltins x = some (.builtin id) := by first | rfl | decide) (hn : x ≠ "__name__" := by decide) (hdb : (x == ("__debug__" : Str)) = false := by decide)
    (he : starEach (e :: es) X.env = (false, eval e X.env) :: starEach es X.env := by rfl) (hpl : (backTo pos (starEach es X.env)).any (·.1) = false := by rfl) : QE X EE (.Call (.Name x p) (e :: es) [] pos) (eArgs f m) :=
  PE.mono (pe_callB hc hg hm hv ha hn hdb he hpl) fun σ H Q h => args_lift (r := r) (fun H τ ρ G xs ds ab r ok => hd σ H τ ρ G xs ds Q ab r ok) h
theorem qe_callTy {x : Str} {p : Pos} {e : Expr} {es : List Expr} {m : DS → M (List D)} {T : String} {r : List V → Hp → VK → Prop} {f : List D → M D} (hc : CallR X (.type T) r) (hd : CallD X EE r f) (hm : X.mg x = none) (ha : QA X EE (e :: es) m)
    (hg : Gl X x := by rfl) (hv : bootBuiltins x = some (.type T) := by first | rfl | decide) (hn : x ≠ "__name__" := by decide) (hdb : (x == ("__debug__" : Str)) = false := by decide)
    (he : starEach (e :: es) X.env = (false, eval e X.env) :: starEach es X.env := by rfl) (hpl : (backTo pos (starEach es X.env)).any (·.1) = false := by rfl) : QE X EE (.Call (.Name x p) (e :: es) [] pos) (eArgs f m) :=
  PE.mono (pe_callTy hc hg hm hv ha hn hdb he hpl) fun σ H Q h => args_lift (r := r) (fun H τ ρ G xs ds ab r ok => hd σ H τ ρ G xs ds Q ab r ok) h

/-! ### tests -/
def tTruth (f : D → M Bool) (m : DS → M D) : DS → M Bool := fun τ => (m τ).bind f
/-- truth of data -/
def dTru : D → M Bool
  | .non => M.ret false
  | .bl b => M.ret b
  | .int i => M.ret (i != 0)
  | .str y => if y.length ≤ sizeLine then M.ret ((y.length : Int) != 0) else M.stop
  | .tup xs => M.ret (!xs.isEmpty)
  | .con xs => M.ret (!xs.isEmpty)
  | .obj n => fun G => match G[n]? with
    | some (.lst xs) => .ok (!xs.isEmpty) G
    | _ => .stuck
  | .fn _ => M.stop
theorem isEmpty_reps {K : PySem.W.Frag} {mg : Str → Option Value} {ρ : List Addr} {H : Hp} {ds : List D} {vs : List V} (r : Reps K mg ρ H ds vs) : (!vs.isEmpty) = !ds.isEmpty := by
  have := r.length
  cases ds <;> cases vs <;> first | rfl | (simp at this)
theorem tru_lift {m : DS → M D} {σ : L2.St} {H : Hp} {Q : Bool → Hp → Prop} (h : liftT X.K X.mg EE (tTruth dTru m) σ H Q) :
    liftE X.K X.mg EE m σ H fun x H1 => ∃ k, TruV X.K x H1 k ∧ Q k H1 := by
  obtain ⟨τ, ρ, G, ab, ok⟩ := bindET (k := fun _ => dTru) h
  refine ⟨τ, ρ, G, ab, ?_⟩
  cases e : m τ G with
  | stuck => rw [e] at ok; exact ok
  | exn c G' => rw [e] at ok; exact ok
  | ok d G' =>
    rw [e] at ok
    intro v H' ρ' f' ab' r'
    obtain ⟨τ2, ρ2, G2, d2, ab2, r2, ok2⟩ := ok v H' ρ' f' ab' r'
    cases d2 with
    | non => unfold Rep at r2; subst r2; exact ⟨false, rfl, ok2 H' ρ2 .refl ab2⟩
    | bl b => unfold Rep at r2; subst r2; exact ⟨b, rfl, ok2 H' ρ2 .refl ab2⟩
    | int i => unfold Rep at r2; subst r2; exact ⟨_, rfl, ok2 H' ρ2 .refl ab2⟩
    | str y =>
      unfold Rep at r2; subst r2
      dsimp only [dTru] at ok2
      split at ok2
      · rename_i hl; exact ⟨_, ⟨hl, rfl⟩, ok2 H' ρ2 .refl ab2⟩
      · exact ok2.elim
    | tup xs =>
      unfold Rep at r2
      obtain ⟨p, vs, rfl, sq, rs⟩ := r2
      exact ⟨!vs.isEmpty, .inr (.inl ⟨vs, sq, rfl⟩), by rw [isEmpty_reps rs]; exact ok2 H' ρ2 .refl ab2⟩
    | con xs =>
      unfold Rep at r2
      obtain ⟨p, vs, rfl, sq, rs⟩ := r2
      exact ⟨!vs.isEmpty, .inl ⟨vs, sq.seq, rfl⟩, by rw [isEmpty_reps rs]; exact ok2 H' ρ2 .refl ab2⟩
    | obj n =>
      unfold Rep at r2
      obtain ⟨p, rfl, e1⟩ := r2
      dsimp only [dTru] at ok2
      cases q : G2[n]? with
      | none => rw [q] at ok2; exact ok2.elim
      | some o =>
        cases o with
        | lst xs =>
          rw [q] at ok2
          obtain ⟨p', vs, e2, hp, rs⟩ := ab2.hp.lst q
          rw [e1] at e2; cases e2
          exact ⟨!vs.isEmpty, .inl ⟨vs, .of hp, rfl⟩, by rw [isEmpty_reps rs]; exact ok2 H' ρ2 .refl ab2⟩
    | fn x => exact ok2.elim
/-- the truth of an expression -/
theorem qt_tru (ha : QE X EE a ma) (he : ∀ whole, isTrue a X.env whole = (do let v ← whole; standAt a.pos; holding [v] (truthy v)) := by intro _; rfl) : QT X EE a (tTruth dTru ma) :=
  PT.mono (pt_truth ha he) fun σ H Q h => tru_lift h
end
end L3

end

section
set_option Elab.async false
set_option linter.all false
set_option maxRecDepth 100000
namespace L3
open PySem PySem.Spec L2

/-! ### data as the library's data -/
def optMap {α β : Type} (f : α → Option β) : List α → Option (List β)
  | [] => some []
  | a :: r => match f a, optMap f r with
    | some b, some bs => some (b :: bs)
    | _, _ => none
def toP (G : DH) : Nat → D → Option PyData
  | 0, _ => none
  | _ + 1, .non => some .none
  | _ + 1, .bl b => some (.bool b)
  | _ + 1, .int i => some (.int i)
  | _ + 1, .str x => some (.str x)
  | n + 1, .tup ds => (optMap (toP G n) ds).map .tuple
  | n + 1, .con ds => (optMap (toP G n) ds).map .list
  | n + 1, .obj k => match G[k]? with
    | some (.lst ds) => (optMap (toP G n) ds).map .list
    | _ => none
  | _ + 1, .fn _ => none
section
variable {X : Cx} {EE : EXK} {pins : List (Addr × Obj)} {σ : L2.St} {H : Hp} {s : Shared} {ρ : List Addr} {G : DH}
theorem readsAll {f : D → Option PyData} (hf : ∀ (d : D) (x : V) (u : Value) (p : PyData), Rep X.K X.mg ρ H d x → RelV x u → f d = some p → ∃ as, Reads s.heap u p as) :
    ∀ (ds : List D) (xs : List V) (us : List Value) (ps : List PyData), Reps X.K X.mg ρ H ds xs → Vals xs us → optMap f ds = some ps → ∃ as, ReadsAll s.heap us ps as
  | [], xs, us, ps, r, v, e => by
    unfold Reps at r; subst r
    cases v; cases e
    exact ⟨[], .nil⟩
  | d :: ds, xs, us, ps, r, v, e => by
    unfold Reps at r
    obtain ⟨x, r', rfl, h1, h2⟩ := r
    cases v with
    | cons v1 v2 =>
    unfold optMap at e
    cases e1 : f d with
    | none => rw [e1] at e; cases e
    | some p =>
      cases e2 : optMap f ds with
      | none => rw [e1, e2] at e; cases e
      | some qs =>
        rw [e1, e2] at e
        cases e
        obtain ⟨as, a1⟩ := hf d x _ p h1 v1 e1
        obtain ⟨bs, a2⟩ := readsAll hf ds r' _ qs h2 v2 e2
        exact ⟨as ++ bs, .cons a1 a2⟩
theorem reads_of (I : Inv X pins σ H s) (hp : HAb X.K X.mg H ρ G) : ∀ (n : Nat) (d : D) (x : V) (u : Value) (p : PyData), Rep X.K X.mg ρ H d x → RelV x u → toP G n d = some p → ∃ as, Reads s.heap u p as
  | 0, _, _, _, _, _, _, e => nomatch e
  | n + 1, .non, x, u, p, r, v, e => by unfold Rep at r; subst r; cases v; cases e; exact ⟨_, .none⟩
  | n + 1, .bl b, x, u, p, r, v, e => by unfold Rep at r; subst r; cases v; cases e; exact ⟨_, .bool b⟩
  | n + 1, .int i, x, u, p, r, v, e => by unfold Rep at r; subst r; obtain ⟨t, rfl⟩ := v; cases e; exact ⟨_, .int i t⟩
  | n + 1, .str y, x, u, p, r, v, e => by unfold Rep at r; subst r; obtain ⟨t, rfl⟩ := v; cases e; exact ⟨_, .str y t⟩
  | n + 1, .tup ds, x, u, p, r, v, e => by
    unfold Rep at r
    obtain ⟨a, xs, rfl, sq, rs⟩ := r
    cases v
    obtain ⟨its, vs, ⟨o, e1, e2, k, e3⟩, _⟩ := I.tuple sq
    unfold toP at e
    cases q : optMap (toP G n) ds with
    | none => rw [q] at e; cases e
    | some ps =>
      rw [q] at e; cases e
      obtain ⟨as, ra⟩ := readsAll (fun d x u p => reads_of I hp n d x u p) ds xs its ps rs vs q
      exact ⟨as, .tuple e1 e2 e3 (by simpa using ra)⟩
  | n + 1, .con ds, x, u, p, r, v, e => by
    unfold Rep at r
    obtain ⟨a, xs, rfl, sq, rs⟩ := r
    cases v
    obtain ⟨its, vs, ⟨o, k, e1, e2, e3, e4⟩, _⟩ := I.list sq.seq
    unfold toP at e
    cases q : optMap (toP G n) ds with
    | none => rw [q] at e; cases e
    | some ps =>
      rw [q] at e; cases e
      obtain ⟨as, ra⟩ := readsAll (fun d x u p => reads_of I hp n d x u p) ds xs its ps rs vs q
      exact ⟨_, .list e1 e2 e4 (by simpa using ra)⟩
  | n + 1, .obj k, x, u, p, r, v, e => by
    unfold Rep at r
    obtain ⟨a, rfl, e0⟩ := r
    cases v
    dsimp only [toP] at e
    cases q : G[k]? with
    | none => rw [q] at e; cases e
    | some o =>
      cases o with
      | lst ds =>
        rw [q] at e
        obtain ⟨a', xs, e1, e2, rs⟩ := hp.lst q
        rw [e0] at e1; cases e1
        obtain ⟨its, vs, ⟨o, k, e1, e2, e3, e4⟩, _⟩ := I.list (.of e2)
        dsimp only at e
        cases q : optMap (toP G n) ds with
        | none => rw [q] at e; cases e
        | some ps =>
          rw [q] at e; cases e
          obtain ⟨as, ra⟩ := readsAll (fun d x u p => reads_of I hp n d x u p) ds xs its ps rs vs q
          exact ⟨_, .list e1 e2 e4 (by simpa using ra)⟩
  | n + 1, .fn y, x, u, p, r, v, e => nomatch e
end

/-! ### operations by the mirror itself -/
section
variable {X : Cx} {EE : EXK} {a b c : Expr} {ma mb mc : DS → M D} {pos : Pos}
def rD (X : Cx) (EE : EXK) (f : D → D → M D) : R2 := fun x y H Q => ∃ σ τ ρ G d e, Ab X.K X.mg σ H τ ρ G ∧ Rep X.K X.mg ρ H d x ∧ Rep X.K X.mg ρ H e y ∧ OkE X.K X.mg EE H σ τ ρ (f d e G) Q
theorem opD_self {f : D → D → M D} : OpD X EE (rD X EE f) f := fun σ H τ ρ G x y d e Q ab r1 r2 ok => ⟨σ, τ, ρ, G, d, e, ab, r1, r2, ok⟩
theorem rD_of {f : D → D → M D} {r : R2} (h : OpD X EE r f) {x y : V} {H : Hp} {Q : VK} (q : rD X EE f x y H Q) : r x y H Q := by
  obtain ⟨σ, τ, ρ, G, d, e, ab, r1, r2, ok⟩ := q
  exact h σ H τ ρ G x y d e Q ab r1 r2 ok
/-- the fuel of data -/
abbrev deep : Nat := 200
def dEqB (d e : D) (G : DH) : Option Bool := match toP G deep d, toP G deep e with
  | some p, some q => if p.canLay0 && (q.canLay0 && decide (min p.depth q.depth ≤ 180)) then some (PyData.eqv p q) else none
  | _, _ => none
def dEq (neg : Bool) (d e : D) : M D := fun G => match dEqB d e G with
  | some b => .ok (.bl (neg ^^ b)) G
  | none => .stuck
theorem op_eqD (hu : X.A.units + 200 < cLine) : OpR X (compareOp .Eq) (rD X EE (dEq false)) := by
  intro pins s σ0 H x y v u Q I rx ry ⟨σ, τ, ρ, G, d, e, ab, r1, r2, ok⟩
  dsimp only [dEq, dEqB] at ok
  cases e1 : toP G deep d with
  | none => rw [e1] at ok; exact ok.elim
  | some p =>
    cases e2 : toP G deep e with
    | none => rw [e1, e2] at ok; exact ok.elim
    | some q =>
      rw [e1, e2] at ok
      dsimp only at ok
      by_cases hc : (p.canLay0 && (q.canLay0 && decide (min p.depth q.depth ≤ 180))) = true
      · rw [if_pos hc] at ok
        simp only [Bool.and_eq_true, decide_eq_true_eq] at hc
        obtain ⟨as, ra⟩ := reads_of I ab.hp deep d x v p r1 rx e1
        obtain ⟨bs, rb⟩ := reads_of I ab.hp deep e y u q r2 ry e2
        refine SeqAt.compareEq_reads ra rb hc.1 hc.2.1 (by omega) ⟨.bl _, H, I, rfl, ?_⟩
        have := ok (.bl _) H ρ .refl ab (by unfold Rep; rfl)
        simpa using this
      · rw [if_neg hc] at ok; exact ok.elim
theorem op_neD (hu : X.A.units + 200 < cLine) : OpR X (compareOp .NotEq) (rD X EE (dEq true)) := by
  intro pins s σ0 H x y v u Q I rx ry ⟨σ, τ, ρ, G, d, e, ab, r1, r2, ok⟩
  dsimp only [dEq, dEqB] at ok
  cases e1 : toP G deep d with
  | none => rw [e1] at ok; exact ok.elim
  | some p =>
    cases e2 : toP G deep e with
    | none => rw [e1, e2] at ok; exact ok.elim
    | some q =>
      rw [e1, e2] at ok
      dsimp only at ok
      by_cases hc : (p.canLay0 && (q.canLay0 && decide (min p.depth q.depth ≤ 180))) = true
      · rw [if_pos hc] at ok
        simp only [Bool.and_eq_true, decide_eq_true_eq] at hc
        obtain ⟨as, ra⟩ := reads_of I ab.hp deep d x v p r1 rx e1
        obtain ⟨bs, rb⟩ := reads_of I ab.hp deep e y u q r2 ry e2
        refine SeqAt.compareNe_reads ra rb hc.1 hc.2.1 (by omega) ⟨.bl _, H, I, rfl, ?_⟩
        have := ok (.bl _) H ρ .refl ab (by unfold Rep; rfl)
        simpa using this
      · rw [if_neg hc] at ok; exact ok.elim
theorem qe_eq (hu : X.A.units + 200 < cLine) (ha : QE X EE a ma) (hb : QE X EE b mb) : QE X EE (.Compare a [.Eq] [b] pos) (eOp (dEq false) ma mb) := qe_cmp (op_eqD hu) opD_self ha hb (nomark _)
theorem qe_ne (hu : X.A.units + 200 < cLine) (ha : QE X EE a ma) (hb : QE X EE b mb) : QE X EE (.Compare a [.NotEq] [b] pos) (eOp (dEq true) ma mb) := qe_cmp (op_neD hu) opD_self ha hb (nomark _)

/-! ### in, not in -/
inductive SeqK where
  | lst (xs : List D) | tup (xs : List D) | str (x : Str)
def seqOf (G : DH) : D → Option SeqK
  | .tup xs => some (.tup xs)
  | .con xs => some (.lst xs)
  | .obj n => match G[n]? with
    | some (.lst xs) => some (.lst xs)
    | _ => none
  | .str x => some (.str x)
  | _ => none
def inB (d : D) (ds : List D) (G : DH) : Option Bool := match toP G deep d, optMap (toP G deep) ds with
  | some p, some qs => if p.canLay0 && (PyData.canLayAll0 qs && decide (min (PyData.depthAll qs) p.depth ≤ 180)) then some (qs.any fun y => PyData.eqv y p) else none
  | _, _ => none
def dIn (neg : Bool) (d e : D) : M D := fun G => match seqOf G e with
  | some (.lst ds) => match inB d ds G with
    | some b => .ok (.bl (neg ^^ b)) G
    | none => .stuck
  | some (.tup ds) => match inB d ds G with
    | some b => .ok (.bl (neg ^^ b)) G
    | none => .stuck
  | some (.str j) => match d with
    | .str i => .ok (.bl (neg ^^ !(Builtin.Str.occurrences j i 0 j.length 1).isEmpty)) G
    | _ => .stuck
  | none => .stuck
theorem seqOf_lst {pins : List (Addr × Obj)} {σ0 : L2.St} {H : Hp} {s : Shared} {ρ : List Addr} {G : DH} {d : D} {ds : List D} {x : V} (h : HAb X.K X.mg H ρ G) (r : Rep X.K X.mg ρ H d x) (e : seqOf G d = some (.lst ds)) :
    ∃ p xs, x = .ref p ∧ SqL X.K H p xs ∧ Reps X.K X.mg ρ H ds xs := by
  cases d with
  | con xs =>
    cases e
    unfold Rep at r
    obtain ⟨a, xs, rfl, sq, rs⟩ := r
    exact ⟨a, xs, rfl, sq.seq, rs⟩
  | obj n =>
    unfold Rep at r
    obtain ⟨a, rfl, e0⟩ := r
    dsimp only [seqOf] at e
    cases q : G[n]? with
    | none => rw [q] at e; cases e
    | some o =>
      cases o with
      | lst ys =>
        rw [q] at e; cases e
        obtain ⟨a', xs, e1, e2, rs⟩ := h.lst q
        rw [e0] at e1; cases e1
        exact ⟨a, xs, rfl, .of e2, rs⟩
  | _ => cases e
theorem seqOf_tup {H : Hp} {ρ : List Addr} {G : DH} {d : D} {ds : List D} {x : V} (r : Rep X.K X.mg ρ H d x) (e : seqOf G d = some (.tup ds)) :
    ∃ p xs, x = .ref p ∧ SqT X.K H p xs ∧ Reps X.K X.mg ρ H ds xs := by
  cases d with
  | tup xs =>
    cases e
    unfold Rep at r
    obtain ⟨a, xs, rfl, sq, rs⟩ := r
    exact ⟨a, xs, rfl, sq, rs⟩
  | obj n =>
    dsimp only [seqOf] at e
    cases q : G[n]? with
    | none => rw [q] at e; cases e
    | some o => cases o; rw [q] at e; cases e
  | _ => cases e
theorem seqOf_str {H : Hp} {ρ : List Addr} {G : DH} {d : D} {y : Str} {x : V} (r : Rep X.K X.mg ρ H d x) (e : seqOf G d = some (.str y)) : d = .str y ∧ x = .str y := by
  cases d with
  | str z => cases e; unfold Rep at r; exact ⟨rfl, r⟩
  | obj n =>
    dsimp only [seqOf] at e
    cases q : G[n]? with
    | none => rw [q] at e; cases e
    | some o => cases o; rw [q] at e; cases e
  | _ => cases e
theorem readsL {pins : List (Addr × Obj)} {σ0 : L2.St} {H : Hp} {s : Shared} {ρ : List Addr} {G : DH} {p : Addr} {xs : List V} {ds : List D} {qs : List PyData} (I : Inv X pins σ0 H s) (hp : HAb X.K X.mg H ρ G) (sq : SqL X.K H p xs) (rs : Reps X.K X.mg ρ H ds xs)
    (e : optMap (toP G deep) ds = some qs) : ∃ as, Reads s.heap (.ref p) (.list qs) as := by
  obtain ⟨its, vs, ⟨o, k, e1, e2, e3, e4⟩, _⟩ := I.list sq
  obtain ⟨as, ra⟩ := readsAll (fun d x u p => reads_of I hp deep d x u p) ds xs its qs rs vs e
  exact ⟨_, .list e1 e2 e4 (by simpa using ra)⟩
theorem readsT {pins : List (Addr × Obj)} {σ0 : L2.St} {H : Hp} {s : Shared} {ρ : List Addr} {G : DH} {p : Addr} {xs : List V} {ds : List D} {qs : List PyData} (I : Inv X pins σ0 H s) (hp : HAb X.K X.mg H ρ G) (sq : SqT X.K H p xs) (rs : Reps X.K X.mg ρ H ds xs)
    (e : optMap (toP G deep) ds = some qs) : ∃ as, Reads s.heap (.ref p) (.tuple qs) as := by
  obtain ⟨its, vs, ⟨o, e1, e2, k, e3⟩, _⟩ := I.tuple sq
  obtain ⟨as, ra⟩ := readsAll (fun d x u p => reads_of I hp deep d x u p) ds xs its qs rs vs e
  exact ⟨_, .tuple e1 e2 e3 (by simpa using ra)⟩
theorem inB_some {d : D} {ds : List D} {G : DH} {b : Bool} (h : inB d ds G = some b) : ∃ p qs, toP G deep d = some p ∧ optMap (toP G deep) ds = some qs ∧ p.canLay0 = true ∧ PyData.canLayAll0 qs = true ∧ min (PyData.depthAll qs) p.depth ≤ 180 ∧ b = qs.any fun y => PyData.eqv y p := by
  unfold inB at h
  cases e1 : toP G deep d with
  | none => rw [e1] at h; cases h
  | some p =>
    cases e2 : optMap (toP G deep) ds with
    | none => rw [e1, e2] at h; cases h
    | some qs =>
      rw [e1, e2] at h
      dsimp only at h
      by_cases hc : (p.canLay0 && (PyData.canLayAll0 qs && decide (min (PyData.depthAll qs) p.depth ≤ 180))) = true
      · rw [if_pos hc] at h
        simp only [Bool.and_eq_true, decide_eq_true_eq] at hc
        exact ⟨p, qs, rfl, rfl, hc.1, hc.2.1, hc.2.2, (Option.some.inj h).symm⟩
      · rw [if_neg hc] at h; cases h
theorem op_inD (hu : X.A.units + 200 < cLine) : OpR X (compareOp .In) (rD X EE (dIn false)) := by
  intro pins s σ0 H x y v u Q I rx ry ⟨σ, τ, ρ, G, d, e, ab, r1, r2, ok⟩
  dsimp only [dIn] at ok
  cases q : seqOf G e with
  | none => rw [q] at ok; exact ok.elim
  | some sk =>
    rw [q] at ok
    cases sk with
    | lst ds =>
      dsimp only at ok
      cases qb : inB d ds G with
      | none => rw [qb] at ok; exact ok.elim
      | some b =>
        rw [qb] at ok
        obtain ⟨p, qs, e1, e2, h1, h2, h3, rfl⟩ := inB_some qb
        obtain ⟨l, xs, rfl, sq, rs⟩ := seqOf_lst (pins := pins) (σ0 := σ0) (s := s) ab.hp r2 q
        cases ry
        obtain ⟨as, ra⟩ := reads_of I ab.hp deep d x v p r1 rx e1
        obtain ⟨bs, rb⟩ := readsL I ab.hp sq rs e2
        refine SeqAt.in_list_reads rb ra h2 h1 (by omega) ⟨.bl _, H, I, rfl, ?_⟩
        have := ok (.bl _) H ρ .refl ab (by unfold Rep; rfl)
        simpa using this
    | tup ds =>
      dsimp only at ok
      cases qb : inB d ds G with
      | none => rw [qb] at ok; exact ok.elim
      | some b =>
        rw [qb] at ok
        obtain ⟨p, qs, e1, e2, h1, h2, h3, rfl⟩ := inB_some qb
        obtain ⟨l, xs, rfl, sq, rs⟩ := seqOf_tup r2 q
        cases ry
        obtain ⟨as, ra⟩ := reads_of I ab.hp deep d x v p r1 rx e1
        obtain ⟨bs, rb⟩ := readsT I ab.hp sq rs e2
        refine SeqAt.in_tuple_reads rb ra h2 h1 (by omega) ⟨.bl _, H, I, rfl, ?_⟩
        have := ok (.bl _) H ρ .refl ab (by unfold Rep; rfl)
        simpa using this
    | str j =>
      obtain ⟨rfl, rfl⟩ := seqOf_str r2 q
      cases d with
      | str i =>
        unfold Rep at r1; subst r1
        refine op_in_str pins s σ0 H _ _ v u Q I rx ry ⟨i, j, rfl, rfl, ?_⟩
        have := ok (.bl _) H ρ .refl ab (by unfold Rep; rfl)
        simpa using this
      | _ => exact ok.elim
theorem op_notInD (hu : X.A.units + 200 < cLine) : OpR X (compareOp .NotIn) (rD X EE (dIn true)) := by
  intro pins s σ0 H x y v u Q I rx ry ⟨σ, τ, ρ, G, d, e, ab, r1, r2, ok⟩
  dsimp only [dIn] at ok
  cases q : seqOf G e with
  | none => rw [q] at ok; exact ok.elim
  | some sk =>
    rw [q] at ok
    cases sk with
    | lst ds =>
      dsimp only at ok
      cases qb : inB d ds G with
      | none => rw [qb] at ok; exact ok.elim
      | some b =>
        rw [qb] at ok
        obtain ⟨p, qs, e1, e2, h1, h2, h3, rfl⟩ := inB_some qb
        obtain ⟨l, xs, rfl, sq, rs⟩ := seqOf_lst (pins := pins) (σ0 := σ0) (s := s) ab.hp r2 q
        cases ry
        obtain ⟨as, ra⟩ := reads_of I ab.hp deep d x v p r1 rx e1
        obtain ⟨bs, rb⟩ := readsL I ab.hp sq rs e2
        refine SeqAt.notIn_list_reads rb ra h2 h1 (by omega) ⟨.bl _, H, I, rfl, ?_⟩
        have := ok (.bl _) H ρ .refl ab (by unfold Rep; rfl)
        simpa using this
    | tup ds =>
      dsimp only at ok
      cases qb : inB d ds G with
      | none => rw [qb] at ok; exact ok.elim
      | some b =>
        rw [qb] at ok
        obtain ⟨p, qs, e1, e2, h1, h2, h3, rfl⟩ := inB_some qb
        obtain ⟨l, xs, rfl, sq, rs⟩ := seqOf_tup r2 q
        cases ry
        obtain ⟨as, ra⟩ := reads_of I ab.hp deep d x v p r1 rx e1
        obtain ⟨bs, rb⟩ := readsT I ab.hp sq rs e2
        refine SeqAt.notIn_tuple_reads rb ra h2 h1 (by omega) ⟨.bl _, H, I, rfl, ?_⟩
        have := ok (.bl _) H ρ .refl ab (by unfold Rep; rfl)
        simpa using this
    | str j =>
      obtain ⟨rfl, rfl⟩ := seqOf_str r2 q
      cases d with
      | str i =>
        unfold Rep at r1; subst r1
        refine op_notin_str pins s σ0 H _ _ v u Q I rx ry ⟨i, j, rfl, rfl, ?_⟩
        have := ok (.bl _) H ρ .refl ab (by unfold Rep; rfl)
        simpa using this
      | _ => exact ok.elim
theorem qe_in (hu : X.A.units + 200 < cLine) (ha : QE X EE a ma) (hb : QE X EE b mb) (hm : behindInMarks .In b = false := by first | rfl | (with_unfolding_all rfl)) : QE X EE (.Compare a [.In] [b] pos) (eOp (dIn false) ma mb) := qe_cmp (op_inD hu) opD_self ha hb hm
theorem qe_notIn (hu : X.A.units + 200 < cLine) (ha : QE X EE a ma) (hb : QE X EE b mb) (hm : behindInMarks .NotIn b = false := by first | rfl | (with_unfolding_all rfl)) : QE X EE (.Compare a [.NotIn] [b] pos) (eOp (dIn true) ma mb) := qe_cmp (op_notInD hu) opD_self ha hb hm

/-! ### is None -/
def dIsN (neg : Bool) : D → D → M D
  | d, .non => match d with
    | .non => M.ret (.bl (!neg))
    | _ => M.ret (.bl neg)
  | _, _ => M.stop
theorem rep_non {K : PySem.W.Frag} {mg : Str → Option Value} {ρ : List Addr} {H : Hp} {d : D} {x : V} (r : Rep K mg ρ H d x) : decide (x = .non) = (match d with | .non => true | _ => false) := by
  cases d <;> unfold Rep at r
  case non => subst r; rfl
  case tup => obtain ⟨a, xs, rfl, _⟩ := r; rfl
  case con => obtain ⟨a, xs, rfl, _⟩ := r; rfl
  case obj => obtain ⟨a, rfl, _⟩ := r; rfl
  case fn => obtain ⟨a, rfl, _⟩ := r; rfl
  all_goals (subst r; rfl)
theorem qe_isN (ha : QE X EE a ma) (hb : QE X EE b mb) : QE X EE (.Compare a [.Is] [b] pos) (eOp (dIsN false) ma mb) := qe_cmp op_isN (fun σ H τ ρ G x y d e Q ab r1 r2 ok => by
  cases e with
  | non =>
    unfold Rep at r2
    refine ⟨r2, ?_⟩
    rw [rep_non r1]
    cases d <;> exact ok _ H ρ .refl ab (by unfold Rep; rfl)
  | _ => exact ok.elim) ha hb (nomark _)
theorem qe_notN (ha : QE X EE a ma) (hb : QE X EE b mb) : QE X EE (.Compare a [.IsNot] [b] pos) (eOp (dIsN true) ma mb) := qe_cmp op_notN (fun σ H τ ρ G x y d e Q ab r1 r2 ok => by
  cases e with
  | non =>
    unfold Rep at r2
    refine ⟨r2, ?_⟩
    rw [rep_non r1]
    cases d <;> exact ok _ H ρ .refl ab (by unfold Rep; rfl)
  | _ => exact ok.elim) ha hb (nomark _)
end
end L3

end

section
set_option Elab.async false
set_option linter.all false
set_option maxRecDepth 100000
namespace L3
open PySem PySem.Spec L2
section
variable {X : Cx} {EE : EXK} {a b c : Expr} {ma mb mc : DS → M D} {pos : Pos}

/-! ### + -/
def dAdd : D → D → M D
  | .int i, .int j => M.ret (.int (i + j))
  | .str i, .str j => if i.length + j.length ≤ sizeLine then M.ret (.str (i ++ j)) else M.stop
  | .tup xs, .tup ys => if xs.isEmpty then M.stop else dTup (xs ++ ys)
  | .obj n, .obj k => fun G => match G[n]?, G[k]? with
    | some (.lst xs), some (.lst ys) => dNew (xs ++ ys) G
    | _, _ => .stuck
  | _, _ => M.stop
theorem op_addD : OpR X (binaryOp .Add) (rD X EE dAdd) := by
  intro pins s σ0 H x y v u Q I rx ry ⟨σ, τ, ρ, G, d, e, ab, r1, r2, ok⟩
  cases d <;> cases e <;> try exact ok.elim
  case int.int i j =>
    unfold Rep at r1 r2; subst r1 r2
    exact op_add pins s σ0 H _ _ v u Q I rx ry ⟨i, j, rfl, rfl, ok _ H ρ .refl ab (by unfold Rep; rfl)⟩
  case str.str i j =>
    unfold Rep at r1 r2; subst r1 r2
    dsimp only [dAdd] at ok
    by_cases h : i.length + j.length ≤ sizeLine
    · rw [if_pos h] at ok
      exact op_add_str pins s σ0 H _ _ v u Q I rx ry ⟨i, j, rfl, rfl, h, ok _ H ρ .refl ab (by unfold Rep; rfl)⟩
    · rw [if_neg h] at ok; exact ok.elim
  case tup.tup xs ys =>
    have r1' := r1
    unfold Rep at r1 r2
    obtain ⟨p, vs, rfl, s1, t1⟩ := r1
    obtain ⟨q, ws, rfl, s2, t2⟩ := r2
    dsimp only [dAdd] at ok
    cases hx : xs.isEmpty with
    | true => rw [hx] at ok; exact ok.elim
    | false =>
      rw [hx] at ok
      have ok' : OkE X.K X.mg EE H σ τ ρ (dTup (xs ++ ys) G) Q := ok
      obtain ⟨hl, q1⟩ := tup_ok ab (t1.append t2) ok'
      rw [List.length_append] at hl
      have hv : vs ≠ [] := by
        intro z; subst z
        have := t1.length
        cases xs with
        | nil => cases hx
        | cons _ _ => simp at this
      refine op_catT pins s σ0 H _ _ v u Q I rx ry ⟨p, q, vs, ws, rfl, rfl, s1, s2, hv, hl, fun z => ?_, fun z p hp => q1 p hp⟩
      subst z
      have hy : ys = [] := by
        have := t2.length
        cases ys with
        | nil => rfl
        | cons _ _ => simp at this
      subst hy
      unfold dTup at ok'
      split at ok'
      · exact ok' _ H ρ .refl ab (by rw [List.append_nil]; exact r1')
      · exact ok'.elim
  case obj.obj n k =>
    unfold Rep at r1 r2
    obtain ⟨p, rfl, e1⟩ := r1
    obtain ⟨q, rfl, e2⟩ := r2
    dsimp only [dAdd] at ok
    cases g1 : G[n]? with
    | none => rw [g1] at ok; exact ok.elim
    | some o1 =>
      cases g2 : G[k]? with
      | none => rw [g1, g2] at ok; cases o1 <;> exact ok.elim
      | some o2 =>
        cases o1 with
        | lst xs =>
          cases o2 with
          | lst ys =>
            rw [g1, g2] at ok
            obtain ⟨p', vs, e1', h1, t1⟩ := ab.hp.lst g1
            obtain ⟨q', ws, e2', h2, t2⟩ := ab.hp.lst g2
            rw [e1] at e1'; cases e1'
            rw [e2] at e2'; cases e2'
            obtain ⟨hl, q1⟩ := new_ok ab (t1.append t2) ok
            rw [List.length_append] at hl
            exact op_cat pins s σ0 H _ _ v u Q I rx ry ⟨p, q, vs, ws, rfl, rfl, h1, h2, hl, q1⟩
theorem qe_add (ha : QE X EE a ma) (hb : QE X EE b mb) : QE X EE (.BinOp a .Add b pos) (eOp dAdd ma mb) := qe_op op_addD opD_self ha hb

/-! ### x[i] -/
def dIx (d e : D) : M D := fun G => match e with
  | .int i => match seqOf G d with
    | some (.lst xs) => match atI xs i with
      | some v => .ok v G
      | none => .stuck
    | some (.tup xs) => match atI xs i with
      | some v => .ok v G
      | none => .stuck
    | some (.str z) => if z.length ≤ sizeLine then (match atI z.cps.toList i with
      | some c => .ok (.str ⟨#[c]⟩) G
      | none => .stuck) else .stuck
    | none => .stuck
  | _ => .stuck
theorem atI_reps {K : PySem.W.Frag} {mg : Str → Option Value} {ρ : List Addr} {H : Hp} {ds : List D} {vs : List V} {i : Int} {d : D} (r : Reps K mg ρ H ds vs) (h : atI ds i = some d) : ∃ v, atI vs i = some v ∧ Rep K mg ρ H d v := by
  unfold atI at h ⊢
  rw [← r.length]
  cases e : ixN ds.length i with
  | none => rw [e] at h; cases h
  | some j =>
    rw [e] at h
    obtain ⟨v, e1, e2⟩ := r.get (show ds[j]? = some d from h)
    exact ⟨v, e1, e2⟩
theorem ix_D : IxR X (rD X EE dIx) := by
  intro value slice pins s σ0 H x y v u Q I rx ry ⟨σ, τ, ρ, G, d, e, ab, r1, r2, ok⟩ hs
  cases e <;> try exact ok.elim
  rename_i i
  unfold Rep at r2; subst r2
  dsimp only [dIx] at ok
  cases q : seqOf G d with
  | none => rw [q] at ok; exact ok.elim
  | some sk =>
    rw [q] at ok
    cases sk with
    | lst ds =>
      dsimp only at ok
      cases qa : atI ds i with
      | none => rw [qa] at ok; exact ok.elim
      | some z =>
        rw [qa] at ok
        obtain ⟨l, xs, rfl, sq, rs⟩ := seqOf_lst (pins := pins) (σ0 := σ0) (s := s) ab.hp r1 q
        obtain ⟨w, e1, e2⟩ := atI_reps rs qa
        exact ix_list value slice pins s σ0 H _ _ v u Q I rx ry ⟨l, xs, i, w, rfl, rfl, sq, e1, ok w H ρ .refl ab e2⟩ hs
    | tup ds =>
      dsimp only at ok
      cases qa : atI ds i with
      | none => rw [qa] at ok; exact ok.elim
      | some z =>
        rw [qa] at ok
        obtain ⟨l, xs, rfl, sq, rs⟩ := seqOf_tup r1 q
        obtain ⟨w, e1, e2⟩ := atI_reps rs qa
        exact ix_tup value slice pins s σ0 H _ _ v u Q I rx ry ⟨l, xs, i, w, rfl, rfl, sq, e1, ok w H ρ .refl ab e2⟩ hs
    | str z =>
      dsimp only at ok
      obtain ⟨rfl, rfl⟩ := seqOf_str r1 q
      by_cases hz : z.length ≤ sizeLine
      · rw [if_pos hz] at ok
        cases qa : atI z.cps.toList i with
        | none => rw [qa] at ok; exact ok.elim
        | some c =>
          rw [qa] at ok
          exact ix_str value slice pins s σ0 H _ _ v u Q I rx ry ⟨z, i, c, rfl, rfl, hz, qa, ok _ H ρ .refl ab (by unfold Rep; rfl)⟩ hs
      · rw [if_neg hz] at ok; exact ok.elim
theorem qe_index (ha : QE X EE a ma) (hb : QE X EE b mb) (hs : PlainIx b := by intro _ _; rfl) : QE X EE (.Subscript a b pos) (eOp dIx ma mb) := qe_ix ix_D opD_self ha hb hs

/-! ### x[lo:hi] -/
def oNone : DS → M (Option Int) := fun _ => M.ret none
def oSome (m : DS → M D) : DS → M (Option Int) := fun τ => (m τ).bind fun d => match d with
  | .int i => M.ret (some i)
  | _ => M.stop
def OkO (K : PySem.W.Frag) (mg : Str → Option Value) (EE : EXK) (H : Hp) (σ : L2.St) (τ : DS) (ρ : List Addr) : Out (Option Int) → (Option Int → Hp → Prop) → Prop
  | .stuck, _ => False
  | .ok b G', Q => ∀ H' ρ', Fut K H H' ρ ρ' → Ab K mg σ H' τ ρ' G' → Q b H'
  | .exn c G', _ => ∀ H' ρ', Fut K H H' ρ ρ' → Ab K mg σ H' τ ρ' G' → EE c σ H'
def liftO (K : PySem.W.Frag) (mg : Str → Option Value) (EE : EXK) (m : DS → M (Option Int)) : TO := fun σ H Q => ∃ τ ρ G, Ab K mg σ H τ ρ G ∧ OkO K mg EE H σ τ ρ (m τ G) Q
def QO (X : Cx) (EE : EXK) (e : Option Expr) (m : DS → M (Option Int)) : Prop := PO X e (liftO X.K X.mg EE m)
theorem PO.mono {e : Option Expr} {t t' : TO} (h : PO X e t) (i : ∀ σ H Q, t' σ H Q → t σ H Q) : PO X e t' := fun pins s σ H Q I q => h pins s σ H Q I (i _ _ _ q)
theorem qo_none : QO X EE none oNone := PO.mono po_none fun σ H Q ⟨τ, ρ, G, ab, ok⟩ => ok H ρ .refl ab
theorem qo_some (ha : QE X EE a ma) : QO X EE (some a) (oSome ma) := PO.mono (po_some ha) fun σ H Q ⟨τ, ρ, G, ab, ok⟩ => by
  refine ⟨τ, ρ, G, ab, ?_⟩
  dsimp only [oSome, M.bind] at ok
  cases e : ma τ G with
  | stuck => rw [e] at ok; exact ok
  | exn c G' => rw [e] at ok; exact ok
  | ok d G' =>
    rw [e] at ok
    intro v H' ρ' f ab' r
    cases d <;> try exact ok.elim
    rename_i i
    unfold Rep at r
    exact ⟨i, r, ok H' ρ' f ab'⟩
def cutD (xs : List D) (lo hi : Option Int) : List D := (xs.drop (HT.sIx xs.length 0 lo)).take (HT.sIx xs.length xs.length hi - HT.sIx xs.length 0 lo)
def dSl (d : D) (lo hi : Option Int) : M D := fun G => match seqOf G d with
  | some (.lst xs) => dNew (cutD xs lo hi) G
  | some (.tup xs) => if HT.sIx xs.length 0 lo = 0 ∧ HT.sIx xs.length xs.length hi = xs.length then .stuck else dTup (cutD xs lo hi) G
  | some (.str z) => if z.length ≤ sizeLine then .ok (.str (Txt.slice z lo hi)) G else .stuck
  | none => .stuck
def eSl (m : DS → M D) (ml mh : DS → M (Option Int)) : DS → M D := fun τ => (m τ).bind fun d => (ml τ).bind fun lo => (mh τ).bind fun hi => dSl d lo hi
def rSlD (X : Cx) (EE : EXK) : V → Option Int → Option Int → Hp → VK → Prop := fun x lo hi H Q => ∃ σ τ ρ G d, Ab X.K X.mg σ H τ ρ G ∧ Rep X.K X.mg ρ H d x ∧ OkE X.K X.mg EE H σ τ ρ (dSl d lo hi G) Q
theorem cut_reps {K : PySem.W.Frag} {mg : Str → Option Value} {ρ : List Addr} {H : Hp} {ds : List D} {vs : List V} (r : Reps K mg ρ H ds vs) (lo hi : Option Int) : Reps K mg ρ H (cutD ds lo hi) (cutV vs lo hi) := by
  unfold cutD cutV
  rw [r.length]
  exact (r.drop _).take _
def partTok : Option Int → Value → Option (Int × Tok)
  | none, _ => none
  | some i, .int _ t => some (i, t)
  | some i, _ => some (i, 0)
theorem slice_map (x : Str) (l u : Option (Int × Tok)) (lo hi : Option Int) (hl : l.map (·.1) = lo) (hu : u.map (·.1) = hi) (t : Tok) (s : Shared) (Q : Value → Shared → Prop) (hz : x.length ≤ sizeLine)
    (h : ∀ t' k, Q (.str (Txt.slice x lo hi) t') { s with toks := k }) : (sliceMade x t l u none).post Q s := by
  subst hl hu
  cases l <;> cases u <;> exact post_val_or_str ⟨Nat.le_trans (Txt.slice_le x _ _) hz, fun t' k => h t' k⟩
theorem sl_D : SlR X (rSlD X EE) := by
  intro pins s σ0 H x v vl vu lo hi sl Q I rx hs pl pu ⟨σ, τ, ρ, G, d, ab, r1, ok⟩
  dsimp only [dSl] at ok
  cases q : seqOf G d with
  | none => rw [q] at ok; exact ok.elim
  | some sk =>
    rw [q] at ok
    cases sk with
    | lst ds =>
      obtain ⟨l, xs, rfl, sq, rs⟩ := seqOf_lst (pins := pins) (σ0 := σ0) (s := s) ab.hp r1 q
      exact sl_list pins s σ0 H _ v vl vu lo hi sl Q I rx hs pl pu ⟨l, xs, rfl, sq, (new_ok ab (cut_reps rs lo hi) ok).2⟩
    | tup ds =>
      obtain ⟨l, xs, rfl, sq, rs⟩ := seqOf_tup r1 q
      dsimp only at ok
      by_cases hw : HT.sIx ds.length 0 lo = 0 ∧ HT.sIx ds.length ds.length hi = ds.length
      · rw [if_pos hw] at ok; exact ok.elim
      · rw [if_neg hw] at ok
        refine sl_tup pins s σ0 H _ v vl vu lo hi sl Q I rx hs pl pu ⟨l, xs, rfl, sq, ?_, (tup_ok ab (cut_reps rs lo hi) ok).2⟩
        rw [← rs.length]; exact hw
    | str z =>
      obtain ⟨rfl, rfl⟩ := seqOf_str r1 q
      dsimp only at ok
      by_cases hz : z.length ≤ sizeLine
      · rw [if_pos hz] at ok
        obtain ⟨t, rfl⟩ := rx
        refine ⟨"str", _, F.slot_str_getitem.lookup, typeIs_str _ _ _, ?_⟩
        obtain ⟨o, e1, e2, e3⟩ := hs
        have fin : ∀ t' k, EP X pins σ0 Q (.str (Txt.slice z lo hi) t') { s with toks := k } := fun t' k => ⟨.str _, H, I.tok k, ⟨t', rfl⟩, ok _ H ρ .refl ab (by unfold Rep; rfl)⟩
        cases pl with
        | none =>
          cases pu with
          | none => exact wpAny_getItem_str_slice (l := none) (u := none) (st := none) ⟨o, e1, e2, e3⟩ rfl (slice_map z none none none none rfl rfl t s _ hz fin)
          | int j tj => exact wpAny_getItem_str_slice (l := none) (u := some (j, tj)) (st := none) ⟨o, e1, e2, e3⟩ rfl (slice_map z none (some (j, tj)) none (some j) rfl rfl t s _ hz fin)
        | int i ti =>
          cases pu with
          | none => exact wpAny_getItem_str_slice (l := some (i, ti)) (u := none) (st := none) ⟨o, e1, e2, e3⟩ rfl (slice_map z (some (i, ti)) none (some i) none rfl rfl t s _ hz fin)
          | int j tj => exact wpAny_getItem_str_slice (l := some (i, ti)) (u := some (j, tj)) (st := none) ⟨o, e1, e2, e3⟩ rfl (slice_map z (some (i, ti)) (some (j, tj)) (some i) (some j) rfl rfl t s _ hz fin)
      · rw [if_neg hz] at ok; exact ok.elim
theorem qe_slice {lo hi : Option Expr} {ml mh : DS → M (Option Int)} {p2 : Pos} (ha : QE X EE a ma) (hl : QO X EE lo ml) (hh : QO X EE hi mh) : QE X EE (.Subscript a (.Slice lo hi none p2) pos) (eSl ma ml mh) :=
  PE.mono (pe_slice sl_D ha hl hh) fun σ H Q ⟨τ, ρ, G, ab, ok⟩ => by
    refine ⟨τ, ρ, G, ab, ?_⟩
    dsimp only [eSl, M.bind] at ok
    cases e1 : ma τ G with
    | stuck => rw [e1] at ok; exact ok
    | exn c G' => rw [e1] at ok; exact ok
    | ok d G1 =>
      rw [e1] at ok
      dsimp only at ok
      intro v H1 ρ1 f1 ab1 r1
      refine ⟨τ, ρ1, G1, ab1, ?_⟩
      cases e2 : ml τ G1 with
      | stuck => rw [e2] at ok; exact ok
      | exn c G' => rw [e2] at ok; exact fun H' ρ' f' => ok H' ρ' (f1.trans f')
      | ok l G2 =>
        rw [e2] at ok
        dsimp only at ok
        intro H2 ρ2 f2 ab2
        refine ⟨τ, ρ2, G2, ab2, ?_⟩
        cases e3 : mh τ G2 with
        | stuck => rw [e3] at ok; exact ok
        | exn c G' => rw [e3] at ok; exact fun H' ρ' f' => ok H' ρ' ((f1.trans f2).trans f')
        | ok u G3 =>
          rw [e3] at ok
          dsimp only at ok
          intro H3 ρ3 f3 ab3
          exact ⟨σ, τ, ρ3, G3, d, ab3, r1.mono (f2.trans f3), ok.fut ((f1.trans f2).trans f3)⟩

/-! ### and, or, not, if -/
def tAndD (ma mb : DS → M Bool) : DS → M Bool := fun τ => (ma τ).bind fun c => if c then mb τ else M.ret false
def tOrD (ma mb : DS → M Bool) : DS → M Bool := fun τ => (ma τ).bind fun c => if c then M.ret true else mb τ
def tNotD (ma : DS → M Bool) : DS → M Bool := fun τ => (ma τ).bind fun c => M.ret (!c)
variable {ta tb tc : DS → M Bool} {rest : List Expr}
theorem and_lift {σ : L2.St} {H : Hp} {Q : Bool → Hp → Prop} (h : liftT X.K X.mg EE (tAndD ta tb) σ H Q) : tAnd (liftT X.K X.mg EE ta) (liftT X.K X.mg EE tb) σ H Q := by
  obtain ⟨τ, ρ, G, ab, ok⟩ := bindTT (k := fun τ c => if c then tb τ else M.ret false) h
  refine ⟨τ, ρ, G, ab, ?_⟩
  cases e : ta τ G with
  | stuck => rw [e] at ok; exact ok
  | exn c G' => rw [e] at ok; exact ok
  | ok k G' =>
    rw [e] at ok
    intro H' ρ' f' ab'
    obtain ⟨τ2, ρ2, G2, ab2, ok2⟩ := ok H' ρ' f' ab'
    cases k with
    | true => exact ⟨τ2, ρ2, G2, ab2, ok2⟩
    | false => exact ok2 H' ρ2 .refl ab2
theorem or_lift {σ : L2.St} {H : Hp} {Q : Bool → Hp → Prop} (h : liftT X.K X.mg EE (tOrD ta tb) σ H Q) : tOr (liftT X.K X.mg EE ta) (liftT X.K X.mg EE tb) σ H Q := by
  obtain ⟨τ, ρ, G, ab, ok⟩ := bindTT (k := fun τ c => if c then M.ret true else tb τ) h
  refine ⟨τ, ρ, G, ab, ?_⟩
  cases e : ta τ G with
  | stuck => rw [e] at ok; exact ok
  | exn c G' => rw [e] at ok; exact ok
  | ok k G' =>
    rw [e] at ok
    intro H' ρ' f' ab'
    obtain ⟨τ2, ρ2, G2, ab2, ok2⟩ := ok H' ρ' f' ab'
    cases k with
    | false => exact ⟨τ2, ρ2, G2, ab2, ok2⟩
    | true => exact ok2 H' ρ2 .refl ab2
theorem PW.mono {e : Expr} {t t' : TT} (h : PW X e t) (i : ∀ σ H Q, t' σ H Q → t σ H Q) : PW X e t' := fun wh pins s σ H Q I q => h wh pins s σ H Q I (i _ _ _ q)
theorem qw_and1 (ha : QT X EE a ta) : QW X EE (.BoolOp .And [a] pos) ta := pw_and1 ha
theorem qw_or1 (ha : QT X EE a ta) : QW X EE (.BoolOp .Or [a] pos) ta := pw_or1 ha
theorem qw_and (ha : QT X EE a ta) (hb : QW X EE (.BoolOp .And (b :: rest) pos) tb) : QW X EE (.BoolOp .And (a :: b :: rest) pos) (tAndD ta tb) := PW.mono (pw_and ha hb) fun _ _ _ h => and_lift h
theorem qw_or (ha : QT X EE a ta) (hb : QW X EE (.BoolOp .Or (b :: rest) pos) tb) : QW X EE (.BoolOp .Or (a :: b :: rest) pos) (tOrD ta tb) := PW.mono (pw_or ha hb) fun _ _ _ h => or_lift h
theorem qt_w {e : Expr} (h : QW X EE e ta) : QT X EE e ta := h.pt
theorem qt_not (ha : QT X EE a ta) : QT X EE (.UnaryOp .Not a pos) (tNotD ta) := PT.mono (pt_not ha) fun σ H Q h => by
  obtain ⟨τ, ρ, G, ab, ok⟩ := bindTT (k := fun τ c => M.ret (!c)) h
  refine ⟨τ, ρ, G, ab, ?_⟩
  cases e : ta τ G with
  | stuck => rw [e] at ok; exact ok
  | exn c G' => rw [e] at ok; exact ok
  | ok k G' =>
    rw [e] at ok
    intro H' ρ' f' ab'
    obtain ⟨τ2, ρ2, G2, ab2, ok2⟩ := ok H' ρ' f' ab'
    exact ok2 H' ρ2 .refl ab2
/-- a comparison as a test: its value is a bool -/
def tBl (m : DS → M D) : DS → M Bool := fun τ => (m τ).bind fun d => match d with
  | .bl b => M.ret b
  | _ => M.stop
theorem bl_lift {m : DS → M D} {σ : L2.St} {H : Hp} {Q : Bool → Hp → Prop} (h : liftT X.K X.mg EE (tBl m) σ H Q) : liftE X.K X.mg EE m σ H fun x H1 => ∃ c, x = .bl c ∧ Q c H1 := by
  obtain ⟨τ, ρ, G, ab, ok⟩ := bindET (k := fun _ d => match d with | .bl b => M.ret b | _ => M.stop) h
  refine ⟨τ, ρ, G, ab, ?_⟩
  cases e : m τ G with
  | stuck => rw [e] at ok; exact ok
  | exn c G' => rw [e] at ok; exact ok
  | ok d G' =>
    rw [e] at ok
    intro v H' ρ' f' ab' r'
    obtain ⟨τ2, ρ2, G2, d2, ab2, r2, ok2⟩ := ok v H' ρ' f' ab' r'
    cases d2 <;> try exact ok2.elim
    rename_i k
    unfold Rep at r2
    exact ⟨k, r2, ok2 H' ρ2 .refl ab2⟩
theorem qt_cmp {op : CmpOp} {f : D → D → M D} (ho : OpR X (compareOp op) (rD X EE f)) (ha : QE X EE a ma) (hb : QE X EE b mb) (hm : behindInMarks op b = false) : QT X EE (.Compare a [op] [b] pos) (tBl (eOp f ma mb)) :=
  PT.mono (pt_cmpR ho ha hb hm) fun σ H Q h => by
    have h1 := bl_lift h
    exact op_lift opD_self h1
theorem op_of {f : D → D → M D} {g : Value → Value → Sem Value} {r : R2} (ho : OpR X g r) (hd : OpD X EE r f) : OpR X g (rD X EE f) := fun pins s σ H x y v u Q I rx ry q => ho pins s σ H x y v u Q I rx ry (rD_of hd q)
theorem op_ltD : OpR X (compareOp .Lt) (rD X EE dLt) := op_of op_lt (opD_int0 fun _ _ _ _ => by unfold Rep; rfl)
theorem op_leD : OpR X (compareOp .LtE) (rD X EE dLe) := op_of op_le (opD_int0 fun _ _ _ _ => by unfold Rep; rfl)
theorem op_gtD : OpR X (compareOp .Gt) (rD X EE dGt) := op_of op_gt (opD_int0 fun _ _ _ _ => by unfold Rep; rfl)
theorem op_geD : OpR X (compareOp .GtE) (rD X EE dGe) := op_of op_ge (opD_int0 fun _ _ _ _ => by unfold Rep; rfl)
theorem op_isND : OpR X (compareOp .Is) (rD X EE (dIsN false)) := op_of op_isN fun σ H τ ρ G x y d e Q ab r1 r2 ok => by
  cases e with
  | non =>
    unfold Rep at r2
    refine ⟨r2, ?_⟩
    rw [rep_non r1]
    cases d <;> exact ok _ H ρ .refl ab (by unfold Rep; rfl)
  | _ => exact ok.elim
theorem op_notND : OpR X (compareOp .IsNot) (rD X EE (dIsN true)) := op_of op_notN fun σ H τ ρ G x y d e Q ab r1 r2 ok => by
  cases e with
  | non =>
    unfold Rep at r2
    refine ⟨r2, ?_⟩
    rw [rep_non r1]
    cases d <;> exact ok _ H ρ .refl ab (by unfold Rep; rfl)
  | _ => exact ok.elim
def eIf (t : DS → M Bool) (ma mb : DS → M D) : DS → M D := fun τ => (t τ).bind fun c => if c then ma τ else mb τ
theorem qe_if {c : Expr} (hc : QT X EE c ta) (ha : QE X EE a ma) (hb : QE X EE b mb) : QE X EE (.IfExp c a b pos) (eIf ta ma mb) := PE.mono (pe_ifExp hc ha hb) fun σ H Q h => by
  obtain ⟨τ, ρ, G, ab, ok⟩ := bindTE (k := fun τ c => if c then ma τ else mb τ) h
  refine ⟨τ, ρ, G, ab, ?_⟩
  cases e : ta τ G with
  | stuck => rw [e] at ok; exact ok
  | exn c G' => rw [e] at ok; exact ok
  | ok k G' =>
    rw [e] at ok
    intro H' ρ' f' ab'
    obtain ⟨τ2, ρ2, G2, ab2, ok2⟩ := ok H' ρ' f' ab'
    cases k with
    | true => exact ⟨τ2, ρ2, G2, ab2, ok2⟩
    | false => exact ⟨τ2, ρ2, G2, ab2, ok2⟩
/-- and, or of bools as values -/
def eAnd (ma mb : DS → M D) : DS → M D := fun τ => (ma τ).bind fun d => match d with
  | .bl true => mb τ
  | .bl false => M.ret (.bl false)
  | _ => M.stop
def eOr (ma mb : DS → M D) : DS → M D := fun τ => (ma τ).bind fun d => match d with
  | .bl false => mb τ
  | .bl true => M.ret (.bl true)
  | _ => M.stop
def eNot (ma : DS → M D) : DS → M D := fun τ => (ma τ).bind fun d => match d with
  | .bl b => M.ret (.bl (!b))
  | _ => M.stop
theorem qe_one {op} (h : QE X EE a ma) : QE X EE (.BoolOp op [a] pos) ma := pe_one h
theorem qe_and (ha : QE X EE a ma) (hb : QE X EE (.BoolOp .And (b :: rest) pos) mb) : QE X EE (.BoolOp .And (a :: b :: rest) pos) (eAnd ma mb) := PE.mono (pe_and ha hb) fun σ H Q h => by
  obtain ⟨τ, ρ, G, ab, ok⟩ := bindEE (k := fun τ d => match d with | .bl true => mb τ | .bl false => M.ret (.bl false) | _ => M.stop) h
  refine ⟨τ, ρ, G, ab, ?_⟩
  cases e : ma τ G with
  | stuck => rw [e] at ok; exact ok
  | exn c G' => rw [e] at ok; exact ok
  | ok k G' =>
    rw [e] at ok
    intro v H' ρ' f' ab' r'
    obtain ⟨τ2, ρ2, G2, d2, ab2, r2, ok2⟩ := ok v H' ρ' f' ab' r'
    cases d2 <;> try exact ok2.elim
    rename_i k
    unfold Rep at r2
    refine ⟨k, r2, ?_⟩
    cases k with
    | true => exact ⟨τ2, ρ2, G2, ab2, ok2⟩
    | false => exact ok2 _ H' ρ2 .refl ab2 (by unfold Rep; rfl)
theorem qe_or (ha : QE X EE a ma) (hb : QE X EE (.BoolOp .Or (b :: rest) pos) mb) : QE X EE (.BoolOp .Or (a :: b :: rest) pos) (eOr ma mb) := PE.mono (pe_or ha hb) fun σ H Q h => by
  obtain ⟨τ, ρ, G, ab, ok⟩ := bindEE (k := fun τ d => match d with | .bl false => mb τ | .bl true => M.ret (.bl true) | _ => M.stop) h
  refine ⟨τ, ρ, G, ab, ?_⟩
  cases e : ma τ G with
  | stuck => rw [e] at ok; exact ok
  | exn c G' => rw [e] at ok; exact ok
  | ok k G' =>
    rw [e] at ok
    intro v H' ρ' f' ab' r'
    obtain ⟨τ2, ρ2, G2, d2, ab2, r2, ok2⟩ := ok v H' ρ' f' ab' r'
    cases d2 <;> try exact ok2.elim
    rename_i k
    unfold Rep at r2
    refine ⟨k, r2, ?_⟩
    cases k with
    | false => exact ⟨τ2, ρ2, G2, ab2, ok2⟩
    | true => exact ok2 _ H' ρ2 .refl ab2 (by unfold Rep; rfl)
theorem qe_not (ha : QE X EE a ma) : QE X EE (.UnaryOp .Not a pos) (eNot ma) := PE.mono (pe_not ha) fun σ H Q h => by
  obtain ⟨τ, ρ, G, ab, ok⟩ := bindEE (k := fun τ d => match d with | .bl b => M.ret (.bl (!b)) | _ => M.stop) h
  refine ⟨τ, ρ, G, ab, ?_⟩
  cases e : ma τ G with
  | stuck => rw [e] at ok; exact ok
  | exn c G' => rw [e] at ok; exact ok
  | ok k G' =>
    rw [e] at ok
    intro v H' ρ' f' ab' r'
    obtain ⟨τ2, ρ2, G2, d2, ab2, r2, ok2⟩ := ok v H' ρ' f' ab' r'
    cases d2 <;> try exact ok2.elim
    rename_i k
    unfold Rep at r2
    exact ⟨k, r2, ok2 _ H' ρ2 .refl ab2 (by unfold Rep; rfl)⟩
def eNeg (ma : DS → M D) : DS → M D := fun τ => (ma τ).bind fun d => match d with
  | .int i => M.ret (.int (-i))
  | _ => M.stop
theorem qe_neg (ha : QE X EE a ma) : QE X EE (.UnaryOp .USub a pos) (eNeg ma) := PE.mono (pe_un un_neg ha) fun σ H Q h => by
  obtain ⟨τ, ρ, G, ab, ok⟩ := bindEE (k := fun τ d => match d with | .int i => M.ret (.int (-i)) | _ => M.stop) h
  refine ⟨τ, ρ, G, ab, ?_⟩
  cases e : ma τ G with
  | stuck => rw [e] at ok; exact ok
  | exn c G' => rw [e] at ok; exact ok
  | ok k G' =>
    rw [e] at ok
    intro v H' ρ' f' ab' r'
    obtain ⟨τ2, ρ2, G2, d2, ab2, r2, ok2⟩ := ok v H' ρ' f' ab' r'
    cases d2 <;> try exact ok2.elim
    rename_i k
    unfold Rep at r2
    exact ⟨k, r2, ok2 _ H' ρ2 .refl ab2 (by unfold Rep; rfl)⟩
/-- a op1 b op2 c as a value -/
def eChain (f g : D → D → M D) (ma mb mc : DS → M D) : DS → M D := fun τ => (ma τ).bind fun x => (mb τ).bind fun y => (f x y).bind fun z => match z with
  | .bl true => (mc τ).bind fun w => g y w
  | .bl false => M.ret (.bl false)
  | _ => M.stop
end
end L3

end

section
set_option Elab.async false
set_option linter.all false
set_option maxRecDepth 100000
namespace L3
open PySem PySem.Spec L2
section
variable {X : Cx} {EE : EXK} {a b c : Expr} {ma mb mc : DS → M D} {pos : Pos} {ta tb tc : DS → M Bool} {ms mt : MS}

theorem qe_chain {op op' : CmpOp} {f g : D → D → M D} (ho : OpR X (compareOp op) (rD X EE f)) (ho' : OpR X (compareOp op') (rD X EE g)) (ha : QE X EE a ma) (hb : QE X EE b mb) (hc : QE X EE c mc)
    (hm : lastMarks [op, op'] [b, c] = false := by with_unfolding_all rfl) : QE X EE (.Compare a [op, op'] [b, c] pos) (eChain f g ma mb mc) :=
  PE.mono (pe_chain ho ho' ha hb hc hm) fun σ H Q ⟨τ, ρ, G, ab, ok⟩ => by
    refine ⟨τ, ρ, G, ab, ?_⟩
    dsimp only [eChain, M.bind] at ok
    cases e1 : ma τ G with
    | stuck => rw [e1] at ok; exact ok
    | exn c G' => rw [e1] at ok; exact ok
    | ok x G1 =>
      rw [e1] at ok
      dsimp only at ok
      intro v H1 ρ1 f1 ab1 r1
      refine ⟨τ, ρ1, G1, ab1, ?_⟩
      cases e2 : mb τ G1 with
      | stuck => rw [e2] at ok; exact ok
      | exn c G' => rw [e2] at ok; exact fun H' ρ' f' => ok H' ρ' (f1.trans f')
      | ok y G2 =>
        rw [e2] at ok
        dsimp only at ok
        intro w H2 ρ2 f2 ab2 r2
        refine ⟨σ, τ, ρ2, G2, x, y, ab2, r1.mono f2, r2, ?_⟩
        cases e3 : f x y G2 with
        | stuck => rw [e3] at ok; exact ok
        | exn c G' => rw [e3] at ok; exact fun H' ρ' f' => ok H' ρ' ((f1.trans f2).trans f')
        | ok z G3 =>
          rw [e3] at ok
          dsimp only at ok
          intro vz H3 ρ3 f3 ab3 r3
          cases z <;> try exact ok.elim
          rename_i k
          unfold Rep at r3
          refine ⟨k, r3, ?_⟩
          cases k with
          | false => exact ok _ H3 ρ3 ((f1.trans f2).trans f3) ab3 (by unfold Rep; rfl)
          | true =>
            dsimp only [M.bind] at ok
            refine ⟨τ, ρ3, G3, ab3, ?_⟩
            cases e4 : mc τ G3 with
            | stuck => rw [e4] at ok; exact ok
            | exn c G' => rw [e4] at ok; exact fun H' ρ' f' => ok H' ρ' (((f1.trans f2).trans f3).trans f')
            | ok t G4 =>
              rw [e4] at ok
              dsimp only at ok
              intro vt H4 ρ4 f4 ab4 r4
              exact ⟨σ, τ, ρ4, G4, y, t, ab4, r2.mono (f3.trans f4), r4, ok.fut (((f1.trans f2).trans f3).trans f4)⟩
theorem qt_val {e : Expr} {m : DS → M D} (h : QE X EE e m) (he : ∀ whole, isTrue e X.env whole = (do let v ← whole; standAt e.pos; holding [v] (truthy v)) := by intro _; rfl) : QT X EE e (tBl m) := PT.mono (pt_val h he) fun _ _ _ h => bl_lift h
theorem qt_chain {op op' : CmpOp} {f g : D → D → M D} (ho : OpR X (compareOp op) (rD X EE f)) (ho' : OpR X (compareOp op') (rD X EE g)) (ha : QE X EE a ma) (hb : QE X EE b mb) (hc : QE X EE c mc)
    (hm : lastMarks [op, op'] [b, c] = false := by with_unfolding_all rfl) : QT X EE (.Compare a [op, op'] [b, c] pos) (tBl (eChain f g ma mb mc)) :=
  PT.mono (pt_chain ho ho' ha hb hc hm) fun σ H Q h => by
    obtain ⟨τ, ρ, G, ab, ok⟩ := bl_lift h
    refine ⟨τ, ρ, G, ab, ?_⟩
    dsimp only [eChain, M.bind] at ok
    cases e1 : ma τ G with
    | stuck => rw [e1] at ok; exact ok
    | exn c G' => rw [e1] at ok; exact ok
    | ok x G1 =>
      rw [e1] at ok
      dsimp only at ok
      intro v H1 ρ1 f1 ab1 r1
      refine ⟨τ, ρ1, G1, ab1, ?_⟩
      cases e2 : mb τ G1 with
      | stuck => rw [e2] at ok; exact ok
      | exn c G' => rw [e2] at ok; exact fun H' ρ' f' => ok H' ρ' (f1.trans f')
      | ok y G2 =>
        rw [e2] at ok
        dsimp only at ok
        intro w H2 ρ2 f2 ab2 r2
        refine ⟨σ, τ, ρ2, G2, x, y, ab2, r1.mono f2, r2, ?_⟩
        cases e3 : f x y G2 with
        | stuck => rw [e3] at ok; exact ok
        | exn c G' => rw [e3] at ok; exact fun H' ρ' f' => ok H' ρ' ((f1.trans f2).trans f')
        | ok z G3 =>
          rw [e3] at ok
          dsimp only at ok
          intro vz H3 ρ3 f3 ab3 r3
          cases z <;> try exact ok.elim
          rename_i k
          unfold Rep at r3
          refine ⟨k, r3, ?_⟩
          cases k with
          | false => exact ok _ H3 ρ3 ((f1.trans f2).trans f3) ab3 (by unfold Rep; rfl)
          | true =>
            dsimp only [M.bind] at ok
            refine ⟨τ, ρ3, G3, ab3, ?_⟩
            cases e4 : mc τ G3 with
            | stuck => rw [e4] at ok; exact ok
            | exn c G' => rw [e4] at ok; exact fun H' ρ' f' => ok H' ρ' (((f1.trans f2).trans f3).trans f')
            | ok t G4 =>
              rw [e4] at ok
              dsimp only at ok
              intro vt H4 ρ4 f4 ab4 r4
              exact ⟨σ, τ, ρ4, G4, y, t, ab4, r2.mono (f3.trans f4), r4, ok.fut (((f1.trans f2).trans f3).trans f4)⟩

/-! ### statements -/
def sSkip : MS := fun τ G => .nx τ G
def sSeq (m k : MS) : MS := fun τ G => match m τ G with
  | .nx τ' G' => k τ' G'
  | r => r
theorem qss_nil : QSs X EE [] sSkip := PSs.mono pss_nil fun D σ H ⟨τ, ρ, G, ab, ok⟩ => ok σ H ρ .refl ab
theorem OkS.imp {K : PySem.W.Frag} {mg : Str → Option Value} {H : Hp} {ρ : List Addr} {Dd Ee : Ends} {r : Res} (h : OkS K mg EE H ρ Dd r)
    (hn : ∀ τ G, r = .nx τ G → ∀ σ' H' ρ', Fut K H H' ρ ρ' → Ab K mg σ' H' τ ρ' G → Dd.nx σ' H' → Ee.nx σ' H') (hr : Ee.rt = Dd.rt) (hb : Ee.bk = Dd.bk) (hc : Ee.ct = Dd.ct) : OkS K mg EE H ρ Ee r := by
  cases r with
  | stuck => exact h
  | nx τ G => exact fun σ' H' ρ' f ab => hn τ G rfl σ' H' ρ' f ab (h σ' H' ρ' f ab)
  | rt d G => unfold OkS at h ⊢; rw [hr]; exact h
  | bk τ G => unfold OkS at h ⊢; rw [hb]; exact h
  | ct τ G => unfold OkS at h ⊢; rw [hc]; exact h
  | xn c τ G => exact h
theorem seq_lift {Dd : Ends} {σ : L2.St} {H : Hp} (h : liftS X.K X.mg EE (sSeq ms mt) Dd σ H) : tSeq (liftS X.K X.mg EE ms) (liftS X.K X.mg EE mt) Dd σ H := by
  obtain ⟨τ, ρ, G, ab, ok⟩ := h
  refine ⟨τ, ρ, G, ab, ?_⟩
  dsimp only [sSeq] at ok
  cases e : ms τ G with
  | nx τ' G' => rw [e] at ok; exact fun σ' H' ρ' f ab' => ⟨τ', ρ', G', ab', ok.fut f⟩
  | stuck => rw [e] at ok; exact ok
  | rt d G => rw [e] at ok; exact ok
  | bk τ G => rw [e] at ok; exact ok
  | ct τ G => rw [e] at ok; exact ok
  | xn c τ G => rw [e] at ok; exact ok
theorem qss_cons {st : Stmt} {rest : List Stmt} (h1 : QS X EE st ms) (h2 : QSs X EE rest mt) : QSs X EE (st :: rest) (sSeq ms mt) := PSs.mono (pss_cons h1 h2) fun _ _ _ h => seq_lift h
theorem qss_one {st : Stmt} (h1 : QS X EE st ms) : QSs X EE [st] ms := pss_one h1
def sBreak : MS := fun τ G => .bk τ G
def sCont : MS := fun τ G => .ct τ G
theorem qs_pass {pos} : QS X EE (.Pass pos) sSkip := PS.mono ps_pass fun D σ H ⟨τ, ρ, G, ab, ok⟩ => ok σ H ρ .refl ab
theorem qs_break {pos} : QS X EE (.Break pos) sBreak := PS.mono ps_break fun D σ H ⟨τ, ρ, G, ab, ok⟩ => ok σ H ρ .refl ab
theorem qs_continue {pos} : QS X EE (.Continue pos) sCont := PS.mono ps_continue fun D σ H ⟨τ, ρ, G, ab, ok⟩ => ok σ H ρ .refl ab
def sExpr (m : DS → M D) : MS := fun τ => sBind (m τ) (fun _ G => .nx τ G) fun c G => .xn c τ G
def sRet (m : DS → M D) : MS := fun τ => sBind (m τ) (fun d G => .rt d G) fun c G => .xn c τ G
def sRetN : MS := fun _ G => .rt .non G
def sSet (i : Nat) (m : DS → M D) : MS := fun τ => sBind (m τ) (fun d G => .nx (τ.set i (some d)) G) fun c G => .xn c τ G
def sIf (t : DS → M Bool) (ma mb : MS) : MS := fun τ => sBind (t τ) (fun c G => if c then ma τ G else mb τ G) fun c G => .xn c τ G
theorem qs_expr (he : QE X EE a ma) (hs : swapsWith a none pos.line X.env = pure false := by rfl) : QS X EE (.Expr a pos) (sExpr ma) := PS.mono (ps_expr he hs) fun D σ H h => by
  obtain ⟨τ, ρ, G, ab, ok⟩ := bindES (k := fun τ d G => .nx τ G) h
  refine ⟨τ, ρ, G, ab, ?_⟩
  cases e : ma τ G with
  | stuck => rw [e] at ok; exact ok
  | exn c G' => rw [e] at ok; exact ok
  | ok d G' =>
    rw [e] at ok
    intro v H' ρ' f' ab' r'
    obtain ⟨τ2, ρ2, G2, d2, ab2, r2, ok2⟩ := ok v H' ρ' f' ab' r'
    exact ok2 σ H' ρ2 .refl ab2
theorem qs_ret (he : QE X EE a ma) : QS X EE (.Return (some a) pos) (sRet ma) := PS.mono (ps_ret he) fun D σ H h => by
  obtain ⟨τ, ρ, G, ab, ok⟩ := bindES (k := fun τ d G => .rt d G) h
  refine ⟨τ, ρ, G, ab, ?_⟩
  cases e : ma τ G with
  | stuck => rw [e] at ok; exact ok
  | exn c G' => rw [e] at ok; exact ok
  | ok d G' =>
    rw [e] at ok
    intro v H' ρ' f' ab' r'
    obtain ⟨τ2, ρ2, G2, d2, ab2, r2, ok2⟩ := ok v H' ρ' f' ab' r'
    exact ok2 v H' ρ2 .refl ab2.hp r2
theorem qs_retN : QS X EE (.Return none pos) sRetN := PS.mono ps_retN fun D σ H ⟨τ, ρ, G, ab, ok⟩ => ok .non H ρ .refl ab.hp (by unfold Rep; rfl)
theorem Ab.set {K : PySem.W.Frag} {mg : Str → Option Value} {σ : L2.St} {H : Hp} {τ : DS} {ρ : List Addr} {G : DH} {i : Nat} {d : D} {v : V} (ab : Ab K mg σ H τ ρ G) (r : Rep K mg ρ H d v) : Ab K mg (σ.set i (some v)) H (τ.set i (some d)) ρ G := ⟨ab.st.set r, ab.hp⟩
theorem qs_set {i : Nat} {x : Str} {pos' : Pos} (hN : X.N.Nodup) (he : QE X EE a ma) (hi : X.N[i]? = some x := by rfl) (hx : Loc X.env.scope x := by first | exact Or.inl rfl | exact Or.inr rfl)
    (hs : swapsWith a (some (.Name x pos')) pos.line X.env = pure false := by rfl) (hf : X.fn x = true ∨ X.env.scope.names.lookup x = some .local := by first | exact .inl rfl | exact .inr rfl | assumption) :
    QS X EE (.Assign [.Name x pos'] a pos) (sSet i ma) := PS.mono (ps_set hN hi hx he hs hf) fun D σ H h => by
  obtain ⟨τ, ρ, G, ab, ok⟩ := bindES (k := fun τ d G => .nx (τ.set i (some d)) G) h
  refine ⟨τ, ρ, G, ab, ?_⟩
  cases e : ma τ G with
  | stuck => rw [e] at ok; exact ok
  | exn c G' => rw [e] at ok; exact ok
  | ok d G' =>
    rw [e] at ok
    intro v H' ρ' f' ab' r'
    obtain ⟨τ2, ρ2, G2, d2, ab2, r2, ok2⟩ := ok v H' ρ' f' ab' r'
    exact ok2 _ H' ρ2 .refl (ab2.set r2)
theorem qs_if {body els : List Stmt} (hc : QT X EE c tc) (ha : QSs X EE body ms) (hb : QSs X EE els mt) : QS X EE (.If c body els pos) (sIf tc ms mt) := PS.mono (ps_if hc ha hb) fun D σ H h => by
  obtain ⟨τ, ρ, G, ab, ok⟩ := bindTS (k := fun τ c G => if c then ms τ G else mt τ G) h
  refine ⟨τ, ρ, G, ab, ?_⟩
  cases e : tc τ G with
  | stuck => rw [e] at ok; exact ok
  | exn c G' => rw [e] at ok; exact ok
  | ok k G' =>
    rw [e] at ok
    intro H' ρ' f' ab'
    obtain ⟨τ2, ρ2, G2, ab2, ok2⟩ := ok H' ρ' f' ab'
    cases k with
    | true => exact ⟨τ2, ρ2, G2, ab2, ok2⟩
    | false => exact ⟨τ2, ρ2, G2, ab2, ok2⟩

/-! ### targets -/
abbrev TgD := D → DS → Option DS
def liftG (K : PySem.W.Frag) (mg : Str → Option Value) (g : TgD) : TG := fun v σ H Q => ∃ τ ρ G d τ', Ab K mg σ H τ ρ G ∧ Rep K mg ρ H d v ∧ g d τ = some τ' ∧ ∀ σ', Ab K mg σ' H τ' ρ G → Q σ' H
def QG (X : Cx) (e : Expr) (g : TgD) : Prop := PG X e (liftG X.K X.mg g)
def gN (i : Nat) : TgD := fun d τ => some (τ.set i (some d))
theorem qg_name {i : Nat} {x : Str} (hN : X.N.Nodup) (hi : X.N[i]? = some x := by rfl) (hx : Loc X.env.scope x := by first | exact Or.inl rfl | exact Or.inr rfl) (hf : X.fn x = true ∨ X.env.scope.names.lookup x = some .local := by first | exact .inl rfl | exact .inr rfl | assumption) :
    QG X (.Name x pos) (gN i) := fun pins s σ H v u Q I r ⟨τ, ρ, G, d, τ', ab, rd, e, q⟩ => pg_name hN hi hx hf pins s σ H v u Q I r (by
  cases e
  exact q _ (ab.set rd))

/-! ### for -/
def forP (g : TgD) (body : MS) : List D → MS
  | [], τ, G => .nx τ G
  | d :: r, τ, G => match g d τ with
    | none => .stuck
    | some τ1 => match body τ1 G with
      | .nx τ' G' => forP g body r τ' G'
      | .ct τ' G' => forP g body r τ' G'
      | .bk τ' G' => .nx τ' G'
      | x => x
/-- over the list of number n, as it stands at each turn; fuel, the turn -/
def forO (g : TgD) (body : MS) (n : Nat) : Nat → Nat → MS
  | 0, _, _, _ => .stuck
  | f + 1, k, τ, G => match G[n]? with
    | some (.lst xs) => match xs[k]? with
      | none => .nx τ G
      | some d => match g d τ with
        | none => .stuck
        | some τ1 => match body τ1 G with
          | .nx τ' G' => forO g body n f (k + 1) τ' G'
          | .ct τ' G' => forO g body n f (k + 1) τ' G'
          | .bk τ' G' => .nx τ' G'
          | x => x
    | _ => .stuck
end
end L3

end

section
set_option Elab.async false
set_option linter.all false
set_option maxRecDepth 100000
namespace L3
open PySem PySem.Spec L2
/-! ### a text's signs -/
def Its (z : Str) : It := ⟨fun i _ => i < z.cps.size, fun i H x H' => H' = H ∧ ∃ c, z.cps[i]? = some c ∧ x = .str ⟨#[c]⟩, fun i _ => z.cps.size ≤ i⟩
theorem turn_str {P : Program} {w : World} {K : PySem.W.Frag} {tg : Expr} (z : Str) (t : Tok) (it : Addr) : Turn P w K tg (Its z) [it] it (fun i h => h.IsStrIter it (strIterType z) z t i) where
  mem := by simp
  obj := fun i h st b hb => by
    have e : b = it := by simpa using hb
    subst e
    obtain ⟨o, e, c, d⟩ := st
    exact ⟨o, e, fun v z => by rw [d] at z; cases z⟩
  keep := fun i h h' st k => by
    obtain ⟨o, e, r⟩ := st
    exact ⟨o, k it (by simp) o e, r⟩
  item := by
    intro X hP hw hK hc i pins s σ H E I hf st hg
    subst hP hw hK
    obtain ⟨f0, f1, f2, f3, f4, f5⟩ := hf it (by simp)
    have hx : z.cps[i]? = some z.cps[i] := Array.getElem?_eq_getElem hg
    have fin : ∀ h', h'.IsStrIter it (strIterType z) z t (i + 1) → Heap.SameBut it s.heap h' → ∃ u, some (Value.str ⟨#[z.cps[i]]⟩ s.toks) = some u ∧
      wpAny (model X.prog X.w) X.A (letOwnedTupleGo tg (.ref it) u) (fun _ s2 => ∃ x H', Inv X pins σ H' s2 ∧ RelV x u ∧ (Its z).yld i H x H' ∧ s2.heap.IsStrIter it (strIterType z) z t (i + 1) ∧ ∀ b ∈ [it], H' b = none) E { s with heap := h', toks := s.toks + 1 } := fun h' st' sb => by
      have I1 : Inv X pins σ H { s with heap := h', toks := s.toks + 1 } := I.turned (t' := s.toks + 1) (fun b o hb e => (sb.2 b hb).trans e) f0 f1 f3 f4 f5
      obtain ⟨o, e, c, d⟩ := id st'
      refine ⟨_, rfl, go_of (s := { s with heap := h', toks := s.toks + 1 }) e c d ?_ ⟨.str ⟨#[z.cps[i]]⟩, H, I1, ⟨_, rfl⟩, ⟨rfl, _, hx, rfl⟩, st', fun b hb => (hf b hb).1⟩⟩
      unfold strIterType
      split <;> decide
    cases ha : z.cps.all (· < 128) with
    | true =>
      have e : strIterType z = "str_ascii_iterator" := by unfold strIterType; rw [ha]; rfl
      rw [e] at st fin
      exact wpAny_pyNext_ascii_item st hx fun h' st' sb => by rw [e]; exact fin h' st' sb
    | false =>
      have e : strIterType z = "str_iterator" := by unfold strIterType; rw [ha]; rfl
      rw [e] at st fin
      exact wpAny_pyNext_wide_item st hx fun h' st' sb => by rw [e]; exact fin h' st' sb
  done := by
    intro X hP hw hK hc i pins s σ H E I hf st hg
    subst hP hw hK
    obtain ⟨f0, f1, f2, f3, f4, f5⟩ := hf it (by simp)
    have hx : z.cps[i]? = none := Array.getElem?_eq_none hg
    have fin : ∀ h', Heap.ExtBut it s.heap h' → (none : Option Value) = none ∧ Inv X pins σ H { s with heap := h' } := fun h' eb => ⟨rfl, I.turned (t' := s.toks) (fun b o hb e => eb b o hb e) f0 f1 f3 f4 f5⟩
    cases ha : z.cps.all (· < 128) with
    | true =>
      have e : strIterType z = "str_ascii_iterator" := by unfold strIterType; rw [ha]; rfl
      rw [e] at st
      exact wpAny_pyNext_ascii_end (I.ok.hd hc) st hx fin
    | false =>
      have e : strIterType z = "str_iterator" := by unfold strIterType; rw [ha]; rfl
      rw [e] at st
      exact wpAny_pyNext_wide_end (I.ok.hd hc) st hx fin
  self := fun A i s Q E st h => by
    cases ha : z.cps.all (· < 128) with
    | true =>
      have e : strIterType z = "str_ascii_iterator" := by unfold strIterType; rw [ha]; rfl
      rw [e] at st
      exact wpAny_pyIter_striter_ascii st h
    | false =>
      have e : strIterType z = "str_iterator" := by unfold strIterType; rw [ha]; rfl
      rw [e] at st
      exact wpAny_pyIter_striter_wide st h
section
variable {X : Cx} {EE : EXK} {a b c tg : Expr} {ma mb mc : DS → M D} {pos : Pos} {ms mt : MS}
def iStr (tl : TE) : TI := fun σ H R => tl σ H fun x H1 => ∃ z, x = .str z ∧ R (Its z) H1
theorem pi_str {l : Expr} {tl : TE} (hl : PE X l tl) : PI X tg l (iStr tl) := by
  intro pins s σ H R I h
  refine thn (hl pins s σ H _ I h) fun u s1 ⟨x, H1, I1, r1, z, e, q⟩ => ?_
  subst e
  obtain ⟨t, rfl⟩ := r1
  refine wpAny_pyIter_strU ?_
  have I2 : Inv X pins σ H1 { s1 with heap := s1.heap.push { cls := .type (strIterType z), data := .fields #[.str z t, .int 0 0] } } := I1.kept (t' := s1.toks) fun b o e => Heap.get?_push_of_some _ e
  refine ⟨s1.heap.objs.size, [s1.heap.objs.size], _, Its z, H1, rfl, I2, turn_str z t _, ⟨_, Heap.get?_push_size _ rfl, rfl, rfl⟩, fun b hb => ?_, q⟩
  have e : b = s1.heap.objs.size := by simpa using hb
  subst e
  exact I1.fpOk (Nat.le_refl _) (I1.hok.fresh (Nat.le_refl _))
/-! ### for over a value -/
/-- what is walked: a list (its number), or items that stay -/
def sForIn (g : TgD) (m : DS → M D) (body : MS) : MS := fun τ => sBind (m τ) (fun d G => match d with
  | .obj n => match G[n]? with
    | some (.lst xs) => forO g body n (xs.length + 1) 0 τ G
    | _ => .stuck
  | .tup xs => forP g body xs τ G
  | .con xs => forP g body xs τ G
  | .str z => forP g body (z.cps.toList.map fun c => .str ⟨#[c]⟩) τ G
  | _ => .stuck) fun c G => .xn c τ G
/-- the items ds as they come, by the iterator J -/
theorem for_items {g : TgD} {body : MS} {Dd : Ends} {J : It} {H0 : Hp} {σ0 : L2.St} {ρ0 : List Addr} {G0 : DH} {τ0 : DS} (ds : List D)
    (go : ∀ i H ρ, i < ds.length → Fut X.K H0 H ρ0 ρ → J.go i H) (stop : ∀ i H ρ, ds.length ≤ i → Fut X.K H0 H ρ0 ρ → J.stop i H)
    (yld : ∀ i d H ρ x H', ds[i]? = some d → Fut X.K H0 H ρ0 ρ → J.yld i H x H' → H' = H ∧ Rep X.K X.mg ρ H d x)
    (ab : Ab X.K X.mg σ0 H0 τ0 ρ0 G0) (ok : OkS X.K X.mg EE H0 ρ0 Dd (forP g body ds τ0 G0)) :
    ∃ W : Nat → Nat → L2.St → Hp → Prop, (∃ m, W 0 m σ0 H0) ∧ ∀ i m σ H, W i m σ H →
      (J.stop i H ∧ Dd.nx σ H) ∨ (J.go i H ∧ ∃ N : L2.St → Hp → Prop, (∀ σ' H', N σ' H' → ∃ m', m' < m ∧ W (i + 1) m' σ' H') ∧ ∀ x H', J.yld i H x H' → liftG X.K X.mg g x σ H' fun σ2 H2 => liftS X.K X.mg EE body { Dd with nx := N, ct := N, bk := Dd.nx } σ2 H2) := by
  refine ⟨fun i m σ H => i ≤ ds.length ∧ m = ds.length - i ∧ ∃ τ ρ G, Ab X.K X.mg σ H τ ρ G ∧ Fut X.K H0 H ρ0 ρ ∧ OkS X.K X.mg EE H ρ Dd (forP g body (ds.drop i) τ G), ⟨ds.length, Nat.zero_le _, rfl, τ0, ρ0, G0, ab, .refl, by simpa using ok⟩, ?_⟩
  rintro i m σ H ⟨hi, rfl, τ, ρ, G, ab, f, ok⟩
  by_cases hlt : i < ds.length
  · refine .inr ⟨go i H ρ hlt f, fun σ' H' => ∃ τ' ρ' G', Ab X.K X.mg σ' H' τ' ρ' G' ∧ Fut X.K H0 H' ρ0 ρ' ∧ OkS X.K X.mg EE H' ρ' Dd (forP g body (ds.drop (i + 1)) τ' G'), fun σ' H' n => ⟨ds.length - (i + 1), by omega, hlt, rfl, n⟩, fun x H' y => ?_⟩
    obtain ⟨rfl, rx⟩ := yld i ds[i] H ρ x H' (List.getElem?_eq_getElem hlt) f y
    rw [List.drop_eq_getElem_cons hlt] at ok
    unfold forP at ok
    cases e : g ds[i] τ with
    | none => rw [e] at ok; exact ok.elim
    | some τ1 =>
      rw [e] at ok
      dsimp only at ok
      refine ⟨τ, ρ, G, ds[i], τ1, ab, rx, e, fun σ' ab' => ⟨τ1, ρ, G, ab', ?_⟩⟩
      cases eb : body τ1 G with
      | stuck => rw [eb] at ok; exact ok
      | nx τ2 G2 => rw [eb] at ok; exact fun σ2 H2 ρ2 f2 ab2 => ⟨τ2, ρ2, G2, ab2, f.trans f2, ok.fut f2⟩
      | ct τ2 G2 => rw [eb] at ok; exact fun σ2 H2 ρ2 f2 ab2 => ⟨τ2, ρ2, G2, ab2, f.trans f2, ok.fut f2⟩
      | bk τ2 G2 => rw [eb] at ok; exact ok
      | rt d G2 => rw [eb] at ok; exact ok
      | xn c τ2 G2 => rw [eb] at ok; exact ok
  · have e : i = ds.length := by omega
    subst e
    refine .inl ⟨stop _ H ρ (Nat.le_refl _) f, ?_⟩
    rw [List.drop_eq_nil_of_le (Nat.le_refl _)] at ok
    exact ok σ H ρ .refl ab
/-- the list of number n as it stands -/
theorem for_obj {g : TgD} {body : MS} {Dd : Ends} {H0 : Hp} {σ0 : L2.St} {ρ0 : List Addr} {G0 : DH} {τ0 : DS} {n : Nat} {p : Addr} {fuel : Nat} (hn : ρ0[n]? = some p)
    (ab : Ab X.K X.mg σ0 H0 τ0 ρ0 G0) (ok : OkS X.K X.mg EE H0 ρ0 Dd (forO g body n fuel 0 τ0 G0)) :
    ∃ W : Nat → Nat → L2.St → Hp → Prop, (∃ m, W 0 m σ0 H0) ∧ ∀ i m σ H, W i m σ H →
      ((Itl X.K p).stop i H ∧ Dd.nx σ H) ∨ ((Itl X.K p).go i H ∧ ∃ N : L2.St → Hp → Prop, (∀ σ' H', N σ' H' → ∃ m', m' < m ∧ W (i + 1) m' σ' H') ∧ ∀ x H', (Itl X.K p).yld i H x H' → liftG X.K X.mg g x σ H' fun σ2 H2 => liftS X.K X.mg EE body { Dd with nx := N, ct := N, bk := Dd.nx } σ2 H2) := by
  refine ⟨fun i m σ H => ∃ τ ρ G, Ab X.K X.mg σ H τ ρ G ∧ Fut X.K H0 H ρ0 ρ ∧ OkS X.K X.mg EE H ρ Dd (forO g body n m i τ G), ⟨fuel, τ0, ρ0, G0, ab, .refl, ok⟩, ?_⟩
  rintro i m σ H ⟨τ, ρ, G, ab, f, ok⟩
  cases m with
  | zero => exact ok.elim
  | succ m =>
    unfold forO at ok
    cases q : G[n]? with
    | none => rw [q] at ok; exact ok.elim
    | some o =>
      cases o with
      | lst ds =>
        rw [q] at ok
        dsimp only at ok
        obtain ⟨p', xs, e1, e2, rs⟩ := ab.hp.lst q
        rw [f.get hn] at e1; cases e1
        cases qd : ds[i]? with
        | none =>
          rw [qd] at ok
          have hl : xs.length ≤ i := by rw [← rs.length]; exact List.getElem?_eq_none_iff.mp qd
          exact .inl ⟨⟨xs, .of e2, hl⟩, ok σ H ρ .refl ab⟩
        | some d =>
          rw [qd] at ok
          dsimp only at ok
          obtain ⟨x0, ex, rx⟩ := rs.get qd
          refine .inr ⟨⟨xs, x0, .of e2, ex⟩, fun σ' H' => ∃ τ' ρ' G', Ab X.K X.mg σ' H' τ' ρ' G' ∧ Fut X.K H0 H' ρ0 ρ' ∧ OkS X.K X.mg EE H' ρ' Dd (forO g body n m (i + 1) τ' G'), fun σ' H' z => ⟨m, Nat.lt_succ_self _, z⟩, fun x H' y => ?_⟩
          obtain ⟨rfl, y⟩ := y
          have e3 := y xs (.of e2)
          rw [ex] at e3; cases e3
          cases e : g d τ with
          | none => rw [e] at ok; exact ok.elim
          | some τ1 =>
            rw [e] at ok
            dsimp only at ok
            refine ⟨τ, ρ, G, d, τ1, ab, rx, e, fun σ' ab' => ⟨τ1, ρ, G, ab', ?_⟩⟩
            cases eb : body τ1 G with
            | stuck => rw [eb] at ok; exact ok
            | nx τ2 G2 => rw [eb] at ok; exact fun σ2 H2 ρ2 f2 ab2 => ⟨τ2, ρ2, G2, ab2, f.trans f2, ok.fut f2⟩
            | ct τ2 G2 => rw [eb] at ok; exact fun σ2 H2 ρ2 f2 ab2 => ⟨τ2, ρ2, G2, ab2, f.trans f2, ok.fut f2⟩
            | bk τ2 G2 => rw [eb] at ok; exact ok
            | rt d G2 => rw [eb] at ok; exact ok
            | xn c τ2 G2 => rw [eb] at ok; exact ok
theorem PI.any {l : Expr} {tl : TE} (hl : PE X l tl) : PI X tg l (fun σ H R => tl σ H fun x H1 => (∃ p, x = .ref p ∧ (∃ xs, SqL X.K H1 p xs) ∧ R (Itl X.K p) H1) ∨ (∃ p, x = .ref p ∧ (∃ xs, SqT X.K H1 p xs) ∧ R (Itt X.K p) H1) ∨ ∃ z, x = .str z ∧ R (Its z) H1) := by
  intro pins s σ H R I h
  refine thn (hl pins s σ H _ I h) fun u s1 ⟨x, H1, I1, r1, q⟩ => ?_
  -- each by the one rule, of a value that stands already
  rcases q with ⟨p, rfl, ⟨xs, sq⟩, q⟩ | ⟨p, rfl, ⟨xs, sq⟩, q⟩ | ⟨z, rfl, q⟩
  · cases r1
    obtain ⟨its, rv, pl, hz⟩ := I1.list sq
    refine wpAny_pyIter_list pl.isList ?_
    have I2 : Inv X pins σ H1 { s1 with heap := s1.heap.push { cls := .type "list_iterator", data := .fields #[.ref p, .int 0 0] } } := I1.kept (t' := s1.toks) fun b o e => Heap.get?_push_of_some _ e
    refine ⟨s1.heap.objs.size, [s1.heap.objs.size], _, Itl X.K p, H1, rfl, I2, turn_list p _, ⟨_, Heap.get?_push_size _ rfl, rfl, rfl⟩, fun b hb => ?_, q⟩
    have e : b = s1.heap.objs.size := by simpa using hb
    subst e
    exact I1.fpOk (Nat.le_refl _) (I1.hok.fresh (Nat.le_refl _))
  · cases r1
    obtain ⟨its, rv, pl, hz⟩ := I1.tuple sq
    refine wpAny_pyIter_tuple pl ?_
    have I2 : Inv X pins σ H1 { s1 with heap := s1.heap.push { cls := .type "tuple_iterator", data := .fields #[.ref p, .int 0 0] } } := I1.kept (t' := s1.toks) fun b o e => Heap.get?_push_of_some _ e
    refine ⟨s1.heap.objs.size, [s1.heap.objs.size], _, Itt X.K p, H1, rfl, I2, turn_tuple p _, ⟨_, Heap.get?_push_size _ rfl, rfl, rfl⟩, fun b hb => ?_, q⟩
    have e : b = s1.heap.objs.size := by simpa using hb
    subst e
    exact I1.fpOk (Nat.le_refl _) (I1.hok.fresh (Nat.le_refl _))
  · obtain ⟨t, rfl⟩ := r1
    refine wpAny_pyIter_strU ?_
    have I2 : Inv X pins σ H1 { s1 with heap := s1.heap.push { cls := .type (strIterType z), data := .fields #[.str z t, .int 0 0] } } := I1.kept (t' := s1.toks) fun b o e => Heap.get?_push_of_some _ e
    refine ⟨s1.heap.objs.size, [s1.heap.objs.size], _, Its z, H1, rfl, I2, turn_str z t _, ⟨_, Heap.get?_push_size _ rfl, rfl, rfl⟩, fun b hb => ?_, q⟩
    have e : b = s1.heap.objs.size := by simpa using hb
    subst e
    exact I1.fpOk (Nat.le_refl _) (I1.hok.fresh (Nat.le_refl _))
theorem qs_for {g : TgD} {body : List Stmt} (hp : PassesOwn (model X.prog X.w) X.A X.env X.xe) (hc : X.calm = true) (ha : QE X EE a ma) (hg : QG X tg g) (hb : QSs X EE body ms) (hs : ∀ x, foldedSetIterable a X.env x = pure x := by intro _; rfl) :
    QS X EE (.For tg a body [] pos) (sForIn g ma ms) := PS.mono (ps_for hp hc (PI.any ha) hg hb hs) fun Dd σ H h => by
  obtain ⟨τ, ρ, G, ab, ok⟩ := bindES (k := fun τ d G => match d with
    | .obj n => match G[n]? with
      | some (.lst xs) => forO g ms n (xs.length + 1) 0 τ G
      | _ => .stuck
    | .tup xs => forP g ms xs τ G
    | .con xs => forP g ms xs τ G
    | .str z => forP g ms (z.cps.toList.map fun c => .str ⟨#[c]⟩) τ G
    | _ => .stuck) h
  refine ⟨τ, ρ, G, ab, ?_⟩
  cases e : ma τ G with
  | stuck => rw [e] at ok; exact ok
  | exn c G' => rw [e] at ok; exact ok
  | ok d G' =>
    rw [e] at ok
    intro v H1 ρ1 f1 ab1 r1
    obtain ⟨τ2, ρ2, G2, d2, ab2, r2, ok2⟩ := ok v H1 ρ1 f1 ab1 r1
    cases d2 <;> try exact ok2.elim
    case obj n =>
      dsimp only at ok2
      unfold Rep at r2
      obtain ⟨p, rfl, e1⟩ := r2
      cases q : G2[n]? with
      | none => rw [q] at ok2; exact ok2.elim
      | some o =>
        cases o with
        | lst xs =>
          rw [q] at ok2
          obtain ⟨p', vs, e2, h2, rs⟩ := ab2.hp.lst q
          rw [e1] at e2; cases e2
          exact .inl ⟨p, rfl, ⟨vs, .of h2⟩, for_obj e1 ab2 ok2⟩
    case tup xs =>
      unfold Rep at r2
      obtain ⟨p, vs, rfl, sq, rs⟩ := r2
      refine .inr (.inl ⟨p, rfl, ⟨vs, sq⟩, for_items xs (fun i H' ρ' hi f => ?_) (fun i H' ρ' hi f => ?_) (fun i d' H' ρ' x H'' hd f y => ?_) ab2 ok2⟩)
      · rw [rs.length] at hi
        exact ⟨vs, vs[i], f.tup _ _ sq, List.getElem?_eq_getElem hi⟩
      · exact ⟨vs, f.tup _ _ sq, by rw [← rs.length]; exact hi⟩
      · obtain ⟨rfl, y⟩ := y
        obtain ⟨w', ew, rw'⟩ := rs.get hd
        have := y vs (f.tup _ _ sq)
        rw [ew] at this; cases this
        exact ⟨rfl, rw'.mono f⟩
    case con xs =>
      unfold Rep at r2
      obtain ⟨p, vs, rfl, sq, rs⟩ := r2
      refine .inl ⟨p, rfl, ⟨vs, sq.seq⟩, for_items xs (fun i H' ρ' hi f => ?_) (fun i H' ρ' hi f => ?_) (fun i d' H' ρ' x H'' hd f y => ?_) ab2 ok2⟩
      · rw [rs.length] at hi
        exact ⟨vs, vs[i], (f.con _ _ sq).seq, List.getElem?_eq_getElem hi⟩
      · exact ⟨vs, (f.con _ _ sq).seq, by rw [← rs.length]; exact hi⟩
      · obtain ⟨rfl, y⟩ := y
        obtain ⟨w', ew, rw'⟩ := rs.get hd
        have := y vs (f.con _ _ sq).seq
        rw [ew] at this; cases this
        exact ⟨rfl, rw'.mono f⟩
    case str z =>
      unfold Rep at r2; subst r2
      refine .inr (.inr ⟨z, rfl, for_items (z.cps.toList.map fun c => .str ⟨#[c]⟩) (fun i H' ρ' hi f => ?_) (fun i H' ρ' hi f => ?_) (fun i d' H' ρ' x H'' hd f y => ?_) ab2 ok2⟩)
      · simpa [Its] using hi
      · simpa [Its] using hi
      · obtain ⟨rfl, c, hc, rfl⟩ := y
        rw [List.getElem?_map] at hd
        have : z.cps.toList[i]? = some c := by simpa using hc
        rw [this] at hd
        cases hd
        exact ⟨rfl, by unfold Rep; rfl⟩
/-! ### for over a range -/
def rng1 : List D → Option (List D)
  | [.int j] => if -(2 ^ 62) ≤ j ∧ j < 2 ^ 62 then some ((List.range j.toNat).map fun (k : Nat) => .int (0 + (k : Int))) else none
  | _ => none
def rng2 : List D → Option (List D)
  | [.int i, .int j] => if -(2 ^ 62) ≤ i ∧ i < 2 ^ 62 ∧ -(2 ^ 62) ≤ j ∧ j < 2 ^ 62 then some ((List.range (j - i).toNat).map fun (k : Nat) => .int (i + (k : Int))) else none
  | _ => none
def sForRng (rng : List D → Option (List D)) (g : TgD) (m : DS → M (List D)) (body : MS) : MS := fun τ => sBind (m τ) (fun ds G => match rng ds with
  | some xs => forP g body xs τ G
  | none => .stuck) fun c G => .xn c τ G
theorem bindAS {K : PySem.W.Frag} {mg : Str → Option Value} {σ : L2.St} {H : Hp} {m : DS → M (List D)} {k : DS → List D → DH → Res} {Dd : Ends} (h : liftS K mg EE (fun τ => sBind (m τ) (k τ) fun c G => .xn c τ G) Dd σ H) :
    liftA K mg EE m σ H fun x H1 => ∃ τ ρ G d, Ab K mg σ H1 τ ρ G ∧ Reps K mg ρ H1 d x ∧ OkS K mg EE H1 ρ Dd (k τ d G) := by
  obtain ⟨τ, ρ, G, ab, ok⟩ := h
  refine ⟨τ, ρ, G, ab, ?_⟩
  dsimp only [sBind] at ok
  cases e : m τ G with
  | stuck => rw [e] at ok; exact ok
  | exn c G' => rw [e] at ok; exact fun H' ρ' f ab' => ok σ H' ρ' f ab'
  | ok d G' => rw [e] at ok; exact fun v H' ρ' f ab' r => ⟨τ, ρ', G', d, ab', r, ok.fut f⟩
theorem rng_items {g : TgD} {body : MS} {Dd : Ends} {H0 : Hp} {σ0 : L2.St} {ρ0 : List Addr} {G0 : DH} {τ0 : DS} (lo : Int) (n : Nat) (ab : Ab X.K X.mg σ0 H0 τ0 ρ0 G0) (ok : OkS X.K X.mg EE H0 ρ0 Dd (forP g body ((List.range n).map fun (k : Nat) => .int (lo + (k : Int))) τ0 G0)) :
    ∃ W : Nat → Nat → L2.St → Hp → Prop, (∃ m, W 0 m σ0 H0) ∧ ∀ i m σ H, W i m σ H →
      ((Itr lo n).stop i H ∧ Dd.nx σ H) ∨ ((Itr lo n).go i H ∧ ∃ N : L2.St → Hp → Prop, (∀ σ' H', N σ' H' → ∃ m', m' < m ∧ W (i + 1) m' σ' H') ∧ ∀ x H', (Itr lo n).yld i H x H' → liftG X.K X.mg g x σ H' fun σ2 H2 => liftS X.K X.mg EE body { Dd with nx := N, ct := N, bk := Dd.nx } σ2 H2) :=
  for_items (J := Itr lo n) _ (fun i H ρ hi f => by simpa [Itr] using hi) (fun i H ρ hi f => by simpa [Itr] using hi) (fun i d H ρ x H' hd f y => by
    obtain ⟨rfl, rfl⟩ := y
    rw [List.getElem?_map] at hd
    cases q : (List.range n)[i]? with
    | none => rw [q] at hd; cases hd
    | some k =>
      rw [q] at hd
      obtain ⟨hk, e⟩ := List.getElem?_eq_some_iff.mp q
      rw [List.getElem_range] at e
      subst e
      cases hd
      exact ⟨rfl, by unfold Rep; rfl⟩) ab ok
theorem qs_forR1 {g : TgD} {m : DS → M (List D)} {body : List Stmt} {p pc : Pos} (hp : PassesOwn (model X.prog X.w) X.A X.env X.xe) (hc : X.calm = true) (hm : X.mg "range" = none) (ha : QA X EE [a] m) (hg : QG X tg g) (hb : QSs X EE body ms)
    (hgl : Gl X "range" := by rfl) (hst : starEach [a] X.env = [(false, eval a X.env)] := by rfl) (hs : ∀ x, foldedSetIterable (.Call (.Name "range" p) [a] [] pc) X.env x = pure x := by intro _; rfl) :
    QS X EE (.For tg (.Call (.Name "range" p) [a] [] pc) body [] pos) (sForRng rng1 g m ms) := PS.mono (ps_for hp hc (pi_range1 hgl hm ha hst) hg hb hs) fun Dd σ H h => by
  obtain ⟨τ, ρ, G, ab, ok⟩ := bindAS (k := fun τ ds G => match rng1 ds with | some xs => forP g ms xs τ G | none => .stuck) h
  refine ⟨τ, ρ, G, ab, ?_⟩
  cases e : m τ G with
  | stuck => rw [e] at ok; exact ok
  | exn c G' => rw [e] at ok; exact ok
  | ok ds G' =>
    rw [e] at ok
    intro vs H1 ρ1 f1 ab1 r1
    obtain ⟨τ2, ρ2, G2, d2, ab2, r2, ok2⟩ := ok vs H1 ρ1 f1 ab1 r1
    cases q : rng1 d2 with
    | none => rw [q] at ok2; exact ok2.elim
    | some xs =>
      rw [q] at ok2
      unfold rng1 at q
      split at q
      · rename_i j
        split at q
        · rename_i hj
          cases q
          unfold Reps at r2
          obtain ⟨v, r, rfl, h1, h2⟩ := r2
          unfold Reps at h2; subst h2
          unfold Rep at h1; subst h1
          exact ⟨j, rfl, hj.1, hj.2, rng_items 0 j.toNat ab2 ok2⟩
        · cases q
      · cases q
theorem qs_forR2 {g : TgD} {m : DS → M (List D)} {body : List Stmt} {p pc : Pos} (hp : PassesOwn (model X.prog X.w) X.A X.env X.xe) (hc : X.calm = true) (hm : X.mg "range" = none) (ha : QA X EE [a, b] m) (hg : QG X tg g) (hb : QSs X EE body ms)
    (hgl : Gl X "range" := by rfl) (hst : starEach [a, b] X.env = [(false, eval a X.env), (false, eval b X.env)] := by rfl) (hs2 : starEach [b] X.env = [(false, eval b X.env)] := by rfl) (hs : ∀ x, foldedSetIterable (.Call (.Name "range" p) [a, b] [] pc) X.env x = pure x := by intro _; rfl) :
    QS X EE (.For tg (.Call (.Name "range" p) [a, b] [] pc) body [] pos) (sForRng rng2 g m ms) := PS.mono (ps_for hp hc (pi_range2 hgl hm ha hst hs2) hg hb hs) fun Dd σ H h => by
  obtain ⟨τ, ρ, G, ab, ok⟩ := bindAS (k := fun τ ds G => match rng2 ds with | some xs => forP g ms xs τ G | none => .stuck) h
  refine ⟨τ, ρ, G, ab, ?_⟩
  cases e : m τ G with
  | stuck => rw [e] at ok; exact ok
  | exn c G' => rw [e] at ok; exact ok
  | ok ds G' =>
    rw [e] at ok
    intro vs H1 ρ1 f1 ab1 r1
    obtain ⟨τ2, ρ2, G2, d2, ab2, r2, ok2⟩ := ok vs H1 ρ1 f1 ab1 r1
    cases q : rng2 d2 with
    | none => rw [q] at ok2; exact ok2.elim
    | some xs =>
      rw [q] at ok2
      unfold rng2 at q
      split at q
      · rename_i i j
        split at q
        · rename_i hj
          cases q
          unfold Reps at r2
          obtain ⟨v, r, rfl, h1, h2⟩ := r2
          unfold Reps at h2
          obtain ⟨v', r', rfl, h3, h4⟩ := h2
          unfold Reps at h4; subst h4
          unfold Rep at h1 h3; subst h1 h3
          exact ⟨i, j, rfl, hj, rng_items i (j - i).toNat ab2 ok2⟩
        · cases q
      · cases q
end
end L3

end

section
set_option Elab.async false
set_option linter.all false
set_option maxRecDepth 100000
namespace L3
open PySem PySem.Spec L2
/-! ### defs -/
def OkC (K : PySem.W.Frag) (mg : Str → Option Value) (H : Hp) (ρ : List Addr) : Out D → VK → XK → Prop
  | .stuck, _, _ => False
  | .ok d G', Q, _ => ∀ v H' ρ', Fut K H H' ρ ρ' → HAb K mg H' ρ' G' → Rep K mg ρ' H' d v → Q v H'
  | .exn c G', _, E => ∀ cls H' ρ', (match c with | .mk n _ => mg n = some cls) → Fut K H H' ρ ρ' → HAb K mg H' ρ' G' → E cls none H'
/-- the promise of a def: n arguments, the mirror -/
def spOf (K : PySem.W.Frag) (mg : Str → Option Value) (n : Nat) (m : List D → M D) : Sp := fun vs H Q E => ∃ ds ρ G, ds.length = n ∧ HAb K mg H ρ G ∧ Reps K mg ρ H ds vs ∧ OkC K mg H ρ (m ds G) Q E
theorem spOf.len {K : PySem.W.Frag} {mg : Str → Option Value} {n : Nat} {m : List D → M D} {vs : List V} {H : Hp} {Q : VK} {E : XK} (h : spOf K mg n m vs H Q E) : vs.length = n := by
  obtain ⟨ds, ρ, G, e, _, r, _⟩ := h
  rw [← r.length, e]
/-- the wish for exceptions of a callee, at the caller's names -/
def EEs (mg : Str → Option Value) (EE : EXK) (σ : L2.St) : XK := fun cls _ H' => ∃ c, (match c with | .mk n _ => mg n = some cls) ∧ EE c σ H'
def Lnk (CX : CXT) (X : Cx) (EE : EXK) : Prop := ∀ (pins : List (Addr × Obj)) (σ : L2.St) (H : Hp) (s : Shared) (e : Value) (s' : Shared), Inv X pins σ H s → CX X.stack H s (EEs X.mg EE σ) e s' → X.xe e s'
theorem lnk0 {X : Cx} {EE : EXK} : Lnk CX0 X EE := fun _ _ _ _ _ _ _ h => h.elim
section
variable {X : Cx} {CX : CXT} {EE : EXK} {k n : Nat} {f : Addr} {fd : FuncData} {ps : List Str} {mf : List D → M D} {x : Str} {p pos : Pos} {e : Expr} {es : List Expr} {m : DS → M (List D)}
theorem HAb.ab {K : PySem.W.Frag} {mg : Str → Option Value} {σ : L2.St} {H H' : Hp} {τ : DS} {ρ ρ' : List Addr} {G G' : DH} (ab : Ab K mg σ H τ ρ G) (f : Fut K H H' ρ ρ') (h : HAb K mg H' ρ' G') : Ab K mg σ H' τ ρ' G' := ⟨ab.st.mono f, h⟩
theorem run_fnD {pins : List (Addr × Obj)} {σ : L2.St} {H : Hp} {s : Shared} {Q : VK} {us : List Value} {vs : List V} {τ : DS} {ρ : List Addr} {G : DH} {ds : List D} (F : FnOk X.prog X.w X.K X.mg X.base CX k f fd ps (spOf X.K X.mg n mf)) (hr : Room k X.A) (hb : Binds X.K fd ps [])
    (hx : Lnk CX X EE) (I : Inv X pins σ H s) (r : Vals vs us) (ab : Ab X.K X.mg σ H τ ρ G) (rs : Reps X.K X.mg ρ H ds vs) (hn : ds.length = n) (ok : OkE X.K X.mg EE H σ τ ρ (mf ds G) Q) : wpAny (model X.prog X.w) X.A (call (.ref f) us) (EP X pins σ Q) X.xe s := by
  have h : spOf X.K X.mg n mf vs H Q (EEs X.mg EE σ) := by
    refine ⟨ds, ρ, G, hn, ab.hp, rs, ?_⟩
    cases q : mf ds G with
    | stuck => rw [q] at ok; exact ok
    | ok d G' => rw [q] at ok; exact fun v H' ρ' f hp r => ok v H' ρ' f (HAb.ab ab f hp) r
    | exn c G' => rw [q] at ok; exact fun cls H' ρ' hc f hp => ⟨c, hc, ok H' ρ' f (HAb.ab ab f hp)⟩
  have hl : (us ++ []).length = ps.length := by rw [List.append_nil, ← r.length]; exact F.len _ _ _ _ h
  have hbb := hb s us I.kIn hl
  rw [List.append_nil] at hbb
  refine wpAny_call (codeAny_mono (F.run X.A X.stack s H ⟨us, []⟩ us vs Q (EEs X.mg EE σ) hr I.env0 hbb r h) fun r s' hq => ?_)
  cases r with
  | error e => exact hx pins σ H s e s' I hq
  | ok fl =>
    cases fl with
    | ret u => exact I.after hq
    | next => exact False.elim hq
    | brk => exact False.elim hq
    | cont => exact False.elim hq
/-- f(..), the arguments counted -/
def eCall (n : Nat) (mf : List D → M D) (m : DS → M (List D)) : DS → M D := eArgs (fun ds => if ds.length = n then mf ds else M.stop) m
theorem qe_call (F : FnOk X.prog X.w X.K X.mg X.base CX k f fd ps (spOf X.K X.mg n mf)) (hr : Room k X.A) (hm : X.mg x = some (.ref f)) (hk : PySem.W.keepIn X.K (.ref f) = true) (hb : Binds X.K fd ps []) (hx : Lnk CX X EE)
    (ha : QA X EE (e :: es) m) (hg : Gl X x := by rfl) (hdb : (x == ("__debug__" : Str)) = false := by decide) (he : starEach (e :: es) X.env = (false, eval e X.env) :: starEach es X.env := by rfl) (hpl : (backTo pos (starEach es X.env)).any (·.1) = false := by rfl) :
    QE X EE (.Call (.Name x p) (e :: es) [] pos) (eCall n mf m) := by
  intro pins s σ H Q I h
  obtain ⟨τ, ρ, G, ab, ok⟩ := bindAE (k := fun _ ds => if ds.length = n then mf ds else M.stop) h
  refine wpAny_Call_Name_kw (ld_glob I hg hm ?_ hdb)
  refine PySem.W.callWith_K (h₀ := X.base) I.ok.mod.kin hk (thn (ha pos pins s σ H _ I ⟨τ, ρ, G, ab, ok⟩) fun us s1 ⟨vs, H1, I1, r, q⟩ => ⟨I1.kIn, ?_⟩) he hpl
  obtain ⟨τ1, ρ1, G1, ds, ab1, rs, ok1⟩ := q
  by_cases hn : ds.length = n
  · rw [if_pos hn] at ok1
    exact run_fnD F hr hb hx I1 r ab1 rs hn ok1
  · rw [if_neg hn] at ok1
    exact ok1.elim
theorem qe_call0 (F : FnOk X.prog X.w X.K X.mg X.base CX k f fd ps (spOf X.K X.mg 0 mf)) (hr : Room k X.A) (hm : X.mg x = some (.ref f)) (hk : PySem.W.keepIn X.K (.ref f) = true) (hb : Binds X.K fd ps []) (hx : Lnk CX X EE)
    (hg : Gl X x := by rfl) (hdb : (x == ("__debug__" : Str)) = false := by decide) : QE X EE (.Call (.Name x p) [] [] pos) (eCall 0 mf aNil) := by
  intro pins s σ H Q I h
  obtain ⟨τ, ρ, G, ab, ok⟩ := h
  refine wpAny_Call_Name_kw (ld_glob I hg hm ?_ hdb)
  exact PySem.W.callWith_K0 I.kIn hk (run_fnD (us := []) (ds := []) F hr hb hx I .nil ab .nil rfl ok)
end
/-- the body's mirror as the def's -/
def runB (N : Nat) (ms : MS) (ds : List D) : M D := fun G => match ms (ds.map some ++ List.replicate (N - ds.length) none) G with
  | .stuck => .stuck
  | .nx _ G' => .ok .non G'
  | .rt d G' => .ok d G'
  | .bk _ _ => .stuck
  | .ct _ _ => .stuck
  | .xn c _ G' => .exn c G'
def noX (m : M D) : M D := fun G => match m G with
  | .exn _ _ => .stuck
  | r => r
theorem srep_start {K : PySem.W.Frag} {mg : Str → Option Value} {H : Hp} {ρ : List Addr} {ds : List D} {vs : List V} {N : List Str} (r : Reps K mg ρ H ds vs) : SRep K mg H ρ (L2.start N vs) (ds.map some ++ List.replicate (N.length - ds.length) none) := by
  have hl := r.length
  refine ⟨by unfold L2.start; simp [hl], fun i d e => ?_⟩
  have hi : i < ds.length := by
    by_cases hi : i < ds.length
    · exact hi
    · rw [List.getElem?_append_right (by simpa using hi), List.getElem?_replicate] at e
      split at e <;> cases e
  rw [List.getElem?_append_left (by simpa using hi), List.getElem?_map] at e
  cases q : ds[i]? with
  | none => rw [q] at e; cases e
  | some d' =>
    rw [q] at e; cases e
    obtain ⟨v, e1, r1⟩ := r.get q
    refine ⟨v, ?_, r1⟩
    unfold L2.start
    rw [List.getElem?_append_left (by simp; omega), List.getElem?_map, e1]
    rfl
abbrev EE0 : EXK := fun _ _ _ => False
section
variable {P : Program} {w : World} {K : PySem.W.Frag} {mg : Str → Option Value} {base : Heap} {f : Addr} {fd : FuncData}
/-- THE RULE for a def that raises nothing -/
theorem fn0 {x qual : Str} {st : Stmt} {N ps : List Str} {k : Nat} {ms : MS} (F : Fun K x qual st f fd) (S : FnScope N ps (defScope st))
    (hbody : ∀ (cdv : Value) (A : Around) (outer : List Env) (s : Shared) (H : Hp) (E : XK), Room k (A.deeper (PyProof.Rows.envOfC qual (defScope st) s.heap.objs.size f cdv)) → QSs (cxOf CX0 P w K mg base N qual (defScope st) f cdv A outer s H E).nox EE0 (defBody st) ms) :
    FnOk P w K mg base CX0 (k + 1) f fd ps (spOf K mg ps.length (fun ds => noX (runB N.length ms ds))) := by
  refine F.ok S (fun vs H Q E h => h.len) (fun cdv A outer s H vs Q E hr h => ?_)
  obtain ⟨ds, ρ, G, hn, hp, rs, ok⟩ := h
  refine ⟨_, hbody cdv A outer s H E hr, ds.map some ++ List.replicate (N.length - ds.length) none, ρ, G, ⟨srep_start rs, hp⟩, ?_⟩
  dsimp only [noX, runB] at ok
  cases q : ms (ds.map some ++ List.replicate (N.length - ds.length) none) G with
  | stuck => rw [q] at ok; exact ok
  | nx τ G' => rw [q] at ok; exact fun σ' H' ρ' f ab => ok .non H' ρ' f ab.hp (by unfold Rep; rfl)
  | rt d G' => rw [q] at ok; exact fun v H' ρ' f hp r => ok v H' ρ' f hp r
  | bk τ G' => rw [q] at ok; exact ok.elim
  | ct τ G' => rw [q] at ok; exact ok.elim
  | xn c τ G' => rw [q] at ok; exact ok.elim
end
end L3

end

section
set_option Elab.async false
set_option linter.all false
set_option maxRecDepth 100000
namespace L3
open PySem PySem.Spec L2
section
variable {X : Cx} {EE : EXK} {a b c : Expr} {ma mb mc : DS → M D} {pos : Pos}
/-! ### calls by the mirror itself -/
def rCD (X : Cx) (EE : EXK) (f : List D → M D) : List V → Hp → VK → Prop := fun xs H Q => ∃ σ τ ρ G ds, Ab X.K X.mg σ H τ ρ G ∧ Reps X.K X.mg ρ H ds xs ∧ OkE X.K X.mg EE H σ τ ρ (f ds G) Q
theorem callD_self {f : List D → M D} : CallD X EE (rCD X EE f) f := fun σ H τ ρ G xs ds Q ab r ok => ⟨σ, τ, ρ, G, ds, ab, r, ok⟩
theorem reps1 {K : PySem.W.Frag} {mg : Str → Option Value} {ρ : List Addr} {H : Hp} {d : D} {xs : List V} (r : Reps K mg ρ H [d] xs) : ∃ x, xs = [x] ∧ Rep K mg ρ H d x := by
  unfold Reps at r
  obtain ⟨v, r', rfl, h1, h2⟩ := r
  unfold Reps at h2; subst h2
  exact ⟨v, rfl, h1⟩
theorem reps2 {K : PySem.W.Frag} {mg : Str → Option Value} {ρ : List Addr} {H : Hp} {d e : D} {xs : List V} (r : Reps K mg ρ H [d, e] xs) : ∃ x y, xs = [x, y] ∧ Rep K mg ρ H d x ∧ Rep K mg ρ H e y := by
  unfold Reps at r
  obtain ⟨v, r', rfl, h1, h2⟩ := r
  obtain ⟨y, rfl, h3⟩ := reps1 h2
  exact ⟨v, y, rfl, h1, h3⟩

/-! ### len -/
def dLen : List D → M D
  | [d] => fun G => match seqOf G d with
    | some (.lst xs) => .ok (.int xs.length) G
    | some (.tup xs) => .ok (.int xs.length) G
    | some (.str z) => if z.length ≤ sizeLine then .ok (.int z.length) G else .stuck
    | none => .stuck
  | _ => M.stop
theorem call_lenD : CallR X (.builtin "len") (rCD X EE dLen) := by
  intro pins s σ0 H xs us Q I r ⟨σ, τ, ρ, G, ds, ab, rs, ok⟩
  match ds, ok with
  | [], ok => exact ok.elim
  | _ :: _ :: _, ok => exact ok.elim
  | [d], ok =>
    obtain ⟨x, rfl, rx⟩ := reps1 rs
    dsimp only [dLen] at ok
    cases q : seqOf G d with
    | none => rw [q] at ok; exact ok.elim
    | some sk =>
      rw [q] at ok
      cases sk with
      | lst zs =>
        obtain ⟨p, vs, rfl, sq, rv⟩ := seqOf_lst (pins := pins) (σ0 := σ0) (s := s) ab.hp rx q
        exact call_len_seq pins s σ0 H _ us Q I r ⟨p, vs, rfl, .inl sq, ok _ H ρ .refl ab (by unfold Rep; rw [rv.length])⟩
      | tup zs =>
        obtain ⟨p, vs, rfl, sq, rv⟩ := seqOf_tup rx q
        exact call_len_seq pins s σ0 H _ us Q I r ⟨p, vs, rfl, .inr sq, ok _ H ρ .refl ab (by unfold Rep; rw [rv.length])⟩
      | str z =>
        obtain ⟨rfl, rfl⟩ := seqOf_str rx q
        dsimp only at ok
        by_cases hz : z.length ≤ sizeLine
        · rw [if_pos hz] at ok
          exact call_len_str pins s σ0 H _ us Q I r ⟨z, rfl, hz, ok _ H ρ .refl ab (by unfold Rep; rfl)⟩
        · rw [if_neg hz] at ok; exact ok.elim
theorem qe_len {p : Pos} {e : Expr} {m : DS → M (List D)} (hm : X.mg "len" = none) (ha : QA X EE [e] m) (hg : Gl X "len" := by rfl) (he : starEach [e] X.env = (false, eval e X.env) :: starEach [] X.env := by rfl) (hpl : (backTo pos (starEach [] X.env)).any (·.1) = false := by rfl) :
    QE X EE (.Call (.Name "len" p) [e] [] pos) (eArgs dLen m) := qe_callB call_lenD callD_self hm ha hg PySem.boot_len (by decide) (by decide) he hpl

/-! ### isinstance -/
inductive Ty where
  | non | bl | int | str | tup | lst | dct
  deriving DecidableEq
def Ty.nm : Ty → String
  | .non => "NoneType" | .bl => "bool" | .int => "int" | .str => "str" | .tup => "tuple" | .lst => "list" | .dct => "dict"
def tyD (G : DH) : D → Option Ty
  | .non => some .non
  | .bl _ => some .bl
  | .int _ => some .int
  | .str _ => some .str
  | .tup _ => some .tup
  | .con _ => some .lst
  | .obj n => match G[n]? with
    | some (.lst _) => some .lst
    | _ => none
  | .fn _ => none
def Ty.is (t c : Ty) : Bool := decide (t = c) || (decide (t = .bl) && decide (c = .int))
theorem kit_ty (K : PySem.W.Frag) : ∀ (t c : Ty), c ≠ .non → PySem.W.kitOne K (.type t.nm) (.type c.nm) = some (t.is c) := by
  intro t c h
  cases t <;> cases c <;> first | exact absurd rfl h | rfl | (with_unfolding_all rfl) | decide +kernel
def dIsi (c : Ty) (d : D) : M D := fun G => match tyD G d with
  | some t => .ok (.bl (t.is c)) G
  | none => .stuck
def eIsi (c : Ty) (m : DS → M D) : DS → M D := fun τ => (m τ).bind (dIsi c)
theorem isi_run {c : Ty} (hc : c ≠ .non) {pins : List (Addr × Obj)} {s : Shared} {σ0 σ : L2.St} {H : Hp} {τ : DS} {ρ : List Addr} {G : DH} {d : D} {x : V} {u : Value} {Q : VK} (I : Inv X pins σ0 H s) (ab : Ab X.K X.mg σ H τ ρ G) (rx : Rep X.K X.mg ρ H d x) (ru : RelV x u)
    (ok : OkE X.K X.mg EE H σ τ ρ (dIsi c d G) Q) : wpAny (model X.prog X.w) X.A (call (.builtin "isinstance") [u, .type c.nm]) (EP X pins σ0 Q) X.xe s := by
  dsimp only [dIsi] at ok
  have fin : ∀ {b : Bool}, Q (.bl b) H → ∀ tk, EP X pins σ0 Q (.bool b) { s with toks := tk } := fun q tk => ⟨.bl _, H, I.tok tk, rfl, q⟩
  cases d with
  | non =>
    have q := ok (.bl _) H ρ .refl ab (by unfold Rep; rfl)
    unfold Rep at rx; subst rx; cases ru
    exact PySem.W.kia_one PySem.W.kitx_none I.kIn True.intro (kit_ty X.K .non c hc) (fun z => nomatch z) (fin q)
  | bl y =>
    have q := ok (.bl _) H ρ .refl ab (by unfold Rep; rfl)
    unfold Rep at rx; subst rx; cases ru
    exact PySem.W.kia_one PySem.W.kitx_bool I.kIn True.intro (kit_ty X.K .bl c hc) (fun z => nomatch z) (fin q)
  | int y =>
    have q := ok (.bl _) H ρ .refl ab (by unfold Rep; rfl)
    unfold Rep at rx; subst rx; obtain ⟨t, rfl⟩ := ru
    exact PySem.W.kia_one PySem.W.kitx_int I.kIn True.intro (kit_ty X.K .int c hc) (fun z => nomatch z) (fin q)
  | str y =>
    have q := ok (.bl _) H ρ .refl ab (by unfold Rep; rfl)
    unfold Rep at rx; subst rx; obtain ⟨t, rfl⟩ := ru
    exact PySem.W.kia_one PySem.W.kitx_str I.kIn True.intro (kit_ty X.K .str c hc) (fun z => nomatch z) (fin q)
  | tup ys =>
    have q := ok (.bl _) H ρ .refl ab (by unfold Rep; rfl)
    unfold Rep at rx
    obtain ⟨p, vs, rfl, sq, _⟩ := rx
    cases ru
    obtain ⟨its, _, ⟨o, h1, h2, _⟩, _⟩ := I.tuple sq
    exact PySem.W.kia_one PySem.W.kitx_tuple I.kIn ⟨o, h1, h2⟩ (kit_ty X.K .tup c hc) (fun z => nomatch z) (fin q)
  | con ys =>
    have q := ok (.bl _) H ρ .refl ab (by unfold Rep; rfl)
    unfold Rep at rx
    obtain ⟨p, vs, rfl, sq, _⟩ := rx
    cases ru
    obtain ⟨its, _, ⟨o, k, h1, h2, _⟩, _⟩ := I.list sq.seq
    exact PySem.W.kia_one PySem.W.kitx_list I.kIn ⟨o, h1, h2⟩ (kit_ty X.K .lst c hc) (fun z => nomatch z) (fin q)
  | obj n =>
    unfold Rep at rx
    obtain ⟨p, rfl, e1⟩ := rx
    cases ru
    dsimp only [tyD] at ok
    cases g : G[n]? with
    | none => rw [g] at ok; exact ok.elim
    | some o =>
      cases o with
      | lst ys =>
        rw [g] at ok
        have q := ok (.bl _) H ρ .refl ab (by unfold Rep; rfl)
        obtain ⟨p', vs, e2, hp, _⟩ := ab.hp.lst g
        rw [e1] at e2; cases e2
        obtain ⟨its, _, ⟨o, k, h1, h2, _⟩, _⟩ := I.list (.of hp)
        exact PySem.W.kia_one PySem.W.kitx_list I.kIn ⟨o, h1, h2⟩ (kit_ty X.K .lst c hc) (fun z => nomatch z) (fin q)
  | fn x => exact ok.elim
theorem qe_isi (c : Ty) {p pt : Pos} {x : Str} (hc : c ≠ .non) (hm : X.mg "isinstance" = none) (hmt : X.mg x = none) (ha : QE X EE a ma) (hb : bootBuiltins x = some (.type c.nm))
    (hg : Gl X "isinstance" := by rfl) (hgt : Gl X x := by rfl) (hnt : x ≠ "__name__" := by decide) (hdt : (x == ("__debug__" : Str)) = false := by decide)
    (he : starEach [a, .Name x pt] X.env = (false, eval a X.env) :: starEach [.Name x pt] X.env := by rfl) (he2 : starEach [.Name x pt] X.env = (false, eval (.Name x pt) X.env) :: starEach [] X.env := by rfl) (hpl : (backTo pos (starEach [.Name x pt] X.env)).any (·.1) = false := by rfl)
    (hbi : bootBuiltins "isinstance" = some (.builtin "isinstance") := by first | exact PyProof.Rows.boot_isinstance | decide +kernel) :
    QE X EE (.Call (.Name "isinstance" p) [a, .Name x pt] [] pos) (eIsi c ma) := by
  have hT : PE X (.Name x pt) (tC (.ty c.nm)) := pe_bltn hgt hmt hb rfl hnt hdt
  have hA : PA X [a, .Name x pt] (tCons (liftE X.K X.mg EE ma) (tCons (tC (.ty c.nm)) tNil)) := pa_cons ha (pa_cons hT pa_nil he2) he
  intro pins s σ H Q I h
  obtain ⟨τ, ρ, G, ab, ok⟩ := bindEE (k := fun _ d => dIsi c d) h
  refine wpAny_Call_Name_kw (ld_blt I hg hm hbi ?_ (by decide) (by decide))
  refine PyProof.Rows.callWith_builtin1 (thn (hA pos pins s σ H (fun vs H1 => ∃ x, vs = [x, .ty c.nm] ∧ ∃ τ ρ G d, Ab X.K X.mg σ H1 τ ρ G ∧ Rep X.K X.mg ρ H1 d x ∧ OkE X.K X.mg EE H1 σ τ ρ (dIsi c d G) Q) I ⟨τ, ρ, G, ab, ?_⟩) fun us s1 ⟨vs, H1, I1, r1, q1⟩ => ?_) he hpl
  · cases e : ma τ G with
    | stuck => rw [e] at ok; exact ok
    | exn c G' => rw [e] at ok; exact ok
    | ok d G' => rw [e] at ok; exact fun v H' ρ' f' ab' r' => ⟨v, rfl, ok v H' ρ' f' ab' r'⟩
  · obtain ⟨y, rfl, τ2, ρ2, G2, d, ab2, rd, ok2⟩ := q1
    cases r1 with
    | cons ry rr =>
      cases rr with
      | cons rt rr =>
        cases rr
        cases rt
        exact isi_run hc I1 ab2 rd ry ok2
end
end L3

end

section
set_option Elab.async false
set_option linter.all false
set_option maxRecDepth 100000
namespace L3
open PySem PySem.Spec L2
section
variable {X : Cx} {EE : EXK} {a b c : Expr} {ma mb mc : DS → M D} {pos : Pos}
/-! ### all, any of a list of bools -/
def blsOf : List D → Option (List Bool)
  | [] => some []
  | .bl b :: r => (blsOf r).map (b :: ·)
  | _ :: _ => none
def dAll (any : Bool) : List D → M D
  | [d] => fun G => match seqOf G d with
    | some (.lst xs) => match blsOf xs with
      | some bs => .ok (.bl (if any then bs.any id else bs.all id)) G
      | none => .stuck
    | _ => .stuck
  | _ => M.stop
theorem blsOf_are {K : PySem.W.Frag} {mg : Str → Option Value} {ρ : List Addr} {H : Hp} : ∀ {ds : List D} {vs : List V} {us : List Value} {bs : List Bool}, Reps K mg ρ H ds vs → Vals vs us → blsOf ds = some bs → us = bs.map Value.bool
  | [], vs, us, bs, r, v, e => by unfold Reps at r; subst r; cases v; cases e; rfl
  | d :: ds, vs, us, bs, r, v, e => by
    unfold Reps at r
    obtain ⟨x, r', rfl, h1, h2⟩ := r
    cases v with
    | cons v1 v2 =>
      cases d <;> try (cases e; done)
      rename_i b
      dsimp only [blsOf] at e
      cases q : blsOf ds with
      | none => rw [q] at e; cases e
      | some bs' =>
        rw [q] at e; cases e
        unfold Rep at h1; subst h1; cases v1
        rw [blsOf_are h2 v2 q]; rfl
theorem kept_iterD {s : Shared} {h' : Heap} {o : Obj} (hk : ∀ b x, b ∉ [s.heap.objs.size] → (s.heap.push o).get? b = some x → h'.get? b = some x) : ∀ b x, s.heap.get? b = some x → h'.get? b = some x :=
  fun b x e => hk b x (fun hm => by rw [List.mem_singleton.mp hm] at e; exact Nat.lt_irrefl _ (Heap.lt_size e)) (Heap.get?_push_of_some _ e)
theorem range_allD (bs : List Bool) : ((List.range bs.length).all fun i => (bs[i]?).getD true) = bs.all id := by
  rw [Bool.eq_iff_iff, List.all_eq_true, List.all_eq_true]
  constructor
  · intro h b hb
    obtain ⟨i, hi, rfl⟩ := List.getElem_of_mem hb
    have := h i (List.mem_range.mpr hi)
    simpa [List.getElem?_eq_getElem hi] using this
  · intro h i hi
    have hi' := List.mem_range.mp hi
    simp only [List.getElem?_eq_getElem hi', Option.getD_some]
    exact h _ (List.getElem_mem hi')
theorem range_anyD (bs : List Bool) : ((List.range bs.length).any fun i => (bs[i]?).getD false) = bs.any id := by
  rw [Bool.eq_iff_iff, List.any_eq_true, List.any_eq_true]
  constructor
  · rintro ⟨i, hi, e⟩
    have hi' := List.mem_range.mp hi
    simp only [List.getElem?_eq_getElem hi', Option.getD_some] at e
    exact ⟨_, List.getElem_mem hi', e⟩
  · rintro ⟨b, hb, e⟩
    obtain ⟨i, hi, rfl⟩ := List.getElem_of_mem hb
    exact ⟨i, List.mem_range.mpr hi, by simp only [List.getElem?_eq_getElem hi, Option.getD_some]; exact e⟩
theorem call_allD (hc : X.calm = true) : CallR X (.builtin "all") (rCD X EE (dAll false)) := by
  intro pins s σ0 H xs us Q I r ⟨σ, τ, ρ, G, ds, ab, rs, ok⟩
  match ds, ok with
  | [], ok => exact ok.elim
  | _ :: _ :: _, ok => exact ok.elim
  | [d], ok =>
    obtain ⟨x, rfl, rx⟩ := reps1 rs
    obtain ⟨u, rfl, ru⟩ := vals1 r
    dsimp only [dAll] at ok
    cases q : seqOf G d with
    | none => rw [q] at ok; exact ok.elim
    | some sk =>
      rw [q] at ok
      cases sk with
      | tup zs => exact ok.elim
      | str z => exact ok.elim
      | lst zs =>
        dsimp only at ok
        cases qb : blsOf zs with
        | none => rw [qb] at ok; exact ok.elim
        | some bs =>
          rw [qb] at ok
          obtain ⟨p, vs, rfl, sq, rv⟩ := seqOf_lst (pins := pins) (σ0 := σ0) (s := s) ab.hp rx q
          cases ru
          obtain ⟨its, vv, pl, hz⟩ := I.list sq
          have e := blsOf_are rv vv qb
          subst e
          have hl := pl.isList
          have hlt : p < s.heap.objs.size := by obtain ⟨_, e, _⟩ := hl; exact Heap.lt_size e
          refine call_all_walk (wpAny_pyIter_list hl ?_)
          refine ⟨s.heap.objs.size, [s.heap.objs.size, p], [s.heap.objs.size], (bs.map Value.bool).toArray.size, _, _, fun i => (bs[i]?).getD true, rfl, Walks.list (A := X.A.in1) (I.ok.hd hc) _ p (Nat.ne_of_lt hlt) _,
            ⟨⟨_, Heap.get?_push_size _ rfl, rfl, rfl⟩, hl.push _⟩, fun i v s' Q' E' hP hQ => ?_, fun h' tk hk => ?_⟩
          · have hP' : (bs.map Value.bool)[i]? = some v := by simpa using hP
            rw [List.getElem?_map] at hP'
            cases qi : bs[i]? with
            | none => rw [qi] at hP'; cases hP'
            | some k =>
              rw [qi] at hP'; cases hP'
              simp only [qi, Option.getD_some] at hQ
              exact wpAny_truthy_bool hQ
          · rw [show (bs.map Value.bool).toArray.size = bs.length by simp, range_allD]
            exact ⟨.bl _, H, I.kept (t' := tk) (kept_iterD hk), rfl, ok _ H ρ .refl ab (by unfold Rep; rfl)⟩
theorem call_anyD (hc : X.calm = true) : CallR X (.builtin "any") (rCD X EE (dAll true)) := by
  intro pins s σ0 H xs us Q I r ⟨σ, τ, ρ, G, ds, ab, rs, ok⟩
  match ds, ok with
  | [], ok => exact ok.elim
  | _ :: _ :: _, ok => exact ok.elim
  | [d], ok =>
    obtain ⟨x, rfl, rx⟩ := reps1 rs
    obtain ⟨u, rfl, ru⟩ := vals1 r
    dsimp only [dAll] at ok
    cases q : seqOf G d with
    | none => rw [q] at ok; exact ok.elim
    | some sk =>
      rw [q] at ok
      cases sk with
      | tup zs => exact ok.elim
      | str z => exact ok.elim
      | lst zs =>
        dsimp only at ok
        cases qb : blsOf zs with
        | none => rw [qb] at ok; exact ok.elim
        | some bs =>
          rw [qb] at ok
          obtain ⟨p, vs, rfl, sq, rv⟩ := seqOf_lst (pins := pins) (σ0 := σ0) (s := s) ab.hp rx q
          cases ru
          obtain ⟨its, vv, pl, hz⟩ := I.list sq
          have e := blsOf_are rv vv qb
          subst e
          have hl := pl.isList
          have hlt : p < s.heap.objs.size := by obtain ⟨_, e, _⟩ := hl; exact Heap.lt_size e
          refine call_any_walk (wpAny_pyIter_list hl ?_)
          refine ⟨s.heap.objs.size, [s.heap.objs.size, p], [s.heap.objs.size], (bs.map Value.bool).toArray.size, _, _, fun i => (bs[i]?).getD false, rfl, Walks.list (A := X.A.in1) (I.ok.hd hc) _ p (Nat.ne_of_lt hlt) _,
            ⟨⟨_, Heap.get?_push_size _ rfl, rfl, rfl⟩, hl.push _⟩, fun i v s' Q' E' hP hQ => ?_, fun h' tk hk => ?_⟩
          · have hP' : (bs.map Value.bool)[i]? = some v := by simpa using hP
            rw [List.getElem?_map] at hP'
            cases qi : bs[i]? with
            | none => rw [qi] at hP'; cases hP'
            | some k =>
              rw [qi] at hP'; cases hP'
              simp only [qi, Option.getD_some] at hQ
              exact wpAny_truthy_bool hQ
          · rw [show (bs.map Value.bool).toArray.size = bs.length by simp, range_anyD]
            exact ⟨.bl _, H, I.kept (t' := tk) (kept_iterD hk), rfl, ok _ H ρ .refl ab (by unfold Rep; rfl)⟩
theorem qe_all {p : Pos} {e : Expr} {m : DS → M (List D)} (hc : X.calm = true) (hm : X.mg "all" = none) (ha : QA X EE [e] m) (hg : Gl X "all" := by rfl) (he : starEach [e] X.env = (false, eval e X.env) :: starEach [] X.env := by rfl) (hpl : (backTo pos (starEach [] X.env)).any (·.1) = false := by rfl) :
    QE X EE (.Call (.Name "all" p) [e] [] pos) (eArgs (dAll false) m) := qe_callB (call_allD hc) callD_self hm ha hg PyProof.Rows.boot_all (by decide) (by decide) he hpl
theorem qe_any {p : Pos} {e : Expr} {m : DS → M (List D)} (hc : X.calm = true) (hm : X.mg "any" = none) (ha : QA X EE [e] m) (hg : Gl X "any" := by rfl) (he : starEach [e] X.env = (false, eval e X.env) :: starEach [] X.env := by rfl) (hpl : (backTo pos (starEach [] X.env)).any (·.1) = false := by rfl) :
    QE X EE (.Call (.Name "any" p) [e] [] pos) (eArgs (dAll true) m) := qe_callB (call_anyD hc) callD_self hm ha hg PyProof.Rows.boot_any (by decide) (by decide) he hpl

/-! ### max, min of two ints -/
def dInt2L (g : Int → Int → Int) : List D → M D
  | [.int i, .int j] => M.ret (.int (g i j))
  | _ => M.stop
theorem int2L_of {g : Int → Int → Int} {ds : List D} {G : DH} {σ : L2.St} {H : Hp} {τ : DS} {ρ : List Addr} {Q : VK} (ok : OkE X.K X.mg EE H σ τ ρ (dInt2L g ds G) Q) : ∃ i j, ds = [.int i, .int j] ∧ OkE X.K X.mg EE H σ τ ρ (.ok (.int (g i j)) G) Q := by
  unfold dInt2L at ok
  split at ok
  · exact ⟨_, _, rfl, ok⟩
  · exact ok.elim
theorem call_maxD (hc : X.calm = true) : CallR X (.builtin "max") (rCD X EE (dInt2L fun i j => if j > i then j else i)) := by
  intro pins s σ0 H xs us Q I r ⟨σ, τ, ρ, G, ds, ab, rs, ok⟩
  obtain ⟨i, j, rfl, ok⟩ := int2L_of ok
  obtain ⟨x, y, rfl, r1, r2⟩ := reps2 rs
  unfold Rep at r1 r2; subst r1 r2
  exact call_max2 hc pins s σ0 H _ us Q I r ⟨i, j, rfl, ok _ H ρ .refl ab (by unfold Rep; rfl)⟩
theorem call_minD (hc : X.calm = true) : CallR X (.builtin "min") (rCD X EE (dInt2L fun i j => if j < i then j else i)) := by
  intro pins s σ0 H xs us Q I r ⟨σ, τ, ρ, G, ds, ab, rs, ok⟩
  obtain ⟨i, j, rfl, ok⟩ := int2L_of ok
  obtain ⟨x, y, rfl, r1, r2⟩ := reps2 rs
  unfold Rep at r1 r2; subst r1 r2
  exact call_min2 hc pins s σ0 H _ us Q I r ⟨i, j, rfl, ok _ H ρ .refl ab (by unfold Rep; rfl)⟩
theorem qe_max2 {p : Pos} {e e2 : Expr} {m : DS → M (List D)} (hc : X.calm = true) (hm : X.mg "max" = none) (ha : QA X EE [e, e2] m) (hg : Gl X "max" := by rfl) (he : starEach [e, e2] X.env = (false, eval e X.env) :: starEach [e2] X.env := by rfl) (hpl : (backTo pos (starEach [e2] X.env)).any (·.1) = false := by rfl) :
    QE X EE (.Call (.Name "max" p) [e, e2] [] pos) (eArgs (dInt2L fun i j => if j > i then j else i) m) := qe_callB (call_maxD hc) callD_self hm ha hg PyProof.Rows.boot_max (by decide) (by decide) he hpl
theorem qe_min2 {p : Pos} {e e2 : Expr} {m : DS → M (List D)} (hc : X.calm = true) (hm : X.mg "min" = none) (ha : QA X EE [e, e2] m) (hg : Gl X "min" := by rfl) (he : starEach [e, e2] X.env = (false, eval e X.env) :: starEach [e2] X.env := by rfl) (hpl : (backTo pos (starEach [e2] X.env)).any (·.1) = false := by rfl) :
    QE X EE (.Call (.Name "min" p) [e, e2] [] pos) (eArgs (dInt2L fun i j => if j < i then j else i) m) := qe_callB (call_minD hc) callD_self hm ha hg PyProof.Rows.boot_min (by decide) (by decide) he hpl

/-! ### methods of lists and texts -/
def eMeth (f : D → List D → M D) (mo : DS → M D) (m : DS → M (List D)) : DS → M D := fun τ => (mo τ).bind fun d => (m τ).bind fun ds => f d ds
def rMD (X : Cx) (EE : EXK) (f : D → List D → M D) : V → List V → Hp → VK → Prop := fun x xs H Q => ∃ σ τ ρ G d ds, Ab X.K X.mg σ H τ ρ G ∧ Rep X.K X.mg ρ H d x ∧ Reps X.K X.mg ρ H ds xs ∧ OkE X.K X.mg EE H σ τ ρ (f d ds G) Q
/-- is the value of the method's own kind? -/
def kindOk (T : String) (G : DH) : D → Bool
  | .str _ => T == "str"
  | .int _ => T == "int"
  | .con _ => T == "list"
  | .obj n => match G[n]? with
    | some (.lst _) => T == "list"
    | _ => false
  | _ => false
theorem kindOk_is {T : String} {σ : L2.St} {H : Hp} {τ : DS} {ρ : List Addr} {G : DH} {d : D} {x : V} (ab : Ab X.K X.mg σ H τ ρ G) (r : Rep X.K X.mg ρ H d x) (h : kindOk T G d = true) : tyV X.K T x H := by
  cases d with
  | str z => unfold Rep at r; subst r; exact eq_of_beq h
  | int z => unfold Rep at r; subst r; exact eq_of_beq h
  | con zs =>
    unfold Rep at r
    obtain ⟨p, vs, rfl, sq, _⟩ := r
    exact .inl ⟨eq_of_beq h, vs, sq.seq⟩
  | obj n =>
    unfold Rep at r
    obtain ⟨p, rfl, e1⟩ := r
    dsimp only [kindOk] at h
    cases g : G[n]? with
    | none => rw [g] at h; cases h
    | some o =>
      cases o with
      | lst ys =>
        rw [g] at h
        obtain ⟨p', vs, e2, hp, _⟩ := ab.hp.lst g
        rw [e1] at e2; cases e2
        exact .inl ⟨eq_of_beq h, vs, .of hp⟩
  | _ => cases h
/-- o.m(e, ..): the receiver is looked at first -/
def eMethT (T : String) (f : D → List D → M D) (mo : DS → M D) (m : DS → M (List D)) : DS → M D := fun τ => (mo τ).bind fun d G => if kindOk T G d then (m τ).bind (fun ds => f d ds) G else .stuck
theorem qe_bm {o e : Expr} {es : List Expr} {name : Str} {apos cpos : Pos} {T id : String} {f : D → List D → M D} {mo : DS → M D} {m : DS → M (List D)} (pa : PlainAttrs T) (slot : Slot T name id) (hty : typeOf (.builtin id) = pure (.type "method_descriptor")) (hm : MtR X id (rMD X EE f)) (ho : QE X EE o mo) (ha : QA X EE (e :: es) m)
    (hbase : attributeBase o name X.env (eval o X.env) = eval o X.env := by rfl)
    (hfew : ((backTo cpos (starEach (e :: es) X.env)).all (fun x => !x.1) && (backToKw cpos (keywordEach [] X.env)).all (fun x => x.1.isSome)
      && decide ((e :: es).length + ([] : List Keyword).length + (if ([] : List Keyword).isEmpty then 0 else 1) < 30)) = true := by rfl)
    (hline : (apos.endLine == cpos.line) = true := by rfl) (hs : starEach (e :: es) X.env = (false, eval e X.env) :: starEach es X.env := by rfl) (hplain : (backTo cpos (starEach es X.env)).any (·.1) = false := by rfl) :
    QE X EE (.Call (.Attribute o name apos) (e :: es) [] cpos) (eMethT T f mo m) := PE.mono (pe_bm pa slot hty hm ho ha hbase hfew hline hs hplain) fun σ H Q h => by
  obtain ⟨τ, ρ, G, ab, ok⟩ := bindEE (k := fun τ d G => if kindOk T G d then (m τ).bind (fun ds => f d ds) G else .stuck) h
  refine ⟨τ, ρ, G, ab, ?_⟩
  cases e : mo τ G with
  | stuck => rw [e] at ok; exact ok
  | exn c G' => rw [e] at ok; exact ok
  | ok d G' =>
    rw [e] at ok
    intro v H' ρ' f' ab' r'
    obtain ⟨τ2, ρ2, G2, d2, ab2, r2, ok2⟩ := ok v H' ρ' f' ab' r'
    by_cases hk : kindOk T G2 d2 = true
    · rw [if_pos hk] at ok2
      refine ⟨kindOk_is ab2 r2 hk, τ2, ρ2, G2, ab2, ?_⟩
      dsimp only [M.bind] at ok2
      cases e2 : m τ2 G2 with
      | stuck => rw [e2] at ok2; exact ok2
      | exn c G' => rw [e2] at ok2; exact ok2
      | ok ds G3 =>
        rw [e2] at ok2
        exact fun vs H3 ρ3 f3 ab3 r3 => ⟨σ, τ2, ρ3, G3, d2, ds, ab3, r2.mono f3, r3, ok2.fut f3⟩
    · rw [if_neg hk] at ok2; exact ok2.elim
theorem qe_bm0 {o : Expr} {name : Str} {apos cpos : Pos} {T id : String} {f : D → List D → M D} {mo : DS → M D} (pa : PlainAttrs T) (slot : Slot T name id) (hty : typeOf (.builtin id) = pure (.type "method_descriptor")) (hm : MtR X id (rMD X EE f)) (ho : QE X EE o mo)
    (hbase : attributeBase o name X.env (eval o X.env) = eval o X.env := by rfl) (hline : (apos.endLine == cpos.line) = true := by rfl) :
    QE X EE (.Call (.Attribute o name apos) [] [] cpos) (eMethT T f mo aNil) := PE.mono (pe_bm0 pa slot hty hm ho hbase hline) fun σ H Q h => by
  obtain ⟨τ, ρ, G, ab, ok⟩ := bindEE (k := fun τ d G => if kindOk T G d then (aNil τ).bind (fun ds => f d ds) G else .stuck) h
  refine ⟨τ, ρ, G, ab, ?_⟩
  cases e : mo τ G with
  | stuck => rw [e] at ok; exact ok
  | exn c G' => rw [e] at ok; exact ok
  | ok d G' =>
    rw [e] at ok
    intro v H' ρ' f' ab' r'
    obtain ⟨τ2, ρ2, G2, d2, ab2, r2, ok2⟩ := ok v H' ρ' f' ab' r'
    by_cases hk : kindOk T G2 d2 = true
    · rw [if_pos hk] at ok2
      exact ⟨kindOk_is ab2 r2 hk, σ, τ2, ρ2, G2, d2, [], ab2, r2, .nil, ok2⟩
    · rw [if_neg hk] at ok2; exact ok2.elim
def dAppend : D → List D → M D
  | .obj n, [v] => fun G => match G[n]? with
    | some (.lst xs) => if xs.length < sizeLine then .ok .non (G.set n (.lst (xs ++ [v]))) else .stuck
    | _ => .stuck
  | _, _ => M.stop
theorem put_ok {σ : L2.St} {H : Hp} {τ : DS} {ρ : List Addr} {G : DH} {n : Nat} {xs ys : List D} {d : D} {w : V} {p : Addr} {vs ws : List V} {Q : VK} (ab : Ab X.K X.mg σ H τ ρ G) (hn : ρ[n]? = some p) (hp : H p = some (.lst vs)) (r : Reps X.K X.mg ρ H ys ws)
    (rd : ∀ H', Fut X.K H H' ρ ρ → Rep X.K X.mg ρ H' d w) (ok : OkE X.K X.mg EE H σ τ ρ (.ok d (G.set n (.lst ys))) Q) : Q w (upd H p (.lst ws)) := by
  have f : Fut X.K H (upd H p (.lst ws)) ρ ρ := fut_set hp ρ
  exact ok w _ ρ f (ab.fut f (ab.hp.put (ds := ys) hn hp r)) (rd _ f)
theorem mt_appendD : MtR X "list.append" (rMD X EE dAppend) := by
  intro pins s σ0 H x xs v us Q I rx rxs ⟨σ, τ, ρ, G, d, ds, ab, rd, rds, ok⟩
  cases d <;> try exact ok.elim
  rename_i n
  match ds, ok with
  | [], ok => exact ok.elim
  | _ :: _ :: _, ok => exact ok.elim
  | [y], ok =>
    obtain ⟨yv, rfl, ry⟩ := reps1 rds
    unfold Rep at rd
    obtain ⟨p, rfl, e1⟩ := rd
    dsimp only [dAppend] at ok
    cases g : G[n]? with
    | none => rw [g] at ok; exact ok.elim
    | some o =>
      cases o with
      | lst zs =>
        rw [g] at ok
        dsimp only at ok
        obtain ⟨p', vs, e2, hp, rs⟩ := ab.hp.lst g
        rw [e1] at e2; cases e2
        by_cases hz : zs.length < sizeLine
        · rw [if_pos hz] at ok
          exact mt_append pins s σ0 H _ _ v us Q I rx rxs ⟨p, vs, yv, rfl, rfl, hp, by rw [← rs.length]; exact hz, put_ok (xs := zs) ab e1 hp (rs.append (.cons ry .nil)) (fun _ _ => by unfold Rep; rfl) ok⟩
        · rw [if_neg hz] at ok; exact ok.elim
theorem qe_append {o e : Expr} {apos cpos : Pos} {mo : DS → M D} {m : DS → M (List D)} (ho : QE X EE o mo) (ha : QA X EE [e] m)
    (hbase : attributeBase o "append" X.env (eval o X.env) = eval o X.env := by rfl)
    (hfew : ((backTo cpos (starEach [e] X.env)).all (fun x => !x.1) && (backToKw cpos (keywordEach [] X.env)).all (fun x => x.1.isSome)
      && decide ([e].length + ([] : List Keyword).length + (if ([] : List Keyword).isEmpty then 0 else 1) < 30)) = true := by rfl)
    (hline : (apos.endLine == cpos.line) = true := by rfl) (hs : starEach [e] X.env = (false, eval e X.env) :: starEach [] X.env := by rfl) (hplain : (backTo cpos (starEach [] X.env)).any (·.1) = false := by rfl) :
    QE X EE (.Call (.Attribute o "append" apos) [e] [] cpos) (eMethT "list" dAppend mo m) := qe_bm PySem.F.plainAttrs_list PySem.F.slot_list_append PySem.F.type_list_append mt_appendD ho ha hbase hfew hline hs hplain
def dPop : D → List D → M D
  | .obj n, [] => fun G => match G[n]? with
    | some (.lst xs) => match xs[xs.length - 1]? with
      | some y => .ok y (G.set n (.lst xs.dropLast))
      | none => .stuck
    | _ => .stuck
  | _, _ => M.stop
theorem Reps.dropLast {K : PySem.W.Frag} {mg : Str → Option Value} {ρ : List Addr} {H : Hp} {ds : List D} {vs : List V} (r : Reps K mg ρ H ds vs) : Reps K mg ρ H ds.dropLast vs.dropLast := by
  rw [List.dropLast_eq_take, List.dropLast_eq_take, ← r.length]
  exact r.take _
theorem mt_popD : MtR X "list.pop" (rMD X EE dPop) := by
  intro pins s σ0 H x xs v us Q I rx rxs ⟨σ, τ, ρ, G, d, ds, ab, rd, rds, ok⟩
  cases d <;> try exact ok.elim
  rename_i n
  match ds, ok with
  | _ :: _, ok => exact ok.elim
  | [], ok =>
    unfold Reps at rds; subst rds
    unfold Rep at rd
    obtain ⟨p, rfl, e1⟩ := rd
    dsimp only [dPop] at ok
    cases g : G[n]? with
    | none => rw [g] at ok; exact ok.elim
    | some o =>
      cases o with
      | lst zs =>
        rw [g] at ok
        dsimp only at ok
        obtain ⟨p', vs, e2, hp, rs⟩ := ab.hp.lst g
        rw [e1] at e2; cases e2
        cases qz : zs[zs.length - 1]? with
        | none => rw [qz] at ok; exact ok.elim
        | some y =>
          rw [qz] at ok
          obtain ⟨yv, ey, ry⟩ := rs.get qz
          exact mt_pop pins s σ0 H _ _ v us Q I rx rxs ⟨p, vs, yv, rfl, rfl, hp, by rw [← rs.length]; exact ey, put_ok (xs := zs) ab e1 hp rs.dropLast (fun _ f => ry.mono f) ok⟩
theorem qe_pop {o : Expr} {apos cpos : Pos} {mo : DS → M D} (ho : QE X EE o mo) (hbase : attributeBase o "pop" X.env (eval o X.env) = eval o X.env := by rfl) (hline : (apos.endLine == cpos.line) = true := by rfl) :
    QE X EE (.Call (.Attribute o "pop" apos) [] [] cpos) (eMethT "list" dPop mo aNil) := qe_bm0 PySem.F.plainAttrs_list PySem.F.slot_list_pop PySem.F.type_list_pop mt_popD ho hbase hline
/-- xs[i] = v -/
def dSetIx (v o i : D) : M D := fun G => match o, i with
  | .obj n, .int k => match G[n]? with
    | some (.lst xs) => match ixN xs.length k with
      | some j => .ok .non (G.set n (.lst (xs.set j v)))
      | none => .stuck
    | _ => .stuck
  | _, _ => .stuck
def sSetIx (mv mo mi : DS → M D) : MS := fun τ => sBind ((mv τ).bind fun v => (mo τ).bind fun o => (mi τ).bind fun i => dSetIx v o i) (fun _ G => .nx τ G) fun c G => .xn c τ G
theorem qs_setIx {o i : Expr} {mv mo mi : DS → M D} {tpos : Pos} (hv : QE X EE a mv) (ho : QE X EE o mo) (hi : QE X EE i mi)
    (hs : swapsWithSole [.Subscript o i tpos] a pos.line X.env = pure false := by rfl) (hw : swappedStores [.Subscript o i tpos] a X.env = pure none := by rfl) (h1 : (assignEach [.Subscript o i tpos] X.env).map (·.2) = [assign (.Subscript o i tpos) X.env] := by rfl)
    (hasg : ∀ v, assign (.Subscript o i tpos) X.env v = (do
      let ov ← holding [v] (eval o X.env)
      let iv ← holding [v, ov] (eval i X.env)
      standAt tpos
      holding [v, ov, iv] (setItem ov iv v)
      release [v, ov, iv] []) := by intro _; rfl) : QS X EE (.Assign [.Subscript o i tpos] a pos) (sSetIx mv mo mi) :=
  PS.mono (ps_asg hv (pg_sub ho hi set_list hasg) hs hw h1) fun Dd σ H ⟨τ, ρ, G, ab, ok⟩ => by
    refine ⟨τ, ρ, G, ab, ?_⟩
    dsimp only [sSetIx, sBind, M.bind] at ok
    cases e1 : mv τ G with
    | stuck => rw [e1] at ok; exact ok
    | exn c G' => rw [e1] at ok; exact fun H' ρ' f ab' => ok σ H' ρ' f ab'
    | ok v G1 =>
      rw [e1] at ok
      intro vv H1 ρ1 f1 ab1 r1
      refine ⟨τ, ρ1, G1, ab1, ?_⟩
      dsimp only at ok
      cases e2 : mo τ G1 with
      | stuck => rw [e2] at ok; exact ok
      | exn c G' => rw [e2] at ok; exact fun H' ρ' f ab' => ok σ H' ρ' (f1.trans f) ab'
      | ok ov G2 =>
        rw [e2] at ok
        intro vo H2 ρ2 f2 ab2 r2
        refine ⟨τ, ρ2, G2, ab2, ?_⟩
        dsimp only at ok
        cases e3 : mi τ G2 with
        | stuck => rw [e3] at ok; exact ok
        | exn c G' => rw [e3] at ok; exact fun H' ρ' f ab' => ok σ H' ρ' ((f1.trans f2).trans f) ab'
        | ok iv G3 =>
          rw [e3] at ok
          intro vi H3 ρ3 f3 ab3 r3
          dsimp only [dSetIx] at ok
          cases ov <;> try exact ok.elim
          cases iv <;> try exact ok.elim
          rename_i n k
          have r2' := r2.mono f3
          unfold Rep at r2' r3
          obtain ⟨p, rfl, e4⟩ := r2'
          dsimp only at ok
          cases g : G3[n]? with
          | none => rw [g] at ok; exact ok.elim
          | some ob =>
            cases ob with
            | lst zs =>
              rw [g] at ok
              dsimp only at ok
              obtain ⟨p', vs, e5, hp, rs⟩ := ab3.hp.lst g
              rw [e4] at e5; cases e5
              cases qj : ixN zs.length k with
              | none => rw [qj] at ok; exact ok.elim
              | some j =>
                rw [qj] at ok
                have rr := rs.set (r1.mono (f2.trans f3)) j
                have f4 : Fut X.K H3 (upd H3 p (.lst (vs.set j vv))) ρ3 ρ3 := fut_set hp ρ3
                exact ⟨p, vs, k, j, rfl, r3, hp, by rw [← rs.length]; exact qj, ok σ _ ρ3 (((f1.trans f2).trans f3).trans f4) (ab3.fut f4 (ab3.hp.put (ds := zs) e4 hp rr))⟩
end
end L3

end

section
set_option Elab.async false
set_option linter.all false
set_option maxRecDepth 100000
namespace L3
open PySem PySem.Spec L2
/-! ### the cells that a block reads -/
def closOf (env : Env) : List (Str × NameKind) → List (Str × Addr) → List (Str × Addr)
  | [], acc => acc
  | (n, k) :: r, acc => closOf env r (if k == .free then (match env.cells.lookup n with | some c => (n, c) :: acc | none => acc) else acc)
theorem closureFor_eq {scope : Scope} {env : Env} (h : ∀ x ∈ scope.names, x.2 = .free → ∃ c, env.cells.lookup x.1 = some c) : closureFor scope env = pure (closOf env scope.names []) := by
  unfold closureFor
  have key : ∀ (names : List (Str × NameKind)) (acc : List (Str × Addr)), (∀ x ∈ names, x.2 = .free → ∃ c, env.cells.lookup x.1 = some c) →
      (forIn names acc fun x r => match x with | (name, kind) => if (kind == NameKind.free) = true then do let y ← cellOf env name; pure (ForInStep.yield ((name, y) :: r)) else pure (ForInStep.yield r)) = (pure (closOf env names acc) : Sem (List (Str × Addr))) := by
    intro names
    induction names with
    | nil => intro acc _; rfl
    | cons x r ih =>
      intro acc hx
      obtain ⟨n, k⟩ := x
      rw [List.forIn_cons]
      by_cases hk : (k == NameKind.free) = true
      · obtain ⟨c, hc⟩ := hx (n, k) List.mem_cons_self (eq_of_beq hk)
        have e : cellOf env n = pure c := by unfold cellOf; rw [hc]
        simp only [if_pos hk, e, pure_bind]
        rw [ih _ fun y hy => hx y (List.mem_cons_of_mem _ hy)]
        show _ = pure (closOf env r (if (k == NameKind.free) = true then (match env.cells.lookup n with | some c => (n, c) :: acc | none => acc) else acc))
        rw [if_pos hk, hc]
      · simp only [if_neg hk, pure_bind]
        rw [ih _ fun y hy => hx y (List.mem_cons_of_mem _ hy)]
        show _ = pure (closOf env r (if (k == NameKind.free) = true then (match env.cells.lookup n with | some c => (n, c) :: acc | none => acc) else acc))
        rw [if_neg hk]
  have k2 := key scope.names [] h
  first
    | (rw [k2]; rfl)
    | (simp only [k2, pure_bind])
    | exact k2
theorem clos_sub {env : Env} : ∀ (names : List (Str × NameKind)) (acc : List (Str × Addr)), (∀ y c, acc.lookup y = some c → env.cells.lookup y = some c) → ∀ y c, (closOf env names acc).lookup y = some c → env.cells.lookup y = some c
  | [], acc, h, y, c, e => h y c e
  | (n, k) :: r, acc, h, y, c, e => by
    refine clos_sub r _ (fun z d ez => ?_) y c e
    by_cases hk : (k == NameKind.free) = true
    · rw [if_pos hk] at ez
      cases q : env.cells.lookup n with
      | none => rw [q] at ez; exact h z d ez
      | some c' =>
        rw [q] at ez
        dsimp only at ez
        rw [List.lookup_cons] at ez
        cases hz : z == n with
        | true => rw [hz] at ez; cases ez; rw [eq_of_beq hz]; exact q
        | false => rw [hz] at ez; exact h z d ez
    · rw [if_neg hk] at ez
      exact h z d ez
theorem clos_has {env : Env} : ∀ (names : List (Str × NameKind)) (acc : List (Str × Addr)) (y : Str), ((∃ c, acc.lookup y = some c) ∨ ((y, NameKind.free) ∈ names ∧ ∃ c, env.cells.lookup y = some c)) → ∃ c, (closOf env names acc).lookup y = some c
  | [], acc, y, h => by
    rcases h with h | ⟨h, _⟩
    · exact h
    · cases h
  | (n, k) :: r, acc, y, h => by
    refine clos_has r _ y ?_
    rcases h with ⟨c, h⟩ | ⟨h, c, hc⟩
    · left
      by_cases hk : (k == NameKind.free) = true
      · rw [if_pos hk]
        cases q : env.cells.lookup n with
        | none => exact ⟨c, h⟩
        | some c' =>
          dsimp only
          rw [List.lookup_cons]
          cases hz : y == n with
          | true => exact ⟨c', rfl⟩
          | false => exact ⟨c, h⟩
      · rw [if_neg hk]; exact ⟨c, h⟩
    · rcases List.mem_cons.mp h with e | h
      · cases e
        left
        rw [if_pos (by rfl), hc]
        dsimp only
        exact ⟨c, by rw [List.lookup_cons, beq_self_eq_true]⟩
      · exact .inr ⟨h, c, hc⟩
end L3

end

section
set_option Elab.async false
set_option linter.all false
set_option maxRecDepth 100000
namespace L3
open PySem PySem.Spec L2
def mask {α : Type} : List Bool → List (Option α) → List (Option α)
  | _, [] => []
  | [], _ :: r => none :: mask [] r
  | k :: ks, o :: r => (if k then o else none) :: mask ks r
theorem mask_length {α : Type} : ∀ (ks : List Bool) (l : List (Option α)), (mask ks l).length = l.length
  | _, [] => by unfold mask; rfl
  | [], _ :: r => by unfold mask; simp [mask_length [] r]
  | k :: ks, o :: r => by unfold mask; simp [mask_length ks r]
theorem mask_get {α : Type} {v : α} : ∀ {ks : List Bool} {l : List (Option α)} {i : Nat}, (mask ks l)[i]? = some (some v) → ks[i]? = some true ∧ l[i]? = some (some v)
  | ks, [], i, h => by unfold mask at h; simp at h
  | [], o :: r, 0, h => by unfold mask at h; simp at h
  | [], o :: r, i + 1, h => by
    unfold mask at h
    have := (mask_get (ks := []) (l := r) (i := i) (by simpa using h)).1
    simp at this
  | k :: ks, o :: r, 0, h => by
    unfold mask at h
    cases k with
    | true => simpa using h
    | false => simp at h
  | k :: ks, o :: r, i + 1, h => by
    unfold mask at h
    have := mask_get (ks := ks) (l := r) (i := i) (by simpa using h)
    simpa using this
theorem mask_of {α : Type} {v : α} : ∀ {ks : List Bool} {l : List (Option α)} {i : Nat}, ks[i]? = some true → l[i]? = some (some v) → (mask ks l)[i]? = some (some v)
  | ks, [], i, _, h => by simp at h
  | [], o :: r, i, h, _ => by simp at h
  | k :: ks, o :: r, 0, h, e => by unfold mask; simp at h e; simp [h, e]
  | k :: ks, o :: r, i + 1, h, e => by
    unfold mask
    have := mask_of (ks := ks) (l := r) (i := i) (by simpa using h) (by simpa using e)
    simpa using this
def relK (env : Env) (n : Str) (k : NameKind) : NameKind := if (k == .free && env.scope.kind == .function && env.kindOf n == some .cell) then .cell else k
theorem lookup_relabel {env : Env} {y : Str} : ∀ (names : List (Str × NameKind)), (names.map fun (n, k) => if (k == NameKind.free && env.scope.kind == .function && env.kindOf n == some .cell) then (n, NameKind.cell) else (n, k)).lookup y = (names.lookup y).map (relK env y)
  | [] => rfl
  | (n, k) :: r => by
    have ih := lookup_relabel (env := env) (y := y) r
    rw [List.map_cons, List.lookup_cons]
    by_cases hc : (k == NameKind.free && env.scope.kind == .function && env.kindOf n == some .cell) = true
    · rw [if_pos hc, List.lookup_cons]
      cases hy : y == n with
      | true =>
        have e : y = n := eq_of_beq hy
        subst e
        simp [relK, hc]
      | false => exact ih
    · rw [if_neg hc, List.lookup_cons]
      cases hy : y == n with
      | true =>
        have e : y = n := eq_of_beq hy
        subst e
        simp [relK, hc]
      | false => exact ih
structure CompSc (osc : Scope) (N : List Str) (scope : Scope) (x : Str) (ks : List Bool) : Prop where
  kind : scope.kind = .function
  nocell : ∀ y ∈ scope.names, y.2 ≠ .cell
  names : ∀ y ∈ scope.names, y.2 = .local → scope.names.lookup y.1 = some .local
  loc : scope.names.lookup x = some .local
  free : ∀ y ∈ scope.names, y.2 = .free → osc.names.lookup y.1 = some .cell ∨ osc.names.lookup y.1 = some .free
  capB : ((ks.zip N).all fun p => !p.1 || decide (scope.names.lookup p.2 = some .free)) = true
theorem CompSc.cap {osc : Scope} {N : List Str} {scope : Scope} {x : Str} {ks : List Bool} (S : CompSc osc N scope x ks) : ∀ i < ks.length, ks[i]? = some true → ∀ y ∈ N[i]?, scope.names.lookup y = some .free := fun i _ hk y hy => by
  have h := List.all_eq_true.mp S.capB (true, y) (List.mem_of_getElem? (i := i) (by rw [List.getElem?_zip_eq_some]; exact ⟨hk, hy⟩))
  simpa using h
def cxC (X : Cx) (scope : Scope) (cl : List (Str × Addr)) (x : Str) (C : Addr) (pins : List (Addr × Obj)) (s : Shared) (H : Hp) (fp : List Addr) (E : Value → Shared → Prop) : Cx where
  prog := X.prog
  w := X.w
  K := X.K
  mg := X.mg
  base := X.base
  A := X.A
  N := x :: X.N
  s₀ := s
  H₀ := H
  env := compEnvC scope cl C X.env
  outer := X.stack
  stack := X.stack
  ex := fp
  fn := fun _ => false
  calm := X.calm
  pn := X.pn ++ pins
  xe := E
section
variable {X : Cx} {scope : Scope} {x : Str} {ks : List Bool} {pins : List (Addr × Obj)} {σ : L2.St} {H : Hp} {s s4 : Shared} {fp : List Addr} {E : Value → Shared → Prop} {h1 : Heap}
theorem mem_lookup {α β : Type} [BEq α] [LawfulBEq α] : ∀ {l : List (α × β)} {a : α} {b : β}, l.lookup a = some b → (a, b) ∈ l
  | [], _, _, h => by simp at h
  | (a', b') :: r, a, b, h => by
    rw [List.lookup_cons] at h
    cases hz : a == a' with
    | true => rw [hz] at h; cases h; rw [eq_of_beq hz]; exact List.mem_cons_self
    | false => rw [hz] at h; exact List.mem_cons_of_mem _ (mem_lookup h)
theorem comp_vis (S : CompSc X.env.scope X.N scope x ks) {cl : List (Str × Addr)} {C : Addr} {y : Str} (h : (compEnvC scope cl C X.env).kindOf y = some .cell ∨ (compEnvC scope cl C X.env).kindOf y = some .free) : scope.names.lookup y = some .free := by
  have h' : (scope.names.lookup y).map (relK X.env y) = some .cell ∨ (scope.names.lookup y).map (relK X.env y) = some .free := by
    rw [← lookup_relabel]; exact h
  cases q : scope.names.lookup y with
  | none => rw [q] at h'; rcases h' with h' | h' <;> cases h'
  | some k =>
    rw [q] at h'
    cases k with
    | free => rfl
    | cell => exact absurd rfl (S.nocell _ (mem_lookup q))
    | _ => rcases h' with h' | h' <;> simp [relK] at h'
theorem comp_seen (S : CompSc X.env.scope X.N scope x ks) {cl : List (Str × Addr)} {C : Addr} {y : Str} (h : scope.names.lookup y = some .free) : (compEnvC scope cl C X.env).kindOf y = some .cell ∨ (compEnvC scope cl C X.env).kindOf y = some .free := by
  have e : (compEnvC scope cl C X.env).kindOf y = (scope.names.lookup y).map (relK X.env y) := lookup_relabel scope.names
  rw [e, h]
  unfold relK
  dsimp only [Option.map]
  split
  · exact .inl rfl
  · exact .inr rfl
theorem comp_local (S : CompSc X.env.scope X.N scope x ks) {cl : List (Str × Addr)} {C : Addr} : (compEnvC scope cl C X.env).kindOf x = some .local := by
  have e : (compEnvC scope cl C X.env).kindOf x = (scope.names.lookup x).map (relK X.env x) := lookup_relabel scope.names
  rw [e, S.loc]
  rfl
theorem comp_start (S : CompSc X.env.scope X.N scope x ks) (I : Inv X pins σ H s) (hf : ∀ b ∈ fp, FpOk X pins H b ∧ b < s.heap.objs.size) (hn : h1.Ns s.heap.objs.size fun _ => none) (hk : ∀ b o, s.heap.get? b = some o → h1.get? b = some o) (t : Nat) :
    Inv (cxC X scope (closOf X.env scope.names []) x s.heap.objs.size pins s H fp E) [] (none :: mask ks σ) H { s with heap := h1, toks := t } := by
  have cs : ∀ y c, (closOf X.env scope.names []).lookup y = some c → X.env.cells.lookup y = some c := clos_sub scope.names [] fun y c e => by simp at e
  have lt : ∀ b o, s.heap.get? b = some o → b ≠ s.heap.objs.size := fun b o e => Nat.ne_of_lt (Heap.lt_size e)
  have celllt : ∀ y c, X.env.cells.lookup y = some c → ∃ v, s.heap.IsCell c v := fun y c e => I.cell y c e
  have fsSub : ∀ b, b ≠ X.env.locals → b ∉ X.fs → b ∉ frs X.stack := fun b h1 h2 h3 => (List.mem_cons.mp (I.stkSub b h3)).elim h1 h2
  refine ⟨⟨I.ok.mod, ?_, I.ok.glob, I.ok.blt, Nat.le_refl _, fun y z c e1 e2 => I.ok.inj y z c (cs y c e1) (cs z c e2), fun y hy => ?_, fun y c h _ => absurd (show false = true from h) Bool.false_ne_true, I.ok.hd, I.ok.frames, .inl rfl, fun b hb => ⟨Nat.ne_of_lt (hf b hb).2, fun y c e => (hf b hb).1.2.2.2.2.1 y c (cs y c e)⟩, I.bs,
      Nat.le_trans I.ok.bsz I.sz, fun b o e hb => ?_, fun b hb => fsSub b (hf b hb).1.2.1 (hf b hb).1.2.2.1, I.stack, I.stkFree⟩, rfl, I.bare, Un.kept hk, ⟨_, hn, fun i y v e1 e2 e3 => ?_⟩, fun y c e => ?_, I.hok.fresh (Nat.le_refl _), fun y c e => I.freeC y c (cs y c e), fun p hp => ?_, I.hok.kept hk, ?_⟩
  · show (relabel scope X.env).kind = .function
    exact S.kind
  · have hfree := comp_vis S hy
    have hm := mem_lookup hfree
    refine clos_has scope.names [] y (.inr ⟨hm, ?_⟩)
    exact I.ok.has y (S.free _ hm rfl)
  · rcases (hf b hb).1.2.2.2.1 with z | z
    · exact I.ok.noex b o e z
    · exact absurd (Nat.lt_of_lt_of_le (Heap.lt_size (I.ok.bs b o e).1) z) (Nat.lt_irrefl _)
  · cases i with
    | zero => simp at e2
    | succ i =>
      have e2' : (mask ks σ)[i]? = some (some v) := by simpa using e2
      obtain ⟨hks, eσ⟩ := mask_get e2'
      have e1' : X.N[i]? = some y := by
        have : (x :: X.N)[i + 1]? = some y := e1
        simpa using this
      have hfree : scope.names.lookup y = some .free := S.cap i (List.getElem?_eq_some_iff.mp hks).1 hks y (by rw [e1']; rfl)
      obtain ⟨m, hm, hl⟩ := I.loc
      have hkind := S.free _ (mem_lookup hfree) rfl
      obtain ⟨u, r, l⟩ := hl i y v e1' eσ (hkind.elim (fun z => .inr (.inl z)) fun z => .inr (.inr z))
      refine ⟨u, r, .inr ⟨comp_seen S hfree, ?_⟩⟩
      rcases l with ⟨k, _⟩ | ⟨k, c, ec, hc⟩
      · have k' : X.env.scope.names.lookup y = some .local := k
        rcases hkind with z | z <;> (rw [k'] at z; cases z)
      · obtain ⟨c', ec'⟩ := clos_has (env := X.env) scope.names [] y (.inr ⟨mem_lookup hfree, c, ec⟩)
        have := cs y c' ec'
        rw [ec] at this; cases this
        exact ⟨c, ec', hc.keeps hk⟩
  · obtain ⟨v, hc⟩ := celllt y c (cs y c e)
    exact ⟨v, hc.keeps hk⟩
  · have hp' : p ∈ X.pn ++ pins := by
      have : p ∈ (X.pn ++ pins) ++ [] := hp
      simpa using this
    obtain ⟨e, n, ne, nf, d⟩ := I.pin p hp'
    exact ⟨hk _ _ e, n, lt _ _ e, fsSub _ ne nf, d⟩
  · show (none :: mask ks σ).length = (x :: X.N).length
    simp [mask_length, I.len]
/-- the target is stored -/
theorem comp_store {Xc : Cx} {cl : List (Str × Addr)} {C : Addr} {σ0 : L2.St} {a0 : Option V} {v : V} {u : Value} {A' : Around} {Q : Unit → Shared → Prop} {E' : Value → Shared → Prop} {M' : Model} {px : Pos} {s0 : Shared} {H0 H1 : Hp} {s1 : Shared}
    (S : CompSc X.env.scope X.N scope x ks) (e : Xc = cxC X scope cl x C pins s0 H0 fp E) (I : Inv Xc [] (a0 :: mask ks σ0) H1 s1) (r : RelV v u) (h : ∀ s', Inv Xc [] (some v :: mask ks σ0) H1 s' → Heap.SameBut C s1.heap s'.heap → Q () s') :
    wpAny M' A' (assign (.Name x px) Xc.env u) Q E' s1 := by
  subst e
  obtain ⟨m, hn, hl⟩ := id I.loc
  have hkl := comp_local (cl := cl) (C := C) S
  refine wpAny_assign_Name (wpAny_storeName_local hkl hn (fun h' hn' hs => ?_) (by rw [show (cxC X scope cl x C pins s0 H0 fp E).env.scope.kind = .function from S.kind]; rfl))
  refine h _ ?_ hs
  have neL : ∀ b o, s0.heap.get? b = some o → b ≠ C := fun b o e => Nat.ne_of_lt (Nat.lt_of_lt_of_le (Heap.lt_size e) I.ok.above)
  obtain ⟨oL, _, _, hoL, _⟩ := id hn
  have hfree : H1 C = none := I.free
  refine ⟨I.ok, I.os, I.bare, ⟨fun b o e n hb hx => ?_, fun b o e n hb hx => ?_, I.base.free, fun b o e hx => ?_, I.base.tups, I.base.frzs, I.base.tbls⟩, ⟨_, hn', fun j y v' e1 e2 e3 => ?_⟩, fun y c e => ?_, I.free, I.freeC, fun p hp => ?_, fun b ob e => ?_, by simpa using I.len⟩
  · exact (hs.2 b (neL b o e)).trans (I.base.keep b o e n hb hx)
  · obtain ⟨sl, e1⟩ := I.base.slot b o e n hb hx
    exact ⟨sl, (hs.2 b (neL b o e)).trans e1⟩
  · obtain ⟨o', e1⟩ := I.base.there b o e hx
    exact ⟨o', (hs.2 b (neL b o e)).trans e1⟩
  · cases j with
    | zero =>
      have ey : x = y := by
        have : (x :: X.N)[0]? = some y := e1
        simpa using this
      subst ey
      have ev : v = v' := by simpa using e2
      subst ev
      exact ⟨u, r, .inl ⟨hkl, by simp⟩⟩
    | succ j =>
      have e2' : (mask ks σ0)[j]? = some (some v') := by simpa using e2
      obtain ⟨u', r', q⟩ := hl (j + 1) y v' e1 (by simpa using e2') e3
      refine ⟨u', r', ?_⟩
      rcases q with ⟨k, e⟩ | ⟨k, c, e, z⟩
      · obtain ⟨hks, _⟩ := mask_get e2'
        have e1' : X.N[j]? = some y := by
          have : (x :: X.N)[j + 1]? = some y := e1
          simpa using this
        have hfr : scope.names.lookup y = some .free := S.cap j (List.getElem?_eq_some_iff.mp hks).1 hks y (by rw [e1']; rfl)
        rcases comp_seen (cl := cl) (C := C) S hfr with z | z
        · have k' : (compEnvC scope cl C X.env).kindOf y = some .local := k
          rw [k'] at z; cases z
        · have k' : (compEnvC scope cl C X.env).kindOf y = some .local := k
          rw [k'] at z; cases z
      · exact .inr ⟨k, c, e, z.sameBut hs (I.cne y c e)⟩
  · obtain ⟨w', z⟩ := I.cell y c e
    exact ⟨w', z.sameBut hs (I.cne y c e)⟩
  · obtain ⟨e, n, ne, nf, d⟩ := I.pin p hp
    exact ⟨(hs.2 p.1 ne).trans e, n, ne, nf, d⟩
  · refine (I.hok b ob e).stay (fun c w' hc q => (hs.2 c ?_).trans q) (fun _ q => q) fun _ _ q => q
    intro ec
    rcases hc with hc | hc
    · have : H1 C = some ob := by rw [← (show c = C from ec), hc]; exact e
      rw [hfree] at this; cases this
    · have : H1 C = some (.own b) := by rw [← (show c = C from ec)]; exact hc
      rw [hfree] at this; cases this
end
end L3

end

section
set_option Elab.async false
set_option linter.all false
set_option maxRecDepth 100000
namespace L3
open PySem PySem.Spec L2
/-- the tests of a comprehension -/
def CT (X : Cx) (ifs : List Expr) (tt : TT) : Prop := ∀ (pins : List (Addr × Obj)) (s : Shared) (σ : L2.St) (H : Hp) (Q : Bool → Hp → Prop), Inv X pins σ H s → tt σ H Q →
  wpAny (model X.prog X.w) X.A (forIn ifs true fun c r => if r = true then do let ok ← isTrue c X.env (eval c X.env); pure (ForInStep.yield ok) else pure (ForInStep.yield r)) (TP X pins σ Q) X.xe s
theorem ct_nil {X : Cx} : CT X [] (fun _ H Q => Q true H) := fun _ _ _ H _ I h => wpAny_tests_nil ⟨H, I, h⟩
theorem ct_one {X : Cx} {c : Expr} {t : TT} (h : PT X c t) : CT X [c] t := fun pins s σ H Q I q => wpAny_tests_one (h pins s σ H Q I q)
def tComp (wi : TI) (ks : List Bool) (tt : TT) (te : TE) : TE := fun σ H Q => wi σ H fun J H1 => ∀ D, H1 D = none → ∃ W : Nat → Nat → Hp → Prop, (∃ m, W 0 m (upd H1 D (.lst []))) ∧ ∀ i m H, W i m H →
   (J.stop i H ∧ Q (.ref D) H) ∨ (J.go i H ∧ ∀ x H', J.yld i H x H' → tt (some x :: mask ks σ) H' fun b H2 => if b = true then te (some x :: mask ks σ) H2 fun v H3 => ∃ ys, H3 D = some (.lst ys) ∧ ys.length < sizeLine ∧ ∃ m', m' < m ∧ W (i + 1) m' (upd H3 D (.lst (ys ++ [v]))) else ∃ m', m' < m ∧ W (i + 1) m' H2)
section
variable {X : Cx} {scope : Scope} {x : Str} {ks : List Bool} {pins : List (Addr × Obj)} {σ : L2.St} {H : Hp} {s s4 : Shared} {fp : List Addr} {E : Value → Shared → Prop} {h1 : Heap} {elt iter : Expr} {ifs : List Expr} {px pos : Pos} {tt : TT} {te : TE} {wi : TI}
theorem env_eq {cl : List (Str × Addr)} {C : Addr} : ({ newEnv scope C X.env.globals cl X.env.qual none .none (some X.env) 0 with scope := relabel scope X.env } : Env) = compEnvC scope cl C X.env := rfl
theorem comp_block {Q : VK} {J : It} {it : Addr} {tn : Nat → Heap → Prop} {RR : Value → Addr → Result → Shared → Prop} (S : CompSc X.env.scope X.N scope x ks) (hc : X.calm = true) (I : Inv X pins σ H s)
    (T : Turn X.prog X.w X.K (.Name x px) J fp it tn) (st : tn 0 s.heap) (hf : ∀ b ∈ fp, FpOk X pins H b)
    (hb : ∀ (cl : List (Str × Addr)) (C : Addr) (pins : List (Addr × Obj)) (s0 : Shared) (H0 : Hp) (fp : List Addr), CT (cxC X scope cl x C pins s0 H0 fp fun _ _ => False) ifs tt ∧ PE (cxC X scope cl x C pins s0 H0 fp fun _ _ => False) elt te)
    (hw : ∀ D, H D = none → ∃ W : Nat → Nat → Hp → Prop, (∃ m, W 0 m (upd H D (.lst []))) ∧ ∀ i m H, W i m H →
      (J.stop i H ∧ Q (.ref D) H) ∨ (J.go i H ∧ ∀ x H', J.yld i H x H' → tt (some x :: mask ks σ) H' fun b H2 => if b = true then te (some x :: mask ks σ) H2 fun v H3 => ∃ ys, H3 D = some (.lst ys) ∧ ys.length < sizeLine ∧ ∃ m', m' < m ∧ W (i + 1) m' (upd H3 D (.lst (ys ++ [v]))) else ∃ m', m' < m ∧ W (i + 1) m' H2))
    (hRR : ∀ (D C : Addr) (s' : Shared) (H' : Hp) (m : Str → Option Value), Inv X pins σ H' s' → s'.heap.Ns C m → H' C = none → C ≠ X.env.locals → X.s₀.heap.objs.size ≤ C → (∀ x c, X.env.cells.lookup x = some c → c ≠ C) → (∀ p ∈ X.pn ++ pins, p.1 ≠ C) → Q (.ref D) H' → RR (.ref D) C (.ok .next) s') :
    wpAny (model X.prog X.w) X.A (newList []) (fun acc s₃ => wpAny (model X.prog X.w) X.A (newFunctionEnv scope X.env.globals (closOf X.env scope.names []) [] X.env.qual none .none (some X.env)) (fun cenv s₄ =>
      codeAny (model X.prog X.w) X.A (.compStart (.ListComp elt [⟨.Name x px, iter, ifs, 0⟩] scope pos) 0 (.ref it) acc { cenv with scope := relabel scope X.env }) (RR acc cenv.locals) s₄) E s₃) E s := by
  refine wpAny_newObj_type (wpAny_newFunctionEnv S.nocell (by intro y hy; simp at hy) (fun h₁ hns₁ hsb₁ => ?_) S.kind)
  -- the accumulator
  have I3 : Inv X pins σ (upd H s.heap.objs.size (.lst [])) { s with heap := s.heap.push { cls := .type "list", dict := none, data := .seq ([] : List Value).toArray } } :=
    I.laid (t' := s.toks) (fun b o e => Heap.get?_push_of_some _ e) (Nat.le_refl _) ⟨Nat.zero_le _, [], 0, .nil, Heap.get?_push_size _ rfl⟩
  have hfree := I.hok.fresh (Nat.le_refl s.heap.objs.size)
  generalize hs3 : ({ s with heap := s.heap.push { cls := .type "list", dict := none, data := .seq ([] : List Value).toArray } } : Shared) = s3 at I3 hns₁ hsb₁ ⊢
  have hsz : s3.heap.objs.size = s.heap.objs.size + 1 := by rw [← hs3]; exact Heap.size_push ..
  have old3 : ∀ b o, s.heap.get? b = some o → s3.heap.get? b = some o := fun b o e => by rw [← hs3]; exact Heap.get?_push_of_some _ e
  have fplt : ∀ b ∈ fp, b < s.heap.objs.size := fun b hb' => by
    obtain ⟨o, e, _⟩ := T.obj 0 _ st b hb'
    exact Heap.lt_size e
  have f3 : ∀ b ∈ fp, FpOk X pins (upd H s.heap.objs.size (.lst [])) b ∧ b < s3.heap.objs.size := fun b hb' =>
    ⟨⟨by rw [upd_ne (Nat.ne_of_lt (fplt b hb'))]; exact (hf b hb').1, (hf b hb').2⟩, by rw [hsz]; exact Nat.lt_succ_of_lt (fplt b hb')⟩
  have keep1 : ∀ b o, s3.heap.get? b = some o → h₁.get? b = some o := fun b o e => hsb₁.extBut b o (Nat.ne_of_lt (Heap.lt_size e)) (Heap.get?_push_of_some _ e)
  obtain ⟨W, ⟨m0, w0⟩, turn⟩ := hw s.heap.objs.size hfree
  -- the block's own context
  generalize hX : cxC X scope (closOf X.env scope.names []) x s3.heap.objs.size pins s3 (upd H s.heap.objs.size (.lst [])) fp (fun _ _ => False) = Xc
  have I4 : Inv Xc [] (none :: mask ks σ) (upd H s.heap.objs.size (.lst [])) { s3 with heap := h₁, toks := s3.toks + ([] : List (Str × Value)).length } := by
    rw [← hX]
    exact comp_start S I3 f3 (by simpa using hns₁) keep1 _
  have hbe : CT Xc ifs tt ∧ PE Xc elt te := by rw [← hX]; exact hb _ _ _ _ _ _
  have eprog : Xc.prog = X.prog := by rw [← hX]; rfl
  have ew : Xc.w = X.w := by rw [← hX]; rfl
  have eK : Xc.K = X.K := by rw [← hX]; rfl
  have eA : Xc.A = X.A := by rw [← hX]; rfl
  have ecalm : Xc.calm = true := by rw [← hX]; exact hc
  have exe : Xc.xe = fun _ _ => False := by rw [← hX]; rfl
  have eenv : Xc.env = compEnvC scope (closOf X.env scope.names []) s3.heap.objs.size X.env := by rw [← hX]; rfl
  have estk : Xc.stack = X.stack := by rw [← hX]; rfl
  have fok : ∀ {H' : Hp}, (∀ b ∈ fp, H' b = none) → ∀ b ∈ fp, FpOk Xc [] H' b := fun {H'} hn b hb' => by
    obtain ⟨g0, g1, g2, g3, g4, g5⟩ := (f3 b hb').1
    rw [← hX]
    refine ⟨hn b hb', Nat.ne_of_lt (f3 b hb').2, fun z => (List.mem_cons.mp (I3.stkSub b z)).elim g1 g2, .inl hb', fun y c e => g4 y c (clos_sub scope.names [] (fun y c e => by simp at e) y c e), fun p hp => g5 p ?_⟩
    have : p ∈ (X.pn ++ pins) ++ [] := hp
    simpa using this
  -- the end
  have fin : ∀ (s' : Shared) (H' : Hp) (a0 : Option V), Inv Xc [] (a0 :: mask ks σ) H' s' → Q (.ref s.heap.objs.size) H' → RR (.ref s.heap.objs.size) s3.heap.objs.size (.ok .next) s' := fun s' H' a0 I' q => by
    have hloc := I'.loc
    obtain ⟨m, hm, _⟩ := hloc
    have hC : H' s3.heap.objs.size = none := by have := I'.free; rw [eenv] at this; exact this
    have hU : Un (frs X.stack) fp (upd H s.heap.objs.size (.lst [])) H' s3.heap s'.heap := by
      have := I'.base
      rw [← hX] at this
      exact this
    have hos : s'.os = s3.os := by have := I'.os; rw [← hX] at this; exact this
    have hhok : HOk X.prog X.w H' s'.heap := by have := I'.hok; rw [← hX] at this; exact this
    have I5 : Inv X pins σ H' s' := I3.call' hos hU hhok I'.bare fun b hb' => by
      obtain ⟨g0, g1, g2, g3, g4, g5⟩ := (f3 b hb').1
      exact ⟨g3, g1, g4, g5⟩
    refine hRR _ _ s' H' m I5 (by rw [eenv] at hm; exact hm) hC (Nat.ne_of_gt I3.lt) (Nat.le_trans I3.sz (Nat.le_refl _)) (fun y c e z => ?_) (fun p hp z => ?_) q
    · obtain ⟨v, hv⟩ := I3.cell y c e
      exact absurd hv.lt (by rw [z]; exact Nat.lt_irrefl _)
    · exact absurd (Heap.lt_size (I3.pin p hp).1) (by rw [z]; exact Nat.lt_irrefl _)
  -- the loop
  have loop : codeAny (model X.prog X.w) X.A (.compLoop (.ListComp elt [⟨.Name x px, iter, ifs, 0⟩] scope pos) 0 (.ref it) (.ref s.heap.objs.size) Xc.env) (RR (.ref s.heap.objs.size) s3.heap.objs.size)
      { s3 with heap := h₁, toks := s3.toks + ([] : List (Str × Value)).length } := by
    refine codeAny_compLoop_tests (fun n s' => ∃ i a0 H', Inv Xc [] (a0 :: mask ks σ) H' s' ∧ tn i s'.heap ∧ (∀ b ∈ fp, H' b = none) ∧ W i n H') ?_ m0 ⟨0, none, _, I4, T.keep 0 _ _ st fun b hb' o e => keep1 b o (old3 b o e), fun b hb' => (f3 b hb').1.1, w0⟩
    rintro n s5 ⟨i, a0, H5, I5, st5, fr5, w5⟩
    rcases turn i n H5 w5 with ⟨stop, q⟩ | ⟨go, step⟩
    · have hd := T.done Xc eprog ew eK ecalm i [] s5 _ H5 (fun _ _ => False) I5 (fok fr5) st5 stop
      rw [eA] at hd
      refine wpAny_mono hd (fun r s6 hr => ?_) (fun _ _ z => False.elim z)
      obtain ⟨rfl, I6⟩ := hr
      exact fin s6 H5 a0 I6 q
    · have hd := T.item Xc eprog ew eK ecalm i [] s5 _ H5 (fun _ _ => False) I5 (fok fr5) st5 go
      rw [eA] at hd
      refine wpAny_mono hd (fun r s6 hr => ?_) (fun _ _ z => False.elim z)
      obtain ⟨u, rfl, h6⟩ := hr
      show wpAny (model X.prog X.w) X.A (pure () >>= fun _ => assign (.Name x px) Xc.env u) _ _ s6
      refine wpAny_bind (wpAny_mono h6 (fun _ s7 hq => ?_) (fun _ _ z => False.elim z))
      obtain ⟨v, H7, I7, r7, y7, st7, fr7⟩ := hq
      refine comp_store (Xc := Xc) (x := x) S hX.symm I7 r7 fun s8 I8 sb8 => ?_
      have st8 : tn (i + 1) s8.heap := T.keep _ _ _ st7 fun b hb' o e => (sb8.2 b (Nat.ne_of_lt (f3 b hb').2)).trans e
      -- the iterator's records are pinned while tests and element run
      have I8' : Inv Xc (pinsAt fp s8.heap) (some v :: mask ks σ) H7 s8 := by
        have := Inv.pinned (pins := []) I8 (fok fr7) (T.obj _ _ st8)
        simpa using this
      have back : ∀ {σ' : L2.St} {H' : Hp} {s' : Shared}, Inv Xc (pinsAt fp s8.heap) σ' H' s' → Inv Xc [] σ' H' s' ∧ tn (i + 1) s'.heap ∧ ∀ b ∈ fp, H' b = none := fun {σ' H' s'} I' => by
        refine ⟨I'.pins_of fun p hp => absurd hp (by simp), T.keep _ _ _ st8 fun b hb' o e => (I'.pin (b, o) (List.mem_append_right _ (mem_pinsAt hb' e))).1, fun b hb' => ?_⟩
        obtain ⟨o, e, d⟩ := T.obj _ _ st8 b hb'
        exact (I'.pin (b, o) (List.mem_append_right _ (mem_pinsAt hb' e))).2.1
      have ht := hbe.1 _ s8 _ H7 _ I8' (step v H7 y7)
      rw [eprog, ew, eA, exe] at ht
      refine wpAny_mono ht (fun okb s9 h9 => ?_) (fun _ _ z => False.elim z)
      obtain ⟨H9, I9, q9⟩ := h9
      cases okb with
      | false =>
        rw [if_neg Bool.false_ne_true] at q9 ⊢
        obtain ⟨m', hm', w'⟩ := q9
        obtain ⟨I9', st9, fr9⟩ := back I9
        exact ⟨m', hm', i + 1, some v, H9, I9', st9, fr9, w'⟩
      | true =>
        rw [if_pos rfl] at q9 ⊢
        have he := hbe.2 _ s9 _ H9 _ I9 q9
        rw [eprog, ew, eA, exe] at he
        refine wpAny_mono he (fun y s10 h10 => ?_) (fun _ _ z => False.elim z)
        obtain ⟨yv, H10, I10, r10, ys, hD, hlen, m', hm', w'⟩ := h10
        have ha := mt_append (X := Xc) _ s10 _ H10 (.ref s.heap.objs.size) [yv] (.ref s.heap.objs.size) [y] (fun _ H' => ∃ m', m' < n ∧ W (i + 1) m' H') I10 rfl (.cons r10 .nil) ⟨_, ys, yv, rfl, rfl, hD, hlen, m', hm', w'⟩
        rw [eprog, ew, eA, exe] at ha
        refine wpAny_mono ha (fun _ s11 h11 => ?_) (fun _ _ z => False.elim z)
        obtain ⟨_, H11, I11, _, m'', hm'', w''⟩ := h11
        obtain ⟨I11', st11, fr11⟩ := back I11
        exact ⟨m'', hm'', i + 1, some v, H11, I11', st11, fr11, w''⟩
  rw [eenv] at loop
  exact codeAny_compStart_list loop (T.self X.A 0 _ _ _ (T.keep 0 _ _ st fun b hb' o e => keep1 b o (old3 b o e)) loop)
/-- [elt for x in iter if ..] as a value -/
theorem pe_comp (S : CompSc X.env.scope X.N scope x ks) (hc : X.calm = true) (hi : PI X (.Name x px) iter wi)
    (hb : ∀ (cl : List (Str × Addr)) (C : Addr) (pins : List (Addr × Obj)) (s0 : Shared) (H0 : Hp) (fp : List Addr), CT (cxC X scope cl x C pins s0 H0 fp fun _ _ => False) ifs tt ∧ PE (cxC X scope cl x C pins s0 H0 fp fun _ _ => False) elt te)
    (hs : ∀ x, foldedSetIterable iter X.env x = pure x := by intro _; rfl) : PE X (.ListComp elt [⟨.Name x px, iter, ifs, 0⟩] scope pos) (tComp wi ks tt te) := by
  intro pins s σ H Q I h
  rw [eval_ListComp]
  refine wpAny_comprehension_free (use := none) rfl hs (closureFor_eq fun y hy hfr => I.ok.has y.1 (S.free y hy hfr)) S.kind S.names (thn (hi pins s σ H _ I h) fun v s1 h1 => thn h1 fun itv s2 h2 => ?_)
  obtain ⟨it, fp, tn, J, H2, rfl, I2, T, st2, f2, q⟩ := h2
  refine comp_block (RR := fun acc C => compPost (model X.prog X.w) X.A X.xe none (EP X pins σ Q) acc C) S hc I2 T st2 f2 hb q ?_
  intro D C s' H' m I' hn hC h1 h2 h3 h4 q'
  refine ⟨m, hn, fun h' sb => ?_⟩
  exact ⟨.ref D, H', I'.turned (t' := s'.toks) (fun b o hb e => (sb.2 b hb).trans e) hC h1 (.inr h2) h3 h4, rfl, q'⟩
/-- y = [elt for x in iter if ..], y a plain local name: stored ahead of the block's end -/
theorem ps_comp {y : Str} {i : Nat} {py spos : Pos} (S : CompSc X.env.scope X.N scope x ks) (hc : X.calm = true) (hN : X.N.Nodup) (hi : PI X (.Name x px) iter wi) (hy : X.N[i]? = some y) (hl : X.env.scope.names.lookup y = some .local)
    (hsw : swapsWith (.ListComp elt [⟨.Name x px, iter, ifs, 0⟩] scope pos) (some (.Name y py)) spos.line X.env = pure true)
    (hb : ∀ (cl : List (Str × Addr)) (C : Addr) (pins : List (Addr × Obj)) (s0 : Shared) (H0 : Hp) (fp : List Addr), CT (cxC X scope cl x C pins s0 H0 fp fun _ _ => False) ifs tt ∧ PE (cxC X scope cl x C pins s0 H0 fp fun _ _ => False) elt te)
    (hs : ∀ x, foldedSetIterable iter X.env x = pure x := by intro _; rfl) : PS X (.Assign [.Name y py] (.ListComp elt [⟨.Name x px, iter, ifs, 0⟩] scope pos) spos) (tAsg (tComp wi ks tt te) (gName i)) := by
  intro pins s σ H Dd I h
  rw [exec_Assign_Name_used _ _ _ _ hsw]
  refine wpAny_bind (wpAny_standAt (wpAny_bind ?_))
  show wpAny _ X.A (do let _ ← comprehension (.ListComp elt [⟨.Name x px, iter, ifs, 0⟩] scope pos) scope X.env _ (newList []) false (eval iter X.env) (some (assign (.Name y py) X.env))) _ _ s
  refine wpAny_bind (wpAny_mono (wpAny_comprehension_free (use := some (assign (.Name y py) X.env)) (Q := fun _ s' => SP X pins Dd .next s') rfl hs (closureFor_eq fun y hy hfr => I.ok.has y.1 (S.free y hy hfr)) S.kind S.names
    (thn (hi pins s σ H _ I h) fun v s1 h1 => thn h1 fun itv s2 h2 => ?_)) (fun _ s' hq => wpAny_pure (wpAny_pure hq)) fun _ _ e => e)
  obtain ⟨it, fp, tn, J, H2, rfl, I2, T, st2, f2, q⟩ := h2
  refine comp_block (Q := fun v H' => Dd.nx (σ.set i (some v)) H') (RR := fun acc C => compPost (model X.prog X.w) X.A X.xe (some (assign (.Name y py) X.env)) (fun _ s' => SP X pins Dd .next s') acc C) S hc I2 T st2 f2 hb q ?_
  intro D C s' H' m I' hn hC h1 h2 h3 h4 q'
  show wpAny _ X.A (assign (.Name y py) X.env (.ref D)) _ _ s'
  refine wpAny_assign_Name (store_ok2 I' hN hy (.inl hl) (v := .ref D) (u := .ref D) rfl (fun s'' I'' sb => ?_) (.inr hl))
  obtain ⟨a, sb, ha⟩ := sb
  have hne : C ≠ a := by
    rcases ha with e | e
    · rw [e]; exact h1
    · exact fun z => h3 y a e z.symm
  refine ⟨m, hn.sameBut sb hne, fun h'' sb' => ?_⟩
  exact ⟨_, H', I''.turned (t' := s''.toks) (fun b o hb e => (sb'.2 b hb).trans e) hC h1 (.inr h2) h3 h4, q'⟩
end
end L3

end

section
set_option Elab.async false
set_option linter.all false
set_option maxRecDepth 100000
namespace L3
open PySem PySem.Spec L2
/-- one item of a comprehension: into the list of number n -/
def compOne (ks : List Bool) (tt : DS → M Bool) (te : DS → M D) (n : Nat) (d : D) (τ : DS) (G : DH) : Option DH := match tt (some d :: mask ks τ) G with
  | .ok true G1 => match te (some d :: mask ks τ) G1 with
    | .ok v G2 => match G2[n]? with
      | some (.lst ys) => if ys.length < sizeLine then some (G2.set n (.lst (ys ++ [v]))) else none
      | _ => none
    | _ => none
  | .ok false G1 => some G1
  | _ => none
def compP (ks : List Bool) (tt : DS → M Bool) (te : DS → M D) (n : Nat) : List D → DS → DH → Out D
  | [], _, G => .ok (.obj n) G
  | d :: r, τ, G => match compOne ks tt te n d τ G with
    | some G' => compP ks tt te n r τ G'
    | none => .stuck
def compO (ks : List Bool) (tt : DS → M Bool) (te : DS → M D) (n src : Nat) : Nat → Nat → DS → DH → Out D
  | 0, _, _, _ => .stuck
  | f + 1, k, τ, G => match G[src]? with
    | some (.lst xs) => match xs[k]? with
      | none => .ok (.obj n) G
      | some d => match compOne ks tt te n d τ G with
        | some G' => compO ks tt te n src f (k + 1) τ G'
        | none => .stuck
    | _ => .stuck
def eComp (ks : List Bool) (m : DS → M D) (tt : DS → M Bool) (te : DS → M D) : DS → M D := fun τ => (m τ).bind fun d G => match d with
  | .obj k => match G[k]? with
    | some (.lst xs) => compO ks tt te G.length k (xs.length + 1) 0 τ (G ++ [.lst []])
    | _ => .stuck
  | .tup xs => compP ks tt te G.length xs τ (G ++ [.lst []])
  | .con xs => compP ks tt te G.length xs τ (G ++ [.lst []])
  | .str z => compP ks tt te G.length (z.cps.toList.map fun c => .str ⟨#[c]⟩) τ (G ++ [.lst []])
  | _ => .stuck
def eCompR (rng : List D → Option (List D)) (ks : List Bool) (m : DS → M (List D)) (tt : DS → M Bool) (te : DS → M D) : DS → M D := fun τ => (m τ).bind fun ds G => match rng ds with
  | some xs => compP ks tt te G.length xs τ (G ++ [.lst []])
  | none => .stuck
section
variable {X : Cx} {EE : EXK} {ks : List Bool} {tt : DS → M Bool} {te : DS → M D}
theorem srep_mask {K : PySem.W.Frag} {mg : Str → Option Value} {σ : L2.St} {H : Hp} {τ : DS} {ρ : List Addr} {d : D} {v : V} (h : SRep K mg H ρ σ τ) (r : Rep K mg ρ H d v) : SRep K mg H ρ (some v :: mask ks σ) (some d :: mask ks τ) := by
  refine ⟨by simp [mask_length, h.1], fun i e he => ?_⟩
  cases i with
  | zero =>
    have : d = e := by simpa using he
    subst this
    exact ⟨v, rfl, r⟩
  | succ i =>
    have he' : (mask ks τ)[i]? = some (some e) := by simpa using he
    obtain ⟨h1, h2⟩ := mask_get he'
    obtain ⟨w, e1, r1⟩ := h.2 i e h2
    exact ⟨w, by simpa using mask_of h1 e1, r1⟩
/-- one turn -/
theorem comp_turn {W : Hp → Prop} {n : Nat} {p : Addr} {σ : L2.St} {H : Hp} {τ : DS} {ρ : List Addr} {G G' : DH} {d : D} {v : V} (ab : Ab X.K X.mg σ H τ ρ G) (r : Rep X.K X.mg ρ H d v) (hn : ρ[n]? = some p)
    (e : compOne ks tt te n d τ G = some G') (hW : ∀ H' ρ', Fut X.K H H' ρ ρ' → Ab X.K X.mg σ H' τ ρ' G' → W H') :
    liftT X.K X.mg EE0 tt (some v :: mask ks σ) H fun b H2 => if b = true then liftE X.K X.mg EE0 te (some v :: mask ks σ) H2 fun u H3 => ∃ ys, H3 p = some (.lst ys) ∧ ys.length < sizeLine ∧ W (upd H3 p (.lst (ys ++ [u]))) else W H2 := by
  refine ⟨_, ρ, G, ⟨srep_mask ab.st r, ab.hp⟩, ?_⟩
  unfold compOne at e
  cases q : tt (some d :: mask ks τ) G with
  | stuck => rw [q] at e; cases e
  | exn c G1 => rw [q] at e; cases e
  | ok b G1 =>
    rw [q] at e
    intro H1 ρ1 f1 ab1
    cases b with
    | false =>
      rw [if_neg Bool.false_ne_true]
      cases e
      exact hW H1 ρ1 f1 ⟨ab.st.mono f1, ab1.hp⟩
    | true =>
      rw [if_pos rfl]
      dsimp only at e
      refine ⟨_, ρ1, G1, ab1, ?_⟩
      cases q2 : te (some d :: mask ks τ) G1 with
      | stuck => rw [q2] at e; cases e
      | exn c G2 => rw [q2] at e; cases e
      | ok u G2 =>
        rw [q2] at e
        dsimp only at e
        intro w H2 ρ2 f2 ab2 r2
        cases q3 : G2[n]? with
        | none => rw [q3] at e; cases e
        | some o =>
          cases o with
          | lst ys =>
            rw [q3] at e
            dsimp only at e
            by_cases hl : ys.length < sizeLine
            · rw [if_pos hl] at e
              cases e
              obtain ⟨p', vs, e1, e2, rs⟩ := ab2.hp.lst q3
              have f12 := f1.trans f2
              rw [f12.get hn] at e1; cases e1
              refine ⟨vs, e2, by rw [← rs.length]; exact hl, ?_⟩
              have f3 : Fut X.K H2 (upd H2 p (.lst (vs ++ [w]))) ρ2 ρ2 := fut_set e2 ρ2
              exact hW _ ρ2 (f12.trans f3) ⟨ab.st.mono (f12.trans f3), ab2.hp.put (ds := ys) (f12.get hn) e2 (rs.append (.cons r2 .nil))⟩
            · rw [if_neg hl] at e; cases e
/-- the items ds as they come -/
theorem comp_items {Q : VK} {J : It} {H0 : Hp} {σ : L2.St} {ρ0 : List Addr} {G0 : DH} {τ : DS} (ds : List D)
    (go : ∀ i H ρ, i < ds.length → Fut X.K H0 H ρ0 ρ → J.go i H) (stop : ∀ i H ρ, ds.length ≤ i → Fut X.K H0 H ρ0 ρ → J.stop i H)
    (yld : ∀ i d H ρ x H', ds[i]? = some d → Fut X.K H0 H ρ0 ρ → J.yld i H x H' → H' = H ∧ Rep X.K X.mg ρ H d x)
    (ab : Ab X.K X.mg σ H0 τ ρ0 G0) (ok : OkE X.K X.mg EE H0 σ τ ρ0 (compP ks tt te G0.length ds τ (G0 ++ [.lst []])) Q) :
    ∀ D, H0 D = none → ∃ W : Nat → Nat → Hp → Prop, (∃ m, W 0 m (upd H0 D (.lst []))) ∧ ∀ i m H, W i m H →
      (J.stop i H ∧ Q (.ref D) H) ∨ (J.go i H ∧ ∀ x H', J.yld i H x H' → liftT X.K X.mg EE0 tt (some x :: mask ks σ) H' fun b H2 => if b = true then liftE X.K X.mg EE0 te (some x :: mask ks σ) H2 fun v H3 => ∃ ys, H3 D = some (.lst ys) ∧ ys.length < sizeLine ∧ ∃ m', m' < m ∧ W (i + 1) m' (upd H3 D (.lst (ys ++ [v]))) else ∃ m', m' < m ∧ W (i + 1) m' H2) := by
  intro D hD
  have f0 : Fut X.K H0 (upd H0 D (.lst [])) ρ0 (ρ0 ++ [D]) := (fut_new hD ρ0).trans (fut_more ρ0 D)
  have ab0 : Ab X.K X.mg σ (upd H0 D (.lst [])) τ (ρ0 ++ [D]) (G0 ++ [.lst []]) := ab.fut f0 (ab.hp.more hD .nil)
  have hn0 : (ρ0 ++ [D])[G0.length]? = some D := by rw [← ab.hp.hl, getElem?_concat_self]
  refine ⟨fun i m H => i ≤ ds.length ∧ m = ds.length - i ∧ ∃ ρ G, Ab X.K X.mg σ H τ ρ G ∧ Fut X.K H0 H ρ0 ρ ∧ ρ[G0.length]? = some D ∧ OkE X.K X.mg EE H σ τ ρ (compP ks tt te G0.length (ds.drop i) τ G) Q,
    ⟨ds.length, Nat.zero_le _, rfl, ρ0 ++ [D], _, ab0, f0, hn0, by simpa using ok.fut f0⟩, ?_⟩
  rintro i m H ⟨hi, rfl, ρ, G, ab, f, hn, ok⟩
  by_cases hlt : i < ds.length
  · refine .inr ⟨go i H ρ hlt f, fun x H' y => ?_⟩
    obtain ⟨rfl, rx⟩ := yld i ds[i] H ρ x H' (List.getElem?_eq_getElem hlt) f y
    rw [List.drop_eq_getElem_cons hlt] at ok
    unfold compP at ok
    cases e : compOne ks tt te G0.length ds[i] τ G with
    | none => rw [e] at ok; exact ok.elim
    | some G' =>
      rw [e] at ok
      exact comp_turn (W := fun H3 => ∃ m', m' < ds.length - i ∧ i + 1 ≤ ds.length ∧ m' = ds.length - (i + 1) ∧ ∃ ρ G, Ab X.K X.mg σ H3 τ ρ G ∧ Fut X.K H0 H3 ρ0 ρ ∧ ρ[G0.length]? = some D ∧ OkE X.K X.mg EE H3 σ τ ρ (compP ks tt te G0.length (ds.drop (i + 1)) τ G) Q)
        ab rx hn e fun H3 ρ3 f3 ab3 => ⟨ds.length - (i + 1), by omega, hlt, rfl, ρ3, G', ab3, f.trans f3, f3.get hn, ok.fut f3⟩
  · have e : i = ds.length := by omega
    subst e
    refine .inl ⟨stop _ H ρ (Nat.le_refl _) f, ?_⟩
    rw [List.drop_eq_nil_of_le (Nat.le_refl _)] at ok
    exact ok _ H ρ .refl ab (by unfold Rep; exact ⟨D, rfl, hn⟩)
theorem comp_obj {Q : VK} {H0 : Hp} {σ : L2.St} {ρ0 : List Addr} {G0 : DH} {τ : DS} {k fuel : Nat} {p : Addr} (hk : ρ0[k]? = some p)
    (ab : Ab X.K X.mg σ H0 τ ρ0 G0) (ok : OkE X.K X.mg EE H0 σ τ ρ0 (compO ks tt te G0.length k fuel 0 τ (G0 ++ [.lst []])) Q) :
    ∀ D, H0 D = none → ∃ W : Nat → Nat → Hp → Prop, (∃ m, W 0 m (upd H0 D (.lst []))) ∧ ∀ i m H, W i m H →
      ((Itl X.K p).stop i H ∧ Q (.ref D) H) ∨ ((Itl X.K p).go i H ∧ ∀ x H', (Itl X.K p).yld i H x H' → liftT X.K X.mg EE0 tt (some x :: mask ks σ) H' fun b H2 => if b = true then liftE X.K X.mg EE0 te (some x :: mask ks σ) H2 fun v H3 => ∃ ys, H3 D = some (.lst ys) ∧ ys.length < sizeLine ∧ ∃ m', m' < m ∧ W (i + 1) m' (upd H3 D (.lst (ys ++ [v]))) else ∃ m', m' < m ∧ W (i + 1) m' H2) := by
  intro D hD
  have f0 : Fut X.K H0 (upd H0 D (.lst [])) ρ0 (ρ0 ++ [D]) := (fut_new hD ρ0).trans (fut_more ρ0 D)
  have ab0 : Ab X.K X.mg σ (upd H0 D (.lst [])) τ (ρ0 ++ [D]) (G0 ++ [.lst []]) := ab.fut f0 (ab.hp.more hD .nil)
  have hn0 : (ρ0 ++ [D])[G0.length]? = some D := by rw [← ab.hp.hl, getElem?_concat_self]
  refine ⟨fun i m H => ∃ ρ G, Ab X.K X.mg σ H τ ρ G ∧ Fut X.K H0 H ρ0 ρ ∧ ρ[G0.length]? = some D ∧ OkE X.K X.mg EE H σ τ ρ (compO ks tt te G0.length k m i τ G) Q,
    ⟨fuel, ρ0 ++ [D], _, ab0, f0, hn0, ok.fut f0⟩, ?_⟩
  rintro i m H ⟨ρ, G, ab, f, hn, ok⟩
  cases m with
  | zero => exact ok.elim
  | succ m =>
    unfold compO at ok
    cases q : G[k]? with
    | none => rw [q] at ok; exact ok.elim
    | some o =>
      cases o with
      | lst ds =>
        rw [q] at ok
        dsimp only at ok
        obtain ⟨p', xs, e1, e2, rs⟩ := ab.hp.lst q
        rw [f.get hk] at e1; cases e1
        cases qd : ds[i]? with
        | none =>
          rw [qd] at ok
          have hl : xs.length ≤ i := by rw [← rs.length]; exact List.getElem?_eq_none_iff.mp qd
          exact .inl ⟨⟨xs, .of e2, hl⟩, ok _ H ρ .refl ab (by unfold Rep; exact ⟨D, rfl, hn⟩)⟩
        | some d =>
          rw [qd] at ok
          dsimp only at ok
          obtain ⟨x0, ex, rx⟩ := rs.get qd
          refine .inr ⟨⟨xs, x0, .of e2, ex⟩, fun x H' y => ?_⟩
          obtain ⟨rfl, y⟩ := y
          have e3 := y xs (.of e2)
          rw [ex] at e3; cases e3
          cases e : compOne ks tt te G0.length d τ G with
          | none => rw [e] at ok; exact ok.elim
          | some G' =>
            rw [e] at ok
            exact comp_turn (W := fun H3 => ∃ m', m' < m + 1 ∧ ∃ ρ G, Ab X.K X.mg σ H3 τ ρ G ∧ Fut X.K H0 H3 ρ0 ρ ∧ ρ[G0.length]? = some D ∧ OkE X.K X.mg EE H3 σ τ ρ (compO ks tt te G0.length k m' (i + 1) τ G) Q)
              ab rx hn e fun H3 ρ3 f3 ab3 => ⟨m, Nat.lt_succ_self _, ρ3, G', ab3, f.trans f3, f3.get hn, ok.fut f3⟩
variable {scope : Scope} {x : Str} {elt iter a b : Expr} {ifs : List Expr} {px pos : Pos} {m : DS → M D}
theorem comp_lift {σ : L2.St} {H : Hp} {Q : VK} (h : liftE X.K X.mg EE (eComp ks m tt te) σ H Q) :
    tComp (fun σ H R => liftE X.K X.mg EE m σ H fun x H1 => (∃ p, x = .ref p ∧ (∃ xs, SqL X.K H1 p xs) ∧ R (Itl X.K p) H1) ∨ (∃ p, x = .ref p ∧ (∃ xs, SqT X.K H1 p xs) ∧ R (Itt X.K p) H1) ∨ ∃ z, x = .str z ∧ R (Its z) H1) ks (liftT X.K X.mg EE0 tt) (liftE X.K X.mg EE0 te) σ H Q := by
  obtain ⟨τ, ρ, G, ab, ok⟩ := bindEE (k := fun τ d G => match d with
    | .obj k => match G[k]? with
      | some (.lst xs) => compO ks tt te G.length k (xs.length + 1) 0 τ (G ++ [.lst []])
      | _ => .stuck
    | .tup xs => compP ks tt te G.length xs τ (G ++ [.lst []])
    | .con xs => compP ks tt te G.length xs τ (G ++ [.lst []])
    | .str z => compP ks tt te G.length (z.cps.toList.map fun c => .str ⟨#[c]⟩) τ (G ++ [.lst []])
    | _ => .stuck) h
  refine ⟨τ, ρ, G, ab, ?_⟩
  cases e : m τ G with
  | stuck => rw [e] at ok; exact ok
  | exn c G' => rw [e] at ok; exact ok
  | ok d G' =>
    rw [e] at ok
    intro v H1 ρ1 f1 ab1 r1
    obtain ⟨τ2, ρ2, G2, d2, ab2, r2, ok2⟩ := ok v H1 ρ1 f1 ab1 r1
    cases d2 <;> try exact ok2.elim
    case obj n =>
      dsimp only at ok2
      unfold Rep at r2
      obtain ⟨p, rfl, e1⟩ := r2
      cases q : G2[n]? with
      | none => rw [q] at ok2; exact ok2.elim
      | some o =>
        cases o with
        | lst xs =>
          rw [q] at ok2
          obtain ⟨p', vs, e2, h2, rs⟩ := ab2.hp.lst q
          rw [e1] at e2; cases e2
          exact .inl ⟨p, rfl, ⟨vs, .of h2⟩, comp_obj e1 ab2 ok2⟩
    case tup xs =>
      unfold Rep at r2
      obtain ⟨p, vs, rfl, sq, rs⟩ := r2
      refine .inr (.inl ⟨p, rfl, ⟨vs, sq⟩, comp_items xs (fun i H' ρ' hi f => ?_) (fun i H' ρ' hi f => ?_) (fun i d' H' ρ' x H'' hd f y => ?_) ab2 ok2⟩)
      · rw [rs.length] at hi
        exact ⟨vs, vs[i], f.tup _ _ sq, List.getElem?_eq_getElem hi⟩
      · exact ⟨vs, f.tup _ _ sq, by rw [← rs.length]; exact hi⟩
      · obtain ⟨rfl, y⟩ := y
        obtain ⟨w', ew, rw'⟩ := rs.get hd
        have := y vs (f.tup _ _ sq)
        rw [ew] at this; cases this
        exact ⟨rfl, rw'.mono f⟩
    case con xs =>
      unfold Rep at r2
      obtain ⟨p, vs, rfl, sq, rs⟩ := r2
      refine .inl ⟨p, rfl, ⟨vs, sq.seq⟩, comp_items xs (fun i H' ρ' hi f => ?_) (fun i H' ρ' hi f => ?_) (fun i d' H' ρ' x H'' hd f y => ?_) ab2 ok2⟩
      · rw [rs.length] at hi
        exact ⟨vs, vs[i], (f.con _ _ sq).seq, List.getElem?_eq_getElem hi⟩
      · exact ⟨vs, (f.con _ _ sq).seq, by rw [← rs.length]; exact hi⟩
      · obtain ⟨rfl, y⟩ := y
        obtain ⟨w', ew, rw'⟩ := rs.get hd
        have := y vs (f.con _ _ sq).seq
        rw [ew] at this; cases this
        exact ⟨rfl, rw'.mono f⟩
    case str z =>
      unfold Rep at r2; subst r2
      refine .inr (.inr ⟨z, rfl, comp_items (z.cps.toList.map fun c => .str ⟨#[c]⟩) (fun i H' ρ' hi f => ?_) (fun i H' ρ' hi f => ?_) (fun i d' H' ρ' x H'' hd f y => ?_) ab2 ok2⟩)
      · simpa [Its] using hi
      · simpa [Its] using hi
      · obtain ⟨rfl, c, hc, rfl⟩ := y
        rw [List.getElem?_map] at hd
        have : z.cps.toList[i]? = some c := by simpa using hc
        rw [this] at hd
        cases hd
        exact ⟨rfl, by unfold Rep; rfl⟩
/-- the tests, the element, in every context of the block -/
def CompB (X : Cx) (scope : Scope) (x : Str) (ifs : List Expr) (elt : Expr) (tt : DS → M Bool) (te : DS → M D) : Prop :=
  ∀ (cl : List (Str × Addr)) (C : Addr) (pins : List (Addr × Obj)) (s0 : Shared) (H0 : Hp) (fp : List Addr), CT (cxC X scope cl x C pins s0 H0 fp fun _ _ => False) ifs (liftT X.K X.mg EE0 tt) ∧ QE (cxC X scope cl x C pins s0 H0 fp fun _ _ => False) EE0 elt te
def tYes : DS → M Bool := fun _ => M.ret true
theorem compB_nil (h : ∀ (cl : List (Str × Addr)) (C : Addr) (pins : List (Addr × Obj)) (s0 : Shared) (H0 : Hp) (fp : List Addr), QE (cxC X scope cl x C pins s0 H0 fp fun _ _ => False) EE0 elt te) : CompB X scope x [] elt tYes te :=
  fun cl C pins s0 H0 fp => ⟨fun pins' s σ H Q I ⟨τ, ρ, G, ab, ok⟩ => ct_nil pins' s σ H Q I (ok H ρ .refl ab), h cl C pins s0 H0 fp⟩
theorem compB_one {c : Expr} (h : ∀ (cl : List (Str × Addr)) (C : Addr) (pins : List (Addr × Obj)) (s0 : Shared) (H0 : Hp) (fp : List Addr), QT (cxC X scope cl x C pins s0 H0 fp fun _ _ => False) EE0 c tt ∧ QE (cxC X scope cl x C pins s0 H0 fp fun _ _ => False) EE0 elt te) : CompB X scope x [c] elt tt te :=
  fun cl C pins s0 H0 fp => ⟨ct_one (h cl C pins s0 H0 fp).1, (h cl C pins s0 H0 fp).2⟩
theorem qe_comp (S : CompSc X.env.scope X.N scope x ks) (hc : X.calm = true) (ha : QE X EE iter m) (hb : CompB X scope x ifs elt tt te) (hs : ∀ x, foldedSetIterable iter X.env x = pure x := by intro _; rfl) :
    QE X EE (.ListComp elt [⟨.Name x px, iter, ifs, 0⟩] scope pos) (eComp ks m tt te) := PE.mono (pe_comp (tt := liftT X.K X.mg EE0 tt) (te := liftE X.K X.mg EE0 te) S hc (PI.any ha) hb hs) fun _ _ _ h => comp_lift h
theorem qs_comp {y : Str} {i : Nat} {py spos : Pos} (S : CompSc X.env.scope X.N scope x ks) (hc : X.calm = true) (hN : X.N.Nodup) (ha : QE X EE iter m) (hb : CompB X scope x ifs elt tt te) (hy : X.N[i]? = some y := by rfl) (hl : X.env.scope.names.lookup y = some .local := by rfl)
    (hsw : swapsWith (.ListComp elt [⟨.Name x px, iter, ifs, 0⟩] scope pos) (some (.Name y py)) spos.line X.env = pure true := by rfl) (hs : ∀ x, foldedSetIterable iter X.env x = pure x := by intro _; rfl) :
    QS X EE (.Assign [.Name y py] (.ListComp elt [⟨.Name x px, iter, ifs, 0⟩] scope pos) spos) (sSet i (eComp ks m tt te)) := PS.mono (ps_comp (tt := liftT X.K X.mg EE0 tt) (te := liftE X.K X.mg EE0 te) S hc hN (PI.any ha) hy hl hsw hb hs) fun Dd σ H h => by
  obtain ⟨τ, ρ, G, ab, ok⟩ := h
  refine comp_lift (EE := EE) (Q := fun v H1 => gName i v σ H1 Dd.nx) ⟨τ, ρ, G, ab, ?_⟩
  dsimp only [sSet, sBind] at ok
  cases e : eComp ks m tt te τ G with
  | stuck => rw [e] at ok; exact ok
  | exn c G' => rw [e] at ok; exact fun H' ρ' f ab' => ok σ H' ρ' f ab'
  | ok d G' => rw [e] at ok; exact fun v H' ρ' f ab' r => ok _ H' ρ' f (ab'.set r)
/-! over a range -/
theorem rng_comp {Q : VK} {H0 : Hp} {σ : L2.St} {ρ0 : List Addr} {G0 : DH} {τ : DS} (lo : Int) (n : Nat) (ab : Ab X.K X.mg σ H0 τ ρ0 G0)
    (ok : OkE X.K X.mg EE H0 σ τ ρ0 (compP ks tt te G0.length ((List.range n).map fun (k : Nat) => .int (lo + (k : Int))) τ (G0 ++ [.lst []])) Q) :
    ∀ D, H0 D = none → ∃ W : Nat → Nat → Hp → Prop, (∃ m, W 0 m (upd H0 D (.lst []))) ∧ ∀ i m H, W i m H →
      ((Itr lo n).stop i H ∧ Q (.ref D) H) ∨ ((Itr lo n).go i H ∧ ∀ x H', (Itr lo n).yld i H x H' → liftT X.K X.mg EE0 tt (some x :: mask ks σ) H' fun b H2 => if b = true then liftE X.K X.mg EE0 te (some x :: mask ks σ) H2 fun v H3 => ∃ ys, H3 D = some (.lst ys) ∧ ys.length < sizeLine ∧ ∃ m', m' < m ∧ W (i + 1) m' (upd H3 D (.lst (ys ++ [v]))) else ∃ m', m' < m ∧ W (i + 1) m' H2) :=
  comp_items (J := Itr lo n) _ (fun i H ρ hi f => by simpa [Itr] using hi) (fun i H ρ hi f => by simpa [Itr] using hi) (fun i d H ρ x H' hd f y => by
    obtain ⟨rfl, rfl⟩ := y
    rw [List.getElem?_map] at hd
    cases q : (List.range n)[i]? with
    | none => rw [q] at hd; cases hd
    | some k =>
      rw [q] at hd
      obtain ⟨hk, e⟩ := List.getElem?_eq_some_iff.mp q
      rw [List.getElem_range] at e
      subst e
      cases hd
      exact ⟨rfl, by unfold Rep; rfl⟩) ab ok
variable {ma : DS → M (List D)}
theorem compR1_lift {σ : L2.St} {H : Hp} {Q : VK} (h : liftE X.K X.mg EE (eCompR rng1 ks ma tt te) σ H Q) : tComp (iRng1 (liftA X.K X.mg EE ma)) ks (liftT X.K X.mg EE0 tt) (liftE X.K X.mg EE0 te) σ H Q := by
  obtain ⟨τ, ρ, G, ab, ok⟩ := bindAE (k := fun τ ds G => match rng1 ds with | some xs => compP ks tt te G.length xs τ (G ++ [.lst []]) | none => .stuck) h
  refine ⟨τ, ρ, G, ab, ?_⟩
  cases e : ma τ G with
  | stuck => rw [e] at ok; exact ok
  | exn c G' => rw [e] at ok; exact ok
  | ok ds G' =>
    rw [e] at ok
    intro vs H1 ρ1 f1 ab1 r1
    obtain ⟨τ2, ρ2, G2, d2, ab2, r2, ok2⟩ := ok vs H1 ρ1 f1 ab1 r1
    cases q : rng1 d2 with
    | none => rw [q] at ok2; exact ok2.elim
    | some xs =>
      rw [q] at ok2
      unfold rng1 at q
      split at q
      · rename_i j
        split at q
        · rename_i hj
          cases q
          obtain ⟨v, rfl, h1⟩ := reps1 r2
          unfold Rep at h1; subst h1
          exact ⟨j, rfl, hj.1, hj.2, rng_comp 0 j.toNat ab2 ok2⟩
        · cases q
      · cases q
theorem compR2_lift {σ : L2.St} {H : Hp} {Q : VK} (h : liftE X.K X.mg EE (eCompR rng2 ks ma tt te) σ H Q) : tComp (iRng2 (liftA X.K X.mg EE ma)) ks (liftT X.K X.mg EE0 tt) (liftE X.K X.mg EE0 te) σ H Q := by
  obtain ⟨τ, ρ, G, ab, ok⟩ := bindAE (k := fun τ ds G => match rng2 ds with | some xs => compP ks tt te G.length xs τ (G ++ [.lst []]) | none => .stuck) h
  refine ⟨τ, ρ, G, ab, ?_⟩
  cases e : ma τ G with
  | stuck => rw [e] at ok; exact ok
  | exn c G' => rw [e] at ok; exact ok
  | ok ds G' =>
    rw [e] at ok
    intro vs H1 ρ1 f1 ab1 r1
    obtain ⟨τ2, ρ2, G2, d2, ab2, r2, ok2⟩ := ok vs H1 ρ1 f1 ab1 r1
    cases q : rng2 d2 with
    | none => rw [q] at ok2; exact ok2.elim
    | some xs =>
      rw [q] at ok2
      unfold rng2 at q
      split at q
      · rename_i i j
        split at q
        · rename_i hj
          cases q
          obtain ⟨v, w, rfl, h1, h2⟩ := reps2 r2
          unfold Rep at h1 h2; subst h1 h2
          exact ⟨i, j, rfl, hj, rng_comp i (j - i).toNat ab2 ok2⟩
        · cases q
      · cases q
theorem asg_lift {me : DS → M D} {t : TE} {i : Nat} (hl : ∀ σ H Q, liftE X.K X.mg EE me σ H Q → t σ H Q) {Dd : Ends} {σ : L2.St} {H : Hp} (h : liftS X.K X.mg EE (sSet i me) Dd σ H) : tAsg t (gName i) Dd σ H := by
  obtain ⟨τ, ρ, G, ab, ok⟩ := h
  refine hl σ H (fun v H1 => gName i v σ H1 Dd.nx) ⟨τ, ρ, G, ab, ?_⟩
  dsimp only [sSet, sBind] at ok
  cases e : me τ G with
  | stuck => rw [e] at ok; exact ok
  | exn c G' => rw [e] at ok; exact fun H' ρ' f ab' => ok σ H' ρ' f ab'
  | ok d G' => rw [e] at ok; exact fun v H' ρ' f ab' r => ok _ H' ρ' f (ab'.set r)
theorem qe_compR1 {p pc : Pos} (S : CompSc X.env.scope X.N scope x ks) (hc : X.calm = true) (hm : X.mg "range" = none) (ha : QA X EE [a] ma) (hb : CompB X scope x ifs elt tt te) (hgl : Gl X "range" := by rfl) (hst : starEach [a] X.env = [(false, eval a X.env)] := by rfl)
    (hs : ∀ x, foldedSetIterable (.Call (.Name "range" p) [a] [] pc) X.env x = pure x := by intro _; rfl) :
    QE X EE (.ListComp elt [⟨.Name x px, .Call (.Name "range" p) [a] [] pc, ifs, 0⟩] scope pos) (eCompR rng1 ks ma tt te) := PE.mono (pe_comp (tt := liftT X.K X.mg EE0 tt) (te := liftE X.K X.mg EE0 te) S hc (pi_range1 hgl hm ha hst) hb hs) fun _ _ _ h => compR1_lift h
theorem qe_compR2 {p pc : Pos} (S : CompSc X.env.scope X.N scope x ks) (hc : X.calm = true) (hm : X.mg "range" = none) (ha : QA X EE [a, b] ma) (hb : CompB X scope x ifs elt tt te) (hgl : Gl X "range" := by rfl) (hst : starEach [a, b] X.env = [(false, eval a X.env), (false, eval b X.env)] := by rfl) (hs2 : starEach [b] X.env = [(false, eval b X.env)] := by rfl)
    (hs : ∀ x, foldedSetIterable (.Call (.Name "range" p) [a, b] [] pc) X.env x = pure x := by intro _; rfl) :
    QE X EE (.ListComp elt [⟨.Name x px, .Call (.Name "range" p) [a, b] [] pc, ifs, 0⟩] scope pos) (eCompR rng2 ks ma tt te) := PE.mono (pe_comp (tt := liftT X.K X.mg EE0 tt) (te := liftE X.K X.mg EE0 te) S hc (pi_range2 hgl hm ha hst hs2) hb hs) fun _ _ _ h => compR2_lift h
theorem qs_compR1 {y : Str} {i : Nat} {py spos p pc : Pos} (S : CompSc X.env.scope X.N scope x ks) (hc : X.calm = true) (hN : X.N.Nodup) (hm : X.mg "range" = none) (ha : QA X EE [a] ma) (hb : CompB X scope x ifs elt tt te) (hy : X.N[i]? = some y := by rfl) (hl : X.env.scope.names.lookup y = some .local := by rfl)
    (hgl : Gl X "range" := by rfl) (hst : starEach [a] X.env = [(false, eval a X.env)] := by rfl)
    (hsw : swapsWith (.ListComp elt [⟨.Name x px, .Call (.Name "range" p) [a] [] pc, ifs, 0⟩] scope pos) (some (.Name y py)) spos.line X.env = pure true := by rfl) (hs : ∀ x, foldedSetIterable (.Call (.Name "range" p) [a] [] pc) X.env x = pure x := by intro _; rfl) :
    QS X EE (.Assign [.Name y py] (.ListComp elt [⟨.Name x px, .Call (.Name "range" p) [a] [] pc, ifs, 0⟩] scope pos) spos) (sSet i (eCompR rng1 ks ma tt te)) :=
  PS.mono (ps_comp (tt := liftT X.K X.mg EE0 tt) (te := liftE X.K X.mg EE0 te) S hc hN (pi_range1 hgl hm ha hst) hy hl hsw hb hs) fun _ _ _ h => asg_lift (fun _ _ _ h => compR1_lift h) h
theorem qs_compR2 {y : Str} {i : Nat} {py spos p pc : Pos} (S : CompSc X.env.scope X.N scope x ks) (hc : X.calm = true) (hN : X.N.Nodup) (hm : X.mg "range" = none) (ha : QA X EE [a, b] ma) (hb : CompB X scope x ifs elt tt te) (hy : X.N[i]? = some y := by rfl) (hl : X.env.scope.names.lookup y = some .local := by rfl)
    (hgl : Gl X "range" := by rfl) (hst : starEach [a, b] X.env = [(false, eval a X.env), (false, eval b X.env)] := by rfl) (hs2 : starEach [b] X.env = [(false, eval b X.env)] := by rfl)
    (hsw : swapsWith (.ListComp elt [⟨.Name x px, .Call (.Name "range" p) [a, b] [] pc, ifs, 0⟩] scope pos) (some (.Name y py)) spos.line X.env = pure true := by rfl) (hs : ∀ x, foldedSetIterable (.Call (.Name "range" p) [a, b] [] pc) X.env x = pure x := by intro _; rfl) :
    QS X EE (.Assign [.Name y py] (.ListComp elt [⟨.Name x px, .Call (.Name "range" p) [a, b] [] pc, ifs, 0⟩] scope pos) spos) (sSet i (eCompR rng2 ks ma tt te)) :=
  PS.mono (ps_comp (tt := liftT X.K X.mg EE0 tt) (te := liftE X.K X.mg EE0 te) S hc hN (pi_range2 hgl hm ha hst hs2) hy hl hsw hb hs) fun _ _ _ h => asg_lift (fun _ _ _ h => compR2_lift h) h
end
end L3

end

section
set_option Elab.async false
set_option linter.all false
set_option maxRecDepth 100000
namespace L3
open PySem PySem.Spec L2
theorem room200 {k : Nat} {A : Around} (r : Room k A) : A.units + 200 < cLine := by have := r.un; omega
/-- a def of the module as a value -/
theorem qe_fn {X : Cx} {EE : EXK} {x : Str} {f : Addr} {pos : Pos} (hm : X.mg x = some (.ref f)) (hg : Gl X x := by rfl) (hd : (x == ("__debug__" : Str)) = false := by decide) : QE X EE (.Name x pos) (eC (.fn x)) :=
  qe_C (pe_glob hg hm (v := .ref f) rfl hd) fun _ _ => by unfold Rep; exact ⟨f, rfl, hm⟩
/-- what law(script) promises -/
def spLaw (K : PySem.W.Frag) : Sp := fun vs H Q _ => ∃ (a : Addr) (ns : List Int), vs = [.ref a] ∧ SqC K H a (ns.map V.int) ∧ ns.length ≤ 63 ∧ ∀ H', Q (.bl true) H'
theorem sqC_of {K : PySem.W.Frag} {H : Hp} {a : Addr} {xs : List V} (hO : Only H) (h : SqL K H a xs) : SqC K H a xs := by
  rcases h with (h | ⟨o, h⟩) | h
  · rcases hO a with z | ⟨o, ys, z⟩
    · rw [h] at z; cases z
    · rw [h] at z; cases z
  · exact .inl ⟨o, h⟩
  · exact .inr h
theorem spLaw_of {K : PySem.W.Frag} {mg : Str → Option Value} {m : List D → M D} (hm : ∀ ns : List Int, ns.length ≤ 63 → ∃ G, m [.con (ns.map .int)] [] = .ok (.bl true) G) (vs : List V) (H : Hp) (Q : VK) (E : XK) (h : spLaw K vs H Q E) : spOf K mg 1 m vs H Q E := by
  obtain ⟨a, ns, rfl, sq, hl, q⟩ := h
  obtain ⟨G, e⟩ := hm ns hl
  refine ⟨[.con (ns.map .int)], [], [], rfl, ⟨rfl, List.nodup_nil, fun n o e => by simp at e⟩, .cons (by unfold Rep; exact ⟨a, _, rfl, sq, .ints ns⟩) .nil, ?_⟩
  rw [e]
  intro v H' ρ' _ _ r
  unfold Rep at r
  subst r
  exact q H'
end L3

end

section
set_option Elab.async false
set_option linter.all false
set_option maxRecDepth 100000
namespace L3
open PySem PySem.Spec L2
/-! ### side conditions by the head of an expression -/
def nostar : Expr → Bool
  | .Starred .. => false
  | _ => true
def plainT : Expr → Bool
  | .UnaryOp .Not _ _ => false
  | .BoolOp .. => false
  | .IfExp .. => false
  | .Compare .. => false
  | _ => true
def nofold : Expr → Bool
  | .Set .. => false
  | _ => true
def noswap : Expr → Bool
  | .ListComp .. => false
  | .SetComp .. => false
  | .DictComp .. => false
  | _ => true
def nobase : Expr → Bool
  | .Call (.Name _ _) [] [] _ => false
  | _ => true
def plainix : Expr → Bool
  | .Slice .. => false
  | _ => true
def nostars : List Expr → Bool
  | [] => true
  | e :: es => nostar e && nostars es
theorem star_of {e : Expr} (h : nostar e = true) (es : List Expr) (env : Env) : starEach (e :: es) env = (false, eval e env) :: starEach es env := by
  cases e <;> first | rfl | cases h
theorem isTrue_of {e : Expr} (h : plainT e = true) (env : Env) (whole : Sem Value) : isTrue e env whole = (do let v ← whole; standAt e.pos; holding [v] (truthy v)) := by
  cases e <;> first | rfl | cases h | (rename_i op _ _; cases op <;> first | rfl | cases h)
theorem fold_of {e : Expr} (h : nofold e = true) (env : Env) (x : Value) : foldedSetIterable e env x = pure x := by
  cases e <;> first | rfl | cases h
theorem swap_of {e : Expr} (h : noswap e = true) (t : Option Expr) (l : Nat) (env : Env) : swapsWith e t l env = pure false := by
  cases e <;> first | rfl | cases h
theorem base_of {e : Expr} (h : nobase e = true) (n : Str) (env : Env) : attributeBase e n env (eval e env) = eval e env := by
  unfold attributeBase
  split
  · cases h
  · rfl
theorem ix_of {e : Expr} (h : plainix e = true) : PlainIx e := fun o i => by
  cases e <;> first | rfl | cases h
theorem mark_of {e : Expr} (h : nofold e = true) (op : CmpOp) : behindInMarks op e = false := by
  cases e <;> first | rfl | cases h
theorem stars_any {env : Env} {pos : Pos} : ∀ {es : List Expr}, nostars es = true → (backTo pos (starEach es env)).any (·.1) = false
  | [], _ => rfl
  | e :: es, h => by
    have h' : nostar e = true ∧ nostars es = true := by simpa [nostars] using h
    rw [star_of h'.1]
    have ih := stars_any (env := env) (pos := pos) h'.2
    show (false || (backTo pos (starEach es env)).any (·.1)) = false
    rw [ih]; rfl
theorem stars_all {env : Env} {pos : Pos} : ∀ {es : List Expr}, nostars es = true → (backTo pos (starEach es env)).all (fun x => !x.1) = true
  | [], _ => rfl
  | e :: es, h => by
    have h' : nostar e = true ∧ nostars es = true := by simpa [nostars] using h
    rw [star_of h'.1]
    have ih := stars_all (env := env) (pos := pos) h'.2
    show (!false && (backTo pos (starEach es env)).all (fun x => !x.1)) = true
    rw [ih]; rfl
theorem few_of {env : Env} {pos : Pos} {es : List Expr} (h : nostars es = true) (hl : es.length < 30) : ((backTo pos (starEach es env)).all (fun x => !x.1) && (backToKw pos (keywordEach [] env)).all (fun x => x.1.isSome)
      && decide (es.length + ([] : List Keyword).length + (if ([] : List Keyword).isEmpty then 0 else 1) < 30)) = true := by
  rw [stars_all h]
  simp only [Bool.true_and, Bool.and_eq_true, decide_eq_true_eq]
  exact ⟨rfl, by simpa using hl⟩
/-! ### the rules again, with these -/
section
variable {X : Cx} {EE : EXK} {a b c e o : Expr} {es : List Expr} {ma mb mc me mo : DS → M D} {pos p apos cpos : Pos} {m : DS → M (List D)} {ms mt : MS} {x : Str} {ks : List Bool} {tt : DS → M Bool} {te : DS → M D}
theorem ra_cons {m : DS → M D} {r : DS → M (List D)} (ha : QE X EE e m) (hr : QA X EE es r) (h : nostar e = true := by rfl) : QA X EE (e :: es) (aCons m r) := qa_cons ha hr (star_of h _ _)
theorem re_var (i : Nat) (hv : Vis X.env.scope x) (hd : (x == ("__debug__" : Str)) = false ∧ (x == ("__classdict__" : Str)) = false) (hN : X.N[i]? = some x := by rfl) : QE X EE (.Name x pos) (eVar i) := qe_var i hN hv hd.1 hd.2
theorem re_glob {d : D} (h : GlobD X.K X.mg x d) (hg : Gl X x) (hd : (x == ("__debug__" : Str)) = false ∧ (x == ("__classdict__" : Str)) = false) : QE X EE (.Name x pos) (eC d) := qe_glob h hg hd.1
theorem re_fn {f : Addr} (hm : X.mg x = some (.ref f)) (hg : Gl X x) (hd : (x == ("__debug__" : Str)) = false ∧ (x == ("__classdict__" : Str)) = false) : QE X EE (.Name x pos) (eC (.fn x)) := qe_fn hm hg hd.1
theorem re_index (ha : QE X EE a ma) (hb : QE X EE b mb) (h : plainix b = true := by rfl) : QE X EE (.Subscript a b pos) (eOp dIx ma mb) := qe_index ha hb (ix_of h)
theorem re_in (hu : X.A.units + 200 < cLine) (ha : QE X EE a ma) (hb : QE X EE b mb) (h : nofold b = true := by rfl) : QE X EE (.Compare a [.In] [b] pos) (eOp (dIn false) ma mb) := qe_in hu ha hb (mark_of h _)
theorem re_notIn (hu : X.A.units + 200 < cLine) (ha : QE X EE a ma) (hb : QE X EE b mb) (h : nofold b = true := by rfl) : QE X EE (.Compare a [.NotIn] [b] pos) (eOp (dIn true) ma mb) := qe_notIn hu ha hb (mark_of h _)
theorem rt_cmp {op : CmpOp} {f : D → D → M D} (ho : OpR X (compareOp op) (rD X EE f)) (ha : QE X EE a ma) (hb : QE X EE b mb) (h : nofold b = true := by rfl) : QT X EE (.Compare a [op] [b] pos) (tBl (eOp f ma mb)) := qt_cmp ho ha hb (mark_of h _)
theorem rt_tru (ha : QE X EE a ma) (h : plainT a = true := by rfl) : QT X EE a (tTruth dTru ma) := qt_tru ha (isTrue_of h _)
theorem re_chain {op op' : CmpOp} {f g : D → D → M D} (ho : OpR X (compareOp op) (rD X EE f)) (ho' : OpR X (compareOp op') (rD X EE g)) (ha : QE X EE a ma) (hb : QE X EE b mb) (hc : QE X EE c mc) (h : nofold c = true := by rfl) : QE X EE (.Compare a [op, op'] [b, c] pos) (eChain f g ma mb mc) :=
  qe_chain ho ho' ha hb hc (by show behindInMarks op' c = false; exact mark_of h _)
theorem rt_chain {op op' : CmpOp} {f g : D → D → M D} (ho : OpR X (compareOp op) (rD X EE f)) (ho' : OpR X (compareOp op') (rD X EE g)) (ha : QE X EE a ma) (hb : QE X EE b mb) (hc : QE X EE c mc) (h : nofold c = true := by rfl) : QT X EE (.Compare a [op, op'] [b, c] pos) (tBl (eChain f g ma mb mc)) :=
  qt_chain ho ho' ha hb hc (by show behindInMarks op' c = false; exact mark_of h _)
theorem re_callB {id : String} {f : List D → M D} (hc : CallR X (.builtin id) (rCD X EE f)) (hm : X.mg x = none) (hg : Gl X x) (hv : bootBuiltins x = some (.builtin id)) (ha : QA X EE (e :: es) m) (hn : x ≠ "__name__" := by decide) (hdb : (x == ("__debug__" : Str)) = false := by decide) (h : nostars (e :: es) = true := by rfl) :
    QE X EE (.Call (.Name x p) (e :: es) [] pos) (eArgs f m) := by
  have h' : nostar e = true ∧ nostars es = true := by simpa [nostars] using h
  exact qe_callB hc callD_self hm ha hg hv hn hdb (star_of h'.1 _ _) (stars_any h'.2)
theorem re_callTy {id : String} {f : List D → M D} (hc : CallR X (.type id) (rCD X EE f)) (hm : X.mg x = none) (hg : Gl X x) (hv : bootBuiltins x = some (.type id)) (ha : QA X EE (e :: es) m) (hn : x ≠ "__name__" := by decide) (hdb : (x == ("__debug__" : Str)) = false := by decide) (h : nostars (e :: es) = true := by rfl) :
    QE X EE (.Call (.Name x p) (e :: es) [] pos) (eArgs f m) := by
  have h' : nostar e = true ∧ nostars es = true := by simpa [nostars] using h
  exact qe_callTy hc callD_self hm ha hg hv hn hdb (star_of h'.1 _ _) (stars_any h'.2)
theorem re_len (hm : X.mg "len" = none) (hg : Gl X "len") (ha : QA X EE [e] m) (h : nostars [e] = true := by rfl) : QE X EE (.Call (.Name "len" p) [e] [] pos) (eArgs dLen m) := re_callB call_lenD hm hg PySem.boot_len ha (by decide) (by decide) h
theorem re_all (hc : X.calm = true) (hm : X.mg "all" = none) (hg : Gl X "all") (ha : QA X EE [e] m) (h : nostars [e] = true := by rfl) : QE X EE (.Call (.Name "all" p) [e] [] pos) (eArgs (dAll false) m) := re_callB (call_allD hc) hm hg PyProof.Rows.boot_all ha (by decide) (by decide) h
theorem re_any (hc : X.calm = true) (hm : X.mg "any" = none) (hg : Gl X "any") (ha : QA X EE [e] m) (h : nostars [e] = true := by rfl) : QE X EE (.Call (.Name "any" p) [e] [] pos) (eArgs (dAll true) m) := re_callB (call_anyD hc) hm hg PyProof.Rows.boot_any ha (by decide) (by decide) h
theorem re_max2 (hc : X.calm = true) (hm : X.mg "max" = none) (hg : Gl X "max") (ha : QA X EE [e, a] m) (h : nostars [e, a] = true := by rfl) : QE X EE (.Call (.Name "max" p) [e, a] [] pos) (eArgs (dInt2L fun i j => if j > i then j else i) m) := re_callB (call_maxD hc) hm hg PyProof.Rows.boot_max ha (by decide) (by decide) h
theorem re_min2 (hc : X.calm = true) (hm : X.mg "min" = none) (hg : Gl X "min") (ha : QA X EE [e, a] m) (h : nostars [e, a] = true := by rfl) : QE X EE (.Call (.Name "min" p) [e, a] [] pos) (eArgs (dInt2L fun i j => if j < i then j else i) m) := re_callB (call_minD hc) hm hg PyProof.Rows.boot_min ha (by decide) (by decide) h
theorem re_isi (c : Ty) {pt : Pos} (hc : c ≠ .non) (hm : X.mg "isinstance" = none) (hmt : X.mg x = none) (hg : Gl X "isinstance") (hgt : Gl X x) (ha : QE X EE a ma) (hb : bootBuiltins x = some (.type c.nm)) (hnt : x ≠ "__name__") (hdt : (x == ("__debug__" : Str)) = false) (h : nostar a = true := by rfl) :
    QE X EE (.Call (.Name "isinstance" p) [a, .Name x pt] [] pos) (eIsi c ma) := qe_isi c hc hm hmt ha hb hg hgt hnt hdt (star_of h _ _) (star_of rfl _ _) (stars_any (es := [.Name x pt]) rfl)
theorem re_call {CX : CXT} {k n : Nat} {f : Addr} {fd : FuncData} {ps : List Str} {mf : List D → M D} (F : FnOk X.prog X.w X.K X.mg X.base CX k f fd ps (spOf X.K X.mg n mf)) (hr : Room k X.A) (hm : X.mg x = some (.ref f)) (hk : PySem.W.keepIn X.K (.ref f) = true) (hb : Binds X.K fd ps []) (hx : Lnk CX X EE) (hg : Gl X x)
    (hd : (x == ("__debug__" : Str)) = false ∧ (x == ("__classdict__" : Str)) = false) (ha : QA X EE (e :: es) m) (h : nostars (e :: es) = true := by rfl) : QE X EE (.Call (.Name x p) (e :: es) [] pos) (eCall n mf m) := by
  have h' : nostar e = true ∧ nostars es = true := by simpa [nostars] using h
  exact qe_call F hr hm hk hb hx ha hg hd.1 (star_of h'.1 _ _) (stars_any h'.2)
theorem re_call0 {CX : CXT} {k : Nat} {f : Addr} {fd : FuncData} {ps : List Str} {mf : List D → M D} (F : FnOk X.prog X.w X.K X.mg X.base CX k f fd ps (spOf X.K X.mg 0 mf)) (hr : Room k X.A) (hm : X.mg x = some (.ref f)) (hk : PySem.W.keepIn X.K (.ref f) = true) (hb : Binds X.K fd ps []) (hx : Lnk CX X EE) (hg : Gl X x)
    (hd : (x == ("__debug__" : Str)) = false ∧ (x == ("__classdict__" : Str)) = false) : QE X EE (.Call (.Name x p) [] [] pos) (eCall 0 mf aNil) := qe_call0 F hr hm hk hb hx hg hd.1
theorem re_append (ho : QE X EE o mo) (ha : QA X EE [e] m) (hb : nobase o = true := by rfl) (h : nostars [e] = true := by rfl) (hline : (apos.endLine == cpos.line) = true := by rfl) : QE X EE (.Call (.Attribute o "append" apos) [e] [] cpos) (eMethT "list" dAppend mo m) := by
  have h' : nostar e = true ∧ nostars [] = true := by simpa [nostars] using h
  exact qe_append ho ha (base_of hb _ _) (few_of h (by simp)) hline (star_of h'.1 _ _) (stars_any (es := []) rfl)
theorem re_pop (ho : QE X EE o mo) (hb : nobase o = true := by rfl) (hline : (apos.endLine == cpos.line) = true := by rfl) : QE X EE (.Call (.Attribute o "pop" apos) [] [] cpos) (eMethT "list" dPop mo aNil) := qe_pop ho (base_of hb _ _) hline
theorem rs_expr (he : QE X EE a ma) (h : noswap a = true := by rfl) : QS X EE (.Expr a pos) (sExpr ma) := qs_expr he (swap_of h _ _ _)
theorem rs_set {i : Nat} {pos' : Pos} (hN : X.N.Nodup) (hx : Loc X.env.scope x) (he : QE X EE a ma) (hf : X.fn x = true ∨ X.env.scope.names.lookup x = some .local) (hi : X.N[i]? = some x := by rfl) (h : noswap a = true := by rfl) : QS X EE (.Assign [.Name x pos'] a pos) (sSet i ma) := qs_set hN he hi hx (swap_of h _ _ _) hf
/-- .. a comprehension that is stored into a captured name -/
theorem rs_setC {i : Nat} {pos' : Pos} (hN : X.N.Nodup) (hx : Loc X.env.scope x) (he : QE X EE a ma) (hf : X.fn x = true ∨ X.env.scope.names.lookup x = some .local) (hs : swapsWith a (some (.Name x pos')) pos.line X.env = pure false) (hi : X.N[i]? = some x := by rfl) : QS X EE (.Assign [.Name x pos'] a pos) (sSet i ma) := qs_set hN he hi hx hs hf
theorem rs_setIx {i : Expr} {mv mi : DS → M D} {tpos : Pos} (hv : QE X EE a mv) (ho : QE X EE o mo) (hi : QE X EE i mi) (h : noswap a = true := by rfl)
    (hasg : ∀ v, assign (.Subscript o i tpos) X.env v = (do
      let ov ← holding [v] (eval o X.env)
      let iv ← holding [v, ov] (eval i X.env)
      standAt tpos
      holding [v, ov, iv] (setItem ov iv v)
      release [v, ov, iv] []) := by intro _; rfl) : QS X EE (.Assign [.Subscript o i tpos] a pos) (sSetIx mv mo mi) :=
  qs_setIx hv ho hi (by unfold swapsWithSole; exact swap_of h _ _ _) (by first | rfl | (unfold swappedStores; rfl)) rfl hasg
theorem rg_name {i : Nat} (hN : X.N.Nodup) (hx : Loc X.env.scope x) (hf : X.fn x = true ∨ X.env.scope.names.lookup x = some .local) (hi : X.N[i]? = some x := by rfl) : QG X (.Name x pos) (gN i) := qg_name hN hi hx hf
theorem rs_for {tg : Expr} {g : TgD} {body : List Stmt} (hp : PassesOwn (model X.prog X.w) X.A X.env X.xe) (hc : X.calm = true) (ha : QE X EE a ma) (hg : QG X tg g) (hb : QSs X EE body ms) (h : nofold a = true := by rfl) : QS X EE (.For tg a body [] pos) (sForIn g ma ms) := qs_for hp hc ha hg hb (fold_of h _)
theorem rs_forR1 {tg : Expr} {g : TgD} {body : List Stmt} {pc : Pos} (hp : PassesOwn (model X.prog X.w) X.A X.env X.xe) (hc : X.calm = true) (hm : X.mg "range" = none) (hgl : Gl X "range") (ha : QA X EE [a] m) (hg : QG X tg g) (hb : QSs X EE body ms) (h : nostar a = true := by rfl) :
    QS X EE (.For tg (.Call (.Name "range" p) [a] [] pc) body [] pos) (sForRng rng1 g m ms) := qs_forR1 hp hc hm ha hg hb hgl (star_of h _ _) (fold_of rfl _)
theorem rs_forR2 {tg : Expr} {g : TgD} {body : List Stmt} {pc : Pos} (hp : PassesOwn (model X.prog X.w) X.A X.env X.xe) (hc : X.calm = true) (hm : X.mg "range" = none) (hgl : Gl X "range") (ha : QA X EE [a, b] m) (hg : QG X tg g) (hb : QSs X EE body ms) (h : nostar a = true := by rfl) (h2 : nostar b = true := by rfl) :
    QS X EE (.For tg (.Call (.Name "range" p) [a, b] [] pc) body [] pos) (sForRng rng2 g m ms) := qs_forR2 hp hc hm ha hg hb hgl (by rw [star_of h, star_of h2]; rfl) (star_of h2 _ _) (fold_of rfl _)
variable {scope : Scope} {elt iter : Expr} {ifs : List Expr} {px : Pos}
theorem re_comp (S : CompSc X.env.scope X.N scope x ks) (hc : X.calm = true) (ha : QE X EE iter ma) (hb : CompB X scope x ifs elt tt te) (h : nofold iter = true := by rfl) : QE X EE (.ListComp elt [⟨.Name x px, iter, ifs, 0⟩] scope pos) (eComp ks ma tt te) := qe_comp S hc ha hb (fold_of h _)
theorem rs_comp {y : Str} {i : Nat} {py spos : Pos} (S : CompSc X.env.scope X.N scope x ks) (hc : X.calm = true) (hN : X.N.Nodup) (hl : X.env.scope.names.lookup y = some .local) (ha : QE X EE iter ma) (hb : CompB X scope x ifs elt tt te) (hsw : swapsWith (.ListComp elt [⟨.Name x px, iter, ifs, 0⟩] scope pos) (some (.Name y py)) spos.line X.env = pure true)
    (hy : X.N[i]? = some y := by rfl) (h : nofold iter = true := by rfl) : QS X EE (.Assign [.Name y py] (.ListComp elt [⟨.Name x px, iter, ifs, 0⟩] scope pos) spos) (sSet i (eComp ks ma tt te)) := qs_comp S hc hN ha hb hy hl hsw (fold_of h _)
theorem re_compR1 {pc : Pos} (S : CompSc X.env.scope X.N scope x ks) (hc : X.calm = true) (hm : X.mg "range" = none) (hgl : Gl X "range") (ha : QA X EE [a] m) (hb : CompB X scope x ifs elt tt te) (h : nostar a = true := by rfl) :
    QE X EE (.ListComp elt [⟨.Name x px, .Call (.Name "range" p) [a] [] pc, ifs, 0⟩] scope pos) (eCompR rng1 ks m tt te) := qe_compR1 S hc hm ha hb hgl (star_of h _ _) (fold_of rfl _)
theorem re_compR2 {pc : Pos} (S : CompSc X.env.scope X.N scope x ks) (hc : X.calm = true) (hm : X.mg "range" = none) (hgl : Gl X "range") (ha : QA X EE [a, b] m) (hb : CompB X scope x ifs elt tt te) (h : nostar a = true := by rfl) (h2 : nostar b = true := by rfl) :
    QE X EE (.ListComp elt [⟨.Name x px, .Call (.Name "range" p) [a, b] [] pc, ifs, 0⟩] scope pos) (eCompR rng2 ks m tt te) := qe_compR2 S hc hm ha hb hgl (by rw [star_of h, star_of h2]; rfl) (star_of h2 _ _) (fold_of rfl _)
theorem rs_compR1 {y : Str} {i : Nat} {py spos pc : Pos} (S : CompSc X.env.scope X.N scope x ks) (hc : X.calm = true) (hN : X.N.Nodup) (hl : X.env.scope.names.lookup y = some .local) (hm : X.mg "range" = none) (hgl : Gl X "range") (ha : QA X EE [a] m) (hb : CompB X scope x ifs elt tt te)
    (hsw : swapsWith (.ListComp elt [⟨.Name x px, .Call (.Name "range" p) [a] [] pc, ifs, 0⟩] scope pos) (some (.Name y py)) spos.line X.env = pure true) (hy : X.N[i]? = some y := by rfl) (h : nostar a = true := by rfl) :
    QS X EE (.Assign [.Name y py] (.ListComp elt [⟨.Name x px, .Call (.Name "range" p) [a] [] pc, ifs, 0⟩] scope pos) spos) (sSet i (eCompR rng1 ks m tt te)) := qs_compR1 S hc hN hm ha hb hy hl hgl (star_of h _ _) hsw (fold_of rfl _)
theorem rs_compR2 {y : Str} {i : Nat} {py spos pc : Pos} (S : CompSc X.env.scope X.N scope x ks) (hc : X.calm = true) (hN : X.N.Nodup) (hl : X.env.scope.names.lookup y = some .local) (hm : X.mg "range" = none) (hgl : Gl X "range") (ha : QA X EE [a, b] m) (hb : CompB X scope x ifs elt tt te)
    (hsw : swapsWith (.ListComp elt [⟨.Name x px, .Call (.Name "range" p) [a, b] [] pc, ifs, 0⟩] scope pos) (some (.Name y py)) spos.line X.env = pure true) (hy : X.N[i]? = some y := by rfl) (h : nostar a = true := by rfl) (h2 : nostar b = true := by rfl) :
    QS X EE (.Assign [.Name y py] (.ListComp elt [⟨.Name x px, .Call (.Name "range" p) [a, b] [] pc, ifs, 0⟩] scope pos) spos) (sSet i (eCompR rng2 ks m tt te)) := qs_compR2 S hc hN hm ha hb hy hl hgl (by rw [star_of h, star_of h2]; rfl) (star_of h2 _ _) hsw (fold_of rfl _)
/-- the store of a comprehension into a plain local name is exchanged -/
theorem swap_comp {gens : List Comprehension} {y : Str} {py : Pos} {l : Nat} {env : Env} (hb : (env.blockKind == .function) = true) (hl : env.scope.names.lookup y = some .local) (hp : (py.line == pos.line) = true) (hq : (scope.names.any fun x => x.1 == y && (x.2 == .local || x.2 == .cell)) = false) : swapsWith (.ListComp elt gens scope pos) (some (.Name y py)) l env = pure true := by
  unfold swapsWith
  dsimp only
  show (pure (env.blockKind == .function && env.kindOf y == some .local && py.line == pos.line && !(scope.names.any fun x => x.1 == y && (x.2 == .local || x.2 == .cell))) : Sem Bool) = pure true
  have e : (env.kindOf y == some NameKind.local) = true := by rw [show env.kindOf y = some NameKind.local from hl]; rfl
  rw [hb, e, hp, hq]; rfl
/-! ### names within a block -/
theorem cv_loc {cl : List (Str × Addr)} {C : Addr} {pins : List (Addr × Obj)} {s0 : Shared} {H0 : Hp} {fp : List Addr} {E : Value → Shared → Prop} (S : CompSc X.env.scope X.N scope x ks) : Vis (cxC X scope cl x C pins s0 H0 fp E).env.scope x := .inl (comp_local (cl := cl) (C := C) S)
theorem cv_free {cl : List (Str × Addr)} {C : Addr} {pins : List (Addr × Obj)} {s0 : Shared} {H0 : Hp} {fp : List Addr} {E : Value → Shared → Prop} {y : Str} (S : CompSc X.env.scope X.N scope x ks) (h : scope.names.lookup y = some .free) : Vis (cxC X scope cl x C pins s0 H0 fp E).env.scope y := .inr (comp_seen (cl := cl) (C := C) S h)
theorem cv_glob {cl : List (Str × Addr)} {C : Addr} {pins : List (Addr × Obj)} {s0 : Shared} {H0 : Hp} {fp : List Addr} {E : Value → Shared → Prop} {y : Str} (h : scope.names.lookup y = some .globalImplicit) : Gl (cxC X scope cl x C pins s0 H0 fp E) y := by
  show (compEnvC scope cl C X.env).kindOf y = some .globalImplicit
  have e : (compEnvC scope cl C X.env).kindOf y = (scope.names.lookup y).map (relK X.env y) := lookup_relabel scope.names
  rw [e, h]; rfl
end
/-- THE RULE for a def that raises nothing, its parts apart -/
theorem fnr {P : Program} {w : World} {K : PySem.W.Frag} {mg : Str → Option Value} {base : Heap} {f : Addr} {fd : FuncData} {x qual : Str} {st : Stmt} {N ps : List Str} {k n nn : Nat} {ms : MS} {m : List D → M D} (F : Fun K x qual st f fd) (S : FnScope N ps (defScope st))
    (hps : ps.length = n) (hN : N.length = nn) (hm : ∀ ds, m ds = noX (runB nn ms ds))
    (hbody : ∀ (cdv : Value) (A : Around) (outer : List Env) (s : Shared) (H : Hp) (E : XK), Room k (A.deeper (PyProof.Rows.envOfC qual (defScope st) s.heap.objs.size f cdv)) → QSs (cxOf CX0 P w K mg base N qual (defScope st) f cdv A outer s H E).nox EE0 (defBody st) ms) :
    FnOk P w K mg base CX0 (k + 1) f fd ps (spOf K mg n m) := by
  subst hps hN
  have e : m = fun ds => noX (runB N.length ms ds) := funext hm
  subst e
  exact fn0 F S hbody
end L3

end

section
set_option Elab.async false
set_option linter.all false
set_option maxRecDepth 100000
set_option maxHeartbeats 4000000
namespace K11
open PySem PySem.Spec L2 L3
/-! ### the text by places -/
def top (i : Nat) : Stmt := PySem.Challenge.pw_pathshape_k11_names.main.body.getD i (.Pass ⟨0, 0, 0, 0⟩)
abbrev s_is_name : Stmt := top 4
abbrev s__law_draws : Stmt := top 6
abbrev s__law_sign : Stmt := top 7
abbrev s__law_taken : Stmt := top 8
abbrev s__law_text : Stmt := top 9
abbrev s__law_due : Stmt := top 10
abbrev s_law : Stmt := top 11
def g_KEPT_WORDS : D := .tup [.str "start", .str "rule", .str "row", .str "mix", .str "many", .str "any", .str "kind", .str "not", .str "both", .str "either", .str "way", .str "mark"]
def g_LETTERS : D := .str "abcdefghijklmnopqrstuvwxyz"
def g_LONGEST : D := .int (8)
/-! ### the mirror -/
abbrev N_is_name : List Str := ["text"]
abbrev kk_is_name : Nat := 1
def b_is_name : MS := sSeq (sIf (tOrD (tNotD (tTruth dTru (eIsi .str (eVar 0)))) (tBl (eOp (dIn false) (eVar 0) (eC g_KEPT_WORDS)))) (sRet (eC (.bl false))) (sSkip)) (sSeq (sIf (tOrD (tBl (eOp (dEq false) (eArgs dLen (aCons (eVar 0) (aNil))) (eC (.int 0)))) (tBl (eOp dGt (eArgs dLen (aCons (eVar 0) (aNil))) (eC g_LONGEST)))) (sRet (eC (.bl false))) (sSkip)) (sRet (eArgs (dAll false) (aCons (eComp [] (eVar 0) (tYes) (eOp (dIn false) (eVar 0) (eC g_LETTERS))) (aNil)))))
def m_is_name (ds : List D) : M D := noX (runB 1 b_is_name ds)
abbrev N__law_draws : List Str := ["_law_script", "_law_many", "_law_found", "_law_k", "_law_cell"]
abbrev kk__law_draws : Nat := 1
def L0__law_draws : MS := sSeq (sSet 4 (eC (.int 0))) (sSeq (sIf (tBl (eOp dGt (eArgs dLen (aCons (eVar 0) (aNil))) (eC (.int 0)))) (sSet 4 (eOp dMod (eOp dIx (eVar 0) (eOp dMod (eVar 3) (eArgs dLen (aCons (eVar 0) (aNil))))) (eOp dPow (eC (.int 10)) (eC (.int 18))))) (sSkip)) (sExpr (eMethT "list" dAppend (eVar 2) (aCons (eOp dAdd (eVar 4) (eOp dMul (eC (.int 7919)) (eOp dFdiv (eVar 3) (eArgs (dInt2L fun i j => if j > i then j else i) (aCons (eC (.int 1)) (aCons (eArgs dLen (aCons (eVar 0) (aNil))) (aNil))))))) (aNil)))))
def b__law_draws : MS := sSeq (sSet 2 (eArgs dNew (aNil))) (sSeq (sForRng rng1 (gN 3) (aCons (eVar 1) (aNil)) L0__law_draws) (sRet (eVar 2)))
def m__law_draws (ds : List D) : M D := noX (runB 5 b__law_draws ds)
abbrev N__law_sign : List Str := ["_law_cell", "_law_way", "_law_letters", "_law_others"]
abbrev kk__law_sign : Nat := 1
def b__law_sign : MS := sSeq (sSet 2 (eC (.str "abcdefghijklmnopqrstuvwxyz"))) (sSeq (sSet 3 (eC (.str "0123456789 !\"#$&'()*+,-./:;<=>?@ABCDEFGHIJKLMNOPQRSTUVWXYZ[\\]^_`{|}~"))) (sSeq (sIf (tOrD (tBl (eOp (dEq false) (eVar 1) (eC (.int 0)))) (tBl (eOp dLt (eOp dMod (eVar 0) (eC (.int 5))) (eC (.int 4))))) (sRet (eOp dIx (eVar 2) (eOp dMod (eOp dFdiv (eVar 0) (eC (.int 5))) (eC (.int 26))))) (sSkip)) (sRet (eOp dIx (eVar 3) (eOp dMod (eOp dFdiv (eVar 0) (eC (.int 5))) (eC (.int 68)))))))
def m__law_sign (ds : List D) : M D := noX (runB 4 b__law_sign ds)
abbrev N__law_taken : List Str := []
abbrev kk__law_taken : Nat := 1
def b__law_taken : MS := sRet (eArgs dNew (aCons (eC (.str "start")) (aCons (eC (.str "rule")) (aCons (eC (.str "row")) (aCons (eC (.str "mix")) (aCons (eC (.str "many")) (aCons (eC (.str "any")) (aCons (eC (.str "kind")) (aCons (eC (.str "not")) (aCons (eC (.str "both")) (aCons (eC (.str "either")) (aCons (eC (.str "way")) (aCons (eC (.str "mark")) (aNil))))))))))))))
def m__law_taken (ds : List D) : M D := noX (runB 0 b__law_taken ds)
abbrev N__law_text : List Str := ["_law_draws_here", "_law_word", "_law_text_here", "_law_k"]
abbrev kk__law_text : Nat := 2
def L0__law_text : MS := sSet 2 (eOp dAdd (eVar 2) (eCall 2 m__law_sign (aCons (eOp dIx (eVar 0) (eOp dAdd (eC (.int 2)) (eVar 3))) (aCons (eOp dMod (eOp dIx (eVar 0) (eC (.int 1))) (eC (.int 2))) (aNil)))))
def b__law_text : MS := sSeq (sIf (tBl (eOp (dEq false) (eOp dMod (eOp dIx (eVar 0) (eC (.int 0))) (eC (.int 3))) (eC (.int 2)))) (sSeq (sSet 1 (eOp dIx (eCall 0 m__law_taken aNil) (eOp dMod (eOp dIx (eVar 0) (eC (.int 1))) (eC (.int 12))))) (sRet (eOp dIx (eArgs dNew (aCons (eVar 1) (aCons (eVar 1) (aCons (eOp dAdd (eVar 1) (eCall 2 m__law_sign (aCons (eOp dIx (eVar 0) (eC (.int 3))) (aCons (eC (.int 0)) (aNil))))) (aCons (eSl (eVar 1) (oNone) (oSome (eNeg (eC (.int 1))))) (aNil)))))) (eOp dMod (eOp dIx (eVar 0) (eC (.int 2))) (eC (.int 4)))))) (sSkip)) (sSeq (sSet 2 (eC (.str ""))) (sSeq (sForRng rng1 (gN 3) (aCons (eOp dMod (eOp dFdiv (eOp dIx (eVar 0) (eC (.int 0))) (eC (.int 3))) (eC (.int 11))) (aNil)) L0__law_text) (sRet (eVar 2))))
def m__law_text (ds : List D) : M D := noX (runB 4 b__law_text ds)
abbrev N__law_due : List Str := ["_law_text_here", "_law_sign_here"]
abbrev kk__law_due : Nat := 2
def L0__law_due : MS := sIf (tBl (eOp (dIn true) (eVar 1) (eC (.str "abcdefghijklmnopqrstuvwxyz")))) (sRet (eC (.bl false))) (sSkip)
def b__law_due : MS := sSeq (sForIn (gN 1) (eVar 0) L0__law_due) (sRet (eAnd (eChain dLe dLe (eC (.int 1)) (eArgs dLen (aCons (eVar 0) (aNil))) (eC (.int 8))) (eOp (dIn true) (eVar 0) (eCall 0 m__law_taken aNil))))
def m__law_due (ds : List D) : M D := noX (runB 2 b__law_due ds)
abbrev N_law : List Str := ["_law_script", "_law_turn", "_law_text_here", "_law_found"]
abbrev kk_law : Nat := 3
def L0_law : MS := sSeq (sSet 2 (eCall 1 m__law_text (aCons (eCall 2 m__law_draws (aCons (eSl (eVar 0) (oSome (eVar 1)) (oNone)) (aCons (eC (.int 13)) (aNil)))) (aNil)))) (sSeq (sSet 3 (eCall 1 m_is_name (aCons (eVar 2) (aNil)))) (sIf (tOrD (tNotD (tTruth dTru (eIsi .bl (eVar 3)))) (tBl (eOp (dEq true) (eVar 3) (eCall 1 m__law_due (aCons (eVar 2) (aNil)))))) (sRet (eC (.bl false))) (sSkip)))
def b_law : MS := sSeq (sForRng rng1 (gN 1) (aCons (eC (.int 3)) (aNil)) L0_law) (sRet (eC (.bl true)))
def m_law (ds : List D) : M D := noX (runB 4 b_law ds)
/-! ### the facts of the top -/
structure Adr where
  f_is_name : Addr
  d_is_name : FuncData
  f__law_draws : Addr
  d__law_draws : FuncData
  f__law_sign : Addr
  d__law_sign : FuncData
  f__law_taken : Addr
  d__law_taken : FuncData
  f__law_text : Addr
  d__law_text : FuncData
  f__law_due : Addr
  d__law_due : FuncData
  f_law : Addr
  d_law : FuncData
structure Txt (K : PySem.W.Frag) (mg : Str → Option Value) (t : Adr) : Prop where
  F_is_name : Fun K "is_name" "is_name" s_is_name t.f_is_name t.d_is_name
  B_is_name : Binds K t.d_is_name ["text"] []
  M_is_name : mg "is_name" = some (.ref t.f_is_name)
  F__law_draws : Fun K "_law_draws" "_law_draws" s__law_draws t.f__law_draws t.d__law_draws
  B__law_draws : Binds K t.d__law_draws ["_law_script", "_law_many"] []
  M__law_draws : mg "_law_draws" = some (.ref t.f__law_draws)
  F__law_sign : Fun K "_law_sign" "_law_sign" s__law_sign t.f__law_sign t.d__law_sign
  B__law_sign : Binds K t.d__law_sign ["_law_cell", "_law_way"] []
  M__law_sign : mg "_law_sign" = some (.ref t.f__law_sign)
  F__law_taken : Fun K "_law_taken" "_law_taken" s__law_taken t.f__law_taken t.d__law_taken
  B__law_taken : Binds K t.d__law_taken [] []
  M__law_taken : mg "_law_taken" = some (.ref t.f__law_taken)
  F__law_text : Fun K "_law_text" "_law_text" s__law_text t.f__law_text t.d__law_text
  B__law_text : Binds K t.d__law_text ["_law_draws_here"] []
  M__law_text : mg "_law_text" = some (.ref t.f__law_text)
  F__law_due : Fun K "_law_due" "_law_due" s__law_due t.f__law_due t.d__law_due
  B__law_due : Binds K t.d__law_due ["_law_text_here"] []
  M__law_due : mg "_law_due" = some (.ref t.f__law_due)
  F_law : Fun K "law" "law" s_law t.f_law t.d_law
  B_law : Binds K t.d_law ["_law_script"] []
  M_law : mg "law" = some (.ref t.f_law)
  N_all : mg "all" = none
  N_bool : mg "bool" = none
  N_isinstance : mg "isinstance" = none
  N_len : mg "len" = none
  N_max : mg "max" = none
  N_range : mg "range" = none
  N_str : mg "str" = none
  G_KEPT_WORDS : GlobD K mg "KEPT_WORDS" g_KEPT_WORDS
  G_LETTERS : GlobD K mg "LETTERS" g_LETTERS
  G_LONGEST : GlobD K mg "LONGEST" g_LONGEST
theorem dn_KEPT_WORDS : (("KEPT_WORDS" : Str) == ("__debug__" : Str)) = false ∧ (("KEPT_WORDS" : Str) == ("__classdict__" : Str)) = false := by decide +kernel
theorem dn_LETTERS : (("LETTERS" : Str) == ("__debug__" : Str)) = false ∧ (("LETTERS" : Str) == ("__classdict__" : Str)) = false := by decide +kernel
theorem dn_LONGEST : (("LONGEST" : Str) == ("__debug__" : Str)) = false ∧ (("LONGEST" : Str) == ("__classdict__" : Str)) = false := by decide +kernel
theorem dn__law_cell : (("_law_cell" : Str) == ("__debug__" : Str)) = false ∧ (("_law_cell" : Str) == ("__classdict__" : Str)) = false := by decide +kernel
theorem dn__law_draws : (("_law_draws" : Str) == ("__debug__" : Str)) = false ∧ (("_law_draws" : Str) == ("__classdict__" : Str)) = false := by decide +kernel
theorem dn__law_draws_here : (("_law_draws_here" : Str) == ("__debug__" : Str)) = false ∧ (("_law_draws_here" : Str) == ("__classdict__" : Str)) = false := by decide +kernel
theorem dn__law_due : (("_law_due" : Str) == ("__debug__" : Str)) = false ∧ (("_law_due" : Str) == ("__classdict__" : Str)) = false := by decide +kernel
theorem dn__law_found : (("_law_found" : Str) == ("__debug__" : Str)) = false ∧ (("_law_found" : Str) == ("__classdict__" : Str)) = false := by decide +kernel
theorem dn__law_k : (("_law_k" : Str) == ("__debug__" : Str)) = false ∧ (("_law_k" : Str) == ("__classdict__" : Str)) = false := by decide +kernel
theorem dn__law_letters : (("_law_letters" : Str) == ("__debug__" : Str)) = false ∧ (("_law_letters" : Str) == ("__classdict__" : Str)) = false := by decide +kernel
theorem dn__law_many : (("_law_many" : Str) == ("__debug__" : Str)) = false ∧ (("_law_many" : Str) == ("__classdict__" : Str)) = false := by decide +kernel
theorem dn__law_others : (("_law_others" : Str) == ("__debug__" : Str)) = false ∧ (("_law_others" : Str) == ("__classdict__" : Str)) = false := by decide +kernel
theorem dn__law_script : (("_law_script" : Str) == ("__debug__" : Str)) = false ∧ (("_law_script" : Str) == ("__classdict__" : Str)) = false := by decide +kernel
theorem dn__law_sign : (("_law_sign" : Str) == ("__debug__" : Str)) = false ∧ (("_law_sign" : Str) == ("__classdict__" : Str)) = false := by decide +kernel
theorem dn__law_sign_here : (("_law_sign_here" : Str) == ("__debug__" : Str)) = false ∧ (("_law_sign_here" : Str) == ("__classdict__" : Str)) = false := by decide +kernel
theorem dn__law_taken : (("_law_taken" : Str) == ("__debug__" : Str)) = false ∧ (("_law_taken" : Str) == ("__classdict__" : Str)) = false := by decide +kernel
theorem dn__law_text : (("_law_text" : Str) == ("__debug__" : Str)) = false ∧ (("_law_text" : Str) == ("__classdict__" : Str)) = false := by decide +kernel
theorem dn__law_text_here : (("_law_text_here" : Str) == ("__debug__" : Str)) = false ∧ (("_law_text_here" : Str) == ("__classdict__" : Str)) = false := by decide +kernel
theorem dn__law_turn : (("_law_turn" : Str) == ("__debug__" : Str)) = false ∧ (("_law_turn" : Str) == ("__classdict__" : Str)) = false := by decide +kernel
theorem dn__law_way : (("_law_way" : Str) == ("__debug__" : Str)) = false ∧ (("_law_way" : Str) == ("__classdict__" : Str)) = false := by decide +kernel
theorem dn__law_word : (("_law_word" : Str) == ("__debug__" : Str)) = false ∧ (("_law_word" : Str) == ("__classdict__" : Str)) = false := by decide +kernel
theorem dn_bool : (("bool" : Str) == ("__debug__" : Str)) = false ∧ (("bool" : Str) == ("__classdict__" : Str)) = false := by decide +kernel
theorem dn_is_name : (("is_name" : Str) == ("__debug__" : Str)) = false ∧ (("is_name" : Str) == ("__classdict__" : Str)) = false := by decide +kernel
theorem dn_sign : (("sign" : Str) == ("__debug__" : Str)) = false ∧ (("sign" : Str) == ("__classdict__" : Str)) = false := by decide +kernel
theorem dn_str : (("str" : Str) == ("__debug__" : Str)) = false ∧ (("str" : Str) == ("__classdict__" : Str)) = false := by decide +kernel
theorem dn_text : (("text" : Str) == ("__debug__" : Str)) = false ∧ (("text" : Str) == ("__classdict__" : Str)) = false := by decide +kernel
theorem bt_bool : bootBuiltins "bool" = some (.type (Ty.nm .bl)) := by decide +kernel
theorem nn_bool : ("bool" : Str) ≠ "__name__" := by decide +kernel
theorem bt_str : bootBuiltins "str" = some (.type (Ty.nm .str)) := by decide +kernel
theorem nn_str : ("str" : Str) ≠ "__name__" := by decide +kernel
def cs_is_name_0 : Scope := {
                          kind := PySem.ScopeKind.function,
                          names := [
                            (PySem.Str.ofString ".0", PySem.NameKind.local),
                            (PySem.Str.ofString "sign", PySem.NameKind.local),
                            (PySem.Str.ofString "LETTERS", PySem.NameKind.globalImplicit)],
                          isGenerator := false,
                          isCoroutine := false,
                          more := [] : PySem.Scope }
theorem S_cs_is_name_0 : CompSc (defScope s_is_name) N_is_name cs_is_name_0 "sign" [] := ⟨rfl, by decide +kernel, by decide +kernel, by decide +kernel, by decide +kernel, by decide +kernel⟩
theorem lk__law_draws__law_cell : (defScope s__law_draws).names.lookup ("_law_cell" : Str) = some .local := by decide +kernel
theorem lk__law_draws__law_found : (defScope s__law_draws).names.lookup ("_law_found" : Str) = some .local := by decide +kernel
theorem lk__law_draws__law_k : (defScope s__law_draws).names.lookup ("_law_k" : Str) = some .local := by decide +kernel
theorem lk__law_draws__law_many : (defScope s__law_draws).names.lookup ("_law_many" : Str) = some .local := by decide +kernel
theorem lk__law_draws__law_script : (defScope s__law_draws).names.lookup ("_law_script" : Str) = some .local := by decide +kernel
theorem lk__law_draws_len : (defScope s__law_draws).names.lookup ("len" : Str) = some .globalImplicit := by decide +kernel
theorem lk__law_draws_max : (defScope s__law_draws).names.lookup ("max" : Str) = some .globalImplicit := by decide +kernel
theorem lk__law_draws_range : (defScope s__law_draws).names.lookup ("range" : Str) = some .globalImplicit := by decide +kernel
theorem lk__law_due__law_sign_here : (defScope s__law_due).names.lookup ("_law_sign_here" : Str) = some .local := by decide +kernel
theorem lk__law_due__law_taken : (defScope s__law_due).names.lookup ("_law_taken" : Str) = some .globalImplicit := by decide +kernel
theorem lk__law_due__law_text_here : (defScope s__law_due).names.lookup ("_law_text_here" : Str) = some .local := by decide +kernel
theorem lk__law_due_len : (defScope s__law_due).names.lookup ("len" : Str) = some .globalImplicit := by decide +kernel
theorem lk__law_sign__law_cell : (defScope s__law_sign).names.lookup ("_law_cell" : Str) = some .local := by decide +kernel
theorem lk__law_sign__law_letters : (defScope s__law_sign).names.lookup ("_law_letters" : Str) = some .local := by decide +kernel
theorem lk__law_sign__law_others : (defScope s__law_sign).names.lookup ("_law_others" : Str) = some .local := by decide +kernel
theorem lk__law_sign__law_way : (defScope s__law_sign).names.lookup ("_law_way" : Str) = some .local := by decide +kernel
theorem lk__law_text__law_draws_here : (defScope s__law_text).names.lookup ("_law_draws_here" : Str) = some .local := by decide +kernel
theorem lk__law_text__law_k : (defScope s__law_text).names.lookup ("_law_k" : Str) = some .local := by decide +kernel
theorem lk__law_text__law_sign : (defScope s__law_text).names.lookup ("_law_sign" : Str) = some .globalImplicit := by decide +kernel
theorem lk__law_text__law_taken : (defScope s__law_text).names.lookup ("_law_taken" : Str) = some .globalImplicit := by decide +kernel
theorem lk__law_text__law_text_here : (defScope s__law_text).names.lookup ("_law_text_here" : Str) = some .local := by decide +kernel
theorem lk__law_text__law_word : (defScope s__law_text).names.lookup ("_law_word" : Str) = some .local := by decide +kernel
theorem lk__law_text_range : (defScope s__law_text).names.lookup ("range" : Str) = some .globalImplicit := by decide +kernel
theorem lk_cs_is_name_0_LETTERS : (cs_is_name_0).names.lookup ("LETTERS" : Str) = some .globalImplicit := by decide +kernel
theorem lk_is_name_KEPT_WORDS : (defScope s_is_name).names.lookup ("KEPT_WORDS" : Str) = some .globalImplicit := by decide +kernel
theorem lk_is_name_LONGEST : (defScope s_is_name).names.lookup ("LONGEST" : Str) = some .globalImplicit := by decide +kernel
theorem lk_is_name_all : (defScope s_is_name).names.lookup ("all" : Str) = some .globalImplicit := by decide +kernel
theorem lk_is_name_isinstance : (defScope s_is_name).names.lookup ("isinstance" : Str) = some .globalImplicit := by decide +kernel
theorem lk_is_name_len : (defScope s_is_name).names.lookup ("len" : Str) = some .globalImplicit := by decide +kernel
theorem lk_is_name_str : (defScope s_is_name).names.lookup ("str" : Str) = some .globalImplicit := by decide +kernel
theorem lk_is_name_text : (defScope s_is_name).names.lookup ("text" : Str) = some .local := by decide +kernel
theorem lk_law__law_draws : (defScope s_law).names.lookup ("_law_draws" : Str) = some .globalImplicit := by decide +kernel
theorem lk_law__law_due : (defScope s_law).names.lookup ("_law_due" : Str) = some .globalImplicit := by decide +kernel
theorem lk_law__law_found : (defScope s_law).names.lookup ("_law_found" : Str) = some .local := by decide +kernel
theorem lk_law__law_script : (defScope s_law).names.lookup ("_law_script" : Str) = some .local := by decide +kernel
theorem lk_law__law_text : (defScope s_law).names.lookup ("_law_text" : Str) = some .globalImplicit := by decide +kernel
theorem lk_law__law_text_here : (defScope s_law).names.lookup ("_law_text_here" : Str) = some .local := by decide +kernel
theorem lk_law__law_turn : (defScope s_law).names.lookup ("_law_turn" : Str) = some .local := by decide +kernel
theorem lk_law_bool : (defScope s_law).names.lookup ("bool" : Str) = some .globalImplicit := by decide +kernel
theorem lk_law_is_name : (defScope s_law).names.lookup ("is_name" : Str) = some .globalImplicit := by decide +kernel
theorem lk_law_isinstance : (defScope s_law).names.lookup ("isinstance" : Str) = some .globalImplicit := by decide +kernel
theorem lk_law_range : (defScope s_law).names.lookup ("range" : Str) = some .globalImplicit := by decide +kernel
section
variable {P : Program} {w : World} {K : PySem.W.Frag} {mg : Str → Option Value} {base : Heap} {t : Adr}
theorem sc_is_name : FnScope N_is_name ["text"] (defScope s_is_name) := ⟨rfl, rfl, rfl, by decide +kernel, rfl, by decide +kernel, by decide +kernel⟩
theorem ok_is_name (T : Txt K mg t) : FnOk P w K mg base CX0 1 t.f_is_name t.d_is_name ["text"] (spOf K mg 1 m_is_name) := by
  refine fnr (k := 0) (ms := b_is_name) T.F_is_name sc_is_name (by decide) (by decide) (fun _ => rfl) ?_
  intro cdv A outer s H E hr
  have hu := room200 hr
  have nd := sc_is_name.nd
  have hpo : PassesOwn (model P w) (cxOf CX0 P w K mg base N_is_name "is_name" (defScope s_is_name) t.f_is_name cdv A outer s H E).nox.A (cxOf CX0 P w K mg base N_is_name "is_name" (defScope s_is_name) t.f_is_name cdv A outer s H E).nox.env (fun _ _ => False) := PassesOwn.never
  refine qss_cons ?_ ?_
  · refine qs_if ?_ ?_ ?_
    · refine qt_w ?_
      refine qw_or ?_ ?_
      · refine qt_not ?_
        refine rt_tru ?_ ?_
        · refine re_isi .str ?_ ?_ ?_ ?_ ?_ ?_ ?_ ?_ ?_ ?_
          · decide
          · exact T.N_isinstance
          · exact T.N_str
          · exact lk_is_name_isinstance
          · exact lk_is_name_str
          · refine re_var 0 ?_ ?_ ?_
            · exact (Or.inl lk_is_name_text)
            · exact dn_text
            · exact rfl
          · exact bt_str
          · exact nn_str
          · exact dn_str.1
          · decide +kernel
        · decide +kernel
      · refine qw_or1 ?_
        refine rt_cmp ?_ ?_ ?_ ?_
        · exact (op_inD hu)
        · refine re_var 0 ?_ ?_ ?_
          · exact (Or.inl lk_is_name_text)
          · exact dn_text
          · exact rfl
        · refine re_glob ?_ ?_ ?_
          · exact T.G_KEPT_WORDS
          · exact lk_is_name_KEPT_WORDS
          · exact dn_KEPT_WORDS
        · decide +kernel
    · refine qss_one ?_
      refine qs_ret ?_
      exact qe_bl
    · exact qss_nil
  · refine qss_cons ?_ ?_
    · refine qs_if ?_ ?_ ?_
      · refine qt_w ?_
        refine qw_or ?_ ?_
        · refine rt_cmp ?_ ?_ ?_ ?_
          · exact (op_eqD hu)
          · refine re_len ?_ ?_ ?_ ?_
            · exact T.N_len
            · exact lk_is_name_len
            · refine ra_cons ?_ ?_ ?_
              · refine re_var 0 ?_ ?_ ?_
                · exact (Or.inl lk_is_name_text)
                · exact dn_text
                · exact rfl
              · exact qa_nil
              · decide +kernel
            · decide +kernel
          · exact qe_int
          · decide +kernel
        · refine qw_or1 ?_
          refine rt_cmp ?_ ?_ ?_ ?_
          · exact op_gtD
          · refine re_len ?_ ?_ ?_ ?_
            · exact T.N_len
            · exact lk_is_name_len
            · refine ra_cons ?_ ?_ ?_
              · refine re_var 0 ?_ ?_ ?_
                · exact (Or.inl lk_is_name_text)
                · exact dn_text
                · exact rfl
              · exact qa_nil
              · decide +kernel
            · decide +kernel
          · refine re_glob ?_ ?_ ?_
            · exact T.G_LONGEST
            · exact lk_is_name_LONGEST
            · exact dn_LONGEST
          · decide +kernel
      · refine qss_one ?_
        refine qs_ret ?_
        exact qe_bl
      · exact qss_nil
    · refine qss_one ?_
      refine qs_ret ?_
      refine re_all ?_ ?_ ?_ ?_ ?_
      · exact rfl
      · exact T.N_all
      · exact lk_is_name_all
      · refine ra_cons ?_ ?_ ?_
        · refine re_comp ?_ ?_ ?_ ?_ ?_
          · exact S_cs_is_name_0
          · exact rfl
          · refine re_var 0 ?_ ?_ ?_
            · exact (Or.inl lk_is_name_text)
            · exact dn_text
            · exact rfl
          · refine compB_nil fun cl C pins s0 H0 fp => ?_
            refine re_in ?_ ?_ ?_ ?_
            · exact hu
            · refine re_var 0 ?_ ?_ ?_
              · exact (cv_loc S_cs_is_name_0)
              · exact dn_sign
              · exact rfl
            · refine re_glob ?_ ?_ ?_
              · exact T.G_LETTERS
              · exact (cv_glob lk_cs_is_name_0_LETTERS)
              · exact dn_LETTERS
            · decide +kernel
          · decide +kernel
        · exact qa_nil
        · decide +kernel
      · decide +kernel
theorem sc__law_draws : FnScope N__law_draws ["_law_script", "_law_many"] (defScope s__law_draws) := ⟨rfl, rfl, rfl, by decide +kernel, rfl, by decide +kernel, by decide +kernel⟩
theorem ok__law_draws (T : Txt K mg t) : FnOk P w K mg base CX0 1 t.f__law_draws t.d__law_draws ["_law_script", "_law_many"] (spOf K mg 2 m__law_draws) := by
  refine fnr (k := 0) (ms := b__law_draws) T.F__law_draws sc__law_draws (by decide) (by decide) (fun _ => rfl) ?_
  intro cdv A outer s H E hr
  have hu := room200 hr
  have nd := sc__law_draws.nd
  have hpo : PassesOwn (model P w) (cxOf CX0 P w K mg base N__law_draws "_law_draws" (defScope s__law_draws) t.f__law_draws cdv A outer s H E).nox.A (cxOf CX0 P w K mg base N__law_draws "_law_draws" (defScope s__law_draws) t.f__law_draws cdv A outer s H E).nox.env (fun _ _ => False) := PassesOwn.never
  refine qss_cons ?_ ?_
  · refine rs_set (i := 2) ?_ ?_ ?_ ?_ ?_ ?_
    · exact nd
    · exact (Or.inl lk__law_draws__law_found)
    · refine qe_lst ?_
      exact qa_nil
    · exact Or.inl rfl
    · exact rfl
    · decide +kernel
  · refine qss_cons ?_ ?_
    · refine rs_forR1 ?_ ?_ ?_ ?_ ?_ ?_ ?_ ?_
      · exact hpo
      · exact rfl
      · exact T.N_range
      · exact lk__law_draws_range
      · refine ra_cons ?_ ?_ ?_
        · refine re_var 1 ?_ ?_ ?_
          · exact (Or.inl lk__law_draws__law_many)
          · exact dn__law_many
          · exact rfl
        · exact qa_nil
        · decide +kernel
      · refine rg_name (i := 3) ?_ ?_ ?_ ?_
        · exact nd
        · exact (Or.inl lk__law_draws__law_k)
        · exact Or.inl rfl
        · exact rfl
      · refine qss_cons ?_ ?_
        · refine rs_set (i := 4) ?_ ?_ ?_ ?_ ?_ ?_
          · exact nd
          · exact (Or.inl lk__law_draws__law_cell)
          · exact qe_int
          · exact Or.inl rfl
          · exact rfl
          · decide +kernel
        · refine qss_cons ?_ ?_
          · refine qs_if ?_ ?_ ?_
            · refine rt_cmp ?_ ?_ ?_ ?_
              · exact op_gtD
              · refine re_len ?_ ?_ ?_ ?_
                · exact T.N_len
                · exact lk__law_draws_len
                · refine ra_cons ?_ ?_ ?_
                  · refine re_var 0 ?_ ?_ ?_
                    · exact (Or.inl lk__law_draws__law_script)
                    · exact dn__law_script
                    · exact rfl
                  · exact qa_nil
                  · decide +kernel
                · decide +kernel
              · exact qe_int
              · decide +kernel
            · refine qss_one ?_
              refine rs_set (i := 4) ?_ ?_ ?_ ?_ ?_ ?_
              · exact nd
              · exact (Or.inl lk__law_draws__law_cell)
              · refine qe_mod ?_ ?_
                · refine re_index ?_ ?_ ?_
                  · refine re_var 0 ?_ ?_ ?_
                    · exact (Or.inl lk__law_draws__law_script)
                    · exact dn__law_script
                    · exact rfl
                  · refine qe_mod ?_ ?_
                    · refine re_var 3 ?_ ?_ ?_
                      · exact (Or.inl lk__law_draws__law_k)
                      · exact dn__law_k
                      · exact rfl
                    · refine re_len ?_ ?_ ?_ ?_
                      · exact T.N_len
                      · exact lk__law_draws_len
                      · refine ra_cons ?_ ?_ ?_
                        · refine re_var 0 ?_ ?_ ?_
                          · exact (Or.inl lk__law_draws__law_script)
                          · exact dn__law_script
                          · exact rfl
                        · exact qa_nil
                        · decide +kernel
                      · decide +kernel
                  · decide +kernel
                · refine qe_pow ?_ ?_
                  · exact qe_int
                  · exact qe_int
              · exact Or.inl rfl
              · exact rfl
              · decide +kernel
            · exact qss_nil
          · refine qss_one ?_
            refine rs_expr ?_ ?_
            · refine re_append ?_ ?_ ?_ ?_ ?_
              · refine re_var 2 ?_ ?_ ?_
                · exact (Or.inl lk__law_draws__law_found)
                · exact dn__law_found
                · exact rfl
              · refine ra_cons ?_ ?_ ?_
                · refine qe_add ?_ ?_
                  · refine re_var 4 ?_ ?_ ?_
                    · exact (Or.inl lk__law_draws__law_cell)
                    · exact dn__law_cell
                    · exact rfl
                  · refine qe_mul ?_ ?_
                    · exact qe_int
                    · refine qe_fdiv ?_ ?_
                      · refine re_var 3 ?_ ?_ ?_
                        · exact (Or.inl lk__law_draws__law_k)
                        · exact dn__law_k
                        · exact rfl
                      · refine re_max2 ?_ ?_ ?_ ?_ ?_
                        · exact rfl
                        · exact T.N_max
                        · exact lk__law_draws_max
                        · refine ra_cons ?_ ?_ ?_
                          · exact qe_int
                          · refine ra_cons ?_ ?_ ?_
                            · refine re_len ?_ ?_ ?_ ?_
                              · exact T.N_len
                              · exact lk__law_draws_len
                              · refine ra_cons ?_ ?_ ?_
                                · refine re_var 0 ?_ ?_ ?_
                                  · exact (Or.inl lk__law_draws__law_script)
                                  · exact dn__law_script
                                  · exact rfl
                                · exact qa_nil
                                · decide +kernel
                              · decide +kernel
                            · exact qa_nil
                            · decide +kernel
                          · decide +kernel
                        · decide +kernel
                · exact qa_nil
                · decide +kernel
              · decide +kernel
              · decide +kernel
              · exact rfl
            · decide +kernel
      · decide +kernel
    · refine qss_one ?_
      refine qs_ret ?_
      refine re_var 2 ?_ ?_ ?_
      · exact (Or.inl lk__law_draws__law_found)
      · exact dn__law_found
      · exact rfl
theorem sc__law_sign : FnScope N__law_sign ["_law_cell", "_law_way"] (defScope s__law_sign) := ⟨rfl, rfl, rfl, by decide +kernel, rfl, by decide +kernel, by decide +kernel⟩
theorem ok__law_sign (T : Txt K mg t) : FnOk P w K mg base CX0 1 t.f__law_sign t.d__law_sign ["_law_cell", "_law_way"] (spOf K mg 2 m__law_sign) := by
  refine fnr (k := 0) (ms := b__law_sign) T.F__law_sign sc__law_sign (by decide) (by decide) (fun _ => rfl) ?_
  intro cdv A outer s H E hr
  have hu := room200 hr
  have nd := sc__law_sign.nd
  have hpo : PassesOwn (model P w) (cxOf CX0 P w K mg base N__law_sign "_law_sign" (defScope s__law_sign) t.f__law_sign cdv A outer s H E).nox.A (cxOf CX0 P w K mg base N__law_sign "_law_sign" (defScope s__law_sign) t.f__law_sign cdv A outer s H E).nox.env (fun _ _ => False) := PassesOwn.never
  refine qss_cons ?_ ?_
  · refine rs_set (i := 2) ?_ ?_ ?_ ?_ ?_ ?_
    · exact nd
    · exact (Or.inl lk__law_sign__law_letters)
    · exact qe_str
    · exact Or.inl rfl
    · exact rfl
    · decide +kernel
  · refine qss_cons ?_ ?_
    · refine rs_set (i := 3) ?_ ?_ ?_ ?_ ?_ ?_
      · exact nd
      · exact (Or.inl lk__law_sign__law_others)
      · exact qe_str
      · exact Or.inl rfl
      · exact rfl
      · decide +kernel
    · refine qss_cons ?_ ?_
      · refine qs_if ?_ ?_ ?_
        · refine qt_w ?_
          refine qw_or ?_ ?_
          · refine rt_cmp ?_ ?_ ?_ ?_
            · exact (op_eqD hu)
            · refine re_var 1 ?_ ?_ ?_
              · exact (Or.inl lk__law_sign__law_way)
              · exact dn__law_way
              · exact rfl
            · exact qe_int
            · decide +kernel
          · refine qw_or1 ?_
            refine rt_cmp ?_ ?_ ?_ ?_
            · exact op_ltD
            · refine qe_mod ?_ ?_
              · refine re_var 0 ?_ ?_ ?_
                · exact (Or.inl lk__law_sign__law_cell)
                · exact dn__law_cell
                · exact rfl
              · exact qe_int
            · exact qe_int
            · decide +kernel
        · refine qss_one ?_
          refine qs_ret ?_
          refine re_index ?_ ?_ ?_
          · refine re_var 2 ?_ ?_ ?_
            · exact (Or.inl lk__law_sign__law_letters)
            · exact dn__law_letters
            · exact rfl
          · refine qe_mod ?_ ?_
            · refine qe_fdiv ?_ ?_
              · refine re_var 0 ?_ ?_ ?_
                · exact (Or.inl lk__law_sign__law_cell)
                · exact dn__law_cell
                · exact rfl
              · exact qe_int
            · exact qe_int
          · decide +kernel
        · exact qss_nil
      · refine qss_one ?_
        refine qs_ret ?_
        refine re_index ?_ ?_ ?_
        · refine re_var 3 ?_ ?_ ?_
          · exact (Or.inl lk__law_sign__law_others)
          · exact dn__law_others
          · exact rfl
        · refine qe_mod ?_ ?_
          · refine qe_fdiv ?_ ?_
            · refine re_var 0 ?_ ?_ ?_
              · exact (Or.inl lk__law_sign__law_cell)
              · exact dn__law_cell
              · exact rfl
            · exact qe_int
          · exact qe_int
        · decide +kernel
theorem sc__law_taken : FnScope N__law_taken [] (defScope s__law_taken) := ⟨rfl, rfl, rfl, by decide +kernel, rfl, by decide +kernel, by decide +kernel⟩
theorem ok__law_taken (T : Txt K mg t) : FnOk P w K mg base CX0 1 t.f__law_taken t.d__law_taken [] (spOf K mg 0 m__law_taken) := by
  refine fnr (k := 0) (ms := b__law_taken) T.F__law_taken sc__law_taken (by decide) (by decide) (fun _ => rfl) ?_
  intro cdv A outer s H E hr
  have hu := room200 hr
  have nd := sc__law_taken.nd
  have hpo : PassesOwn (model P w) (cxOf CX0 P w K mg base N__law_taken "_law_taken" (defScope s__law_taken) t.f__law_taken cdv A outer s H E).nox.A (cxOf CX0 P w K mg base N__law_taken "_law_taken" (defScope s__law_taken) t.f__law_taken cdv A outer s H E).nox.env (fun _ _ => False) := PassesOwn.never
  refine qss_one ?_
  refine qs_ret ?_
  refine qe_lst ?_
  refine ra_cons ?_ ?_ ?_
  · exact qe_str
  · refine ra_cons ?_ ?_ ?_
    · exact qe_str
    · refine ra_cons ?_ ?_ ?_
      · exact qe_str
      · refine ra_cons ?_ ?_ ?_
        · exact qe_str
        · refine ra_cons ?_ ?_ ?_
          · exact qe_str
          · refine ra_cons ?_ ?_ ?_
            · exact qe_str
            · refine ra_cons ?_ ?_ ?_
              · exact qe_str
              · refine ra_cons ?_ ?_ ?_
                · exact qe_str
                · refine ra_cons ?_ ?_ ?_
                  · exact qe_str
                  · refine ra_cons ?_ ?_ ?_
                    · exact qe_str
                    · refine ra_cons ?_ ?_ ?_
                      · exact qe_str
                      · refine ra_cons ?_ ?_ ?_
                        · exact qe_str
                        · exact qa_nil
                        · decide +kernel
                      · decide +kernel
                    · decide +kernel
                  · decide +kernel
                · decide +kernel
              · decide +kernel
            · decide +kernel
          · decide +kernel
        · decide +kernel
      · decide +kernel
    · decide +kernel
  · decide +kernel
theorem sc__law_text : FnScope N__law_text ["_law_draws_here"] (defScope s__law_text) := ⟨rfl, rfl, rfl, by decide +kernel, rfl, by decide +kernel, by decide +kernel⟩
theorem ok__law_text (T : Txt K mg t) (C__law_sign : FnOk P w K mg base CX0 1 t.f__law_sign t.d__law_sign ["_law_cell", "_law_way"] (spOf K mg 2 m__law_sign)) (C__law_taken : FnOk P w K mg base CX0 1 t.f__law_taken t.d__law_taken [] (spOf K mg 0 m__law_taken)) : FnOk P w K mg base CX0 2 t.f__law_text t.d__law_text ["_law_draws_here"] (spOf K mg 1 m__law_text) := by
  refine fnr (k := 1) (ms := b__law_text) T.F__law_text sc__law_text (by decide) (by decide) (fun _ => rfl) ?_
  intro cdv A outer s H E hr
  have hu := room200 hr
  have nd := sc__law_text.nd
  have hpo : PassesOwn (model P w) (cxOf CX0 P w K mg base N__law_text "_law_text" (defScope s__law_text) t.f__law_text cdv A outer s H E).nox.A (cxOf CX0 P w K mg base N__law_text "_law_text" (defScope s__law_text) t.f__law_text cdv A outer s H E).nox.env (fun _ _ => False) := PassesOwn.never
  refine qss_cons ?_ ?_
  · refine qs_if ?_ ?_ ?_
    · refine rt_cmp ?_ ?_ ?_ ?_
      · exact (op_eqD hu)
      · refine qe_mod ?_ ?_
        · refine re_index ?_ ?_ ?_
          · refine re_var 0 ?_ ?_ ?_
            · exact (Or.inl lk__law_text__law_draws_here)
            · exact dn__law_draws_here
            · exact rfl
          · exact qe_int
          · decide +kernel
        · exact qe_int
      · exact qe_int
      · decide +kernel
    · refine qss_cons ?_ ?_
      · refine rs_set (i := 1) ?_ ?_ ?_ ?_ ?_ ?_
        · exact nd
        · exact (Or.inl lk__law_text__law_word)
        · refine re_index ?_ ?_ ?_
          · refine re_call0 (CX := CX0) (k := kk__law_taken) (f := t.f__law_taken) (fd := t.d__law_taken) (ps := []) ?_ ?_ ?_ ?_ ?_ ?_ ?_ ?_
            · exact C__law_taken
            · exact hr.mono (by decide)
            · exact T.M__law_taken
            · exact T.F__law_taken.kp
            · exact T.B__law_taken
            · exact lnk0
            · exact lk__law_text__law_taken
            · exact dn__law_taken
          · refine qe_mod ?_ ?_
            · refine re_index ?_ ?_ ?_
              · refine re_var 0 ?_ ?_ ?_
                · exact (Or.inl lk__law_text__law_draws_here)
                · exact dn__law_draws_here
                · exact rfl
              · exact qe_int
              · decide +kernel
            · exact qe_int
          · decide +kernel
        · exact Or.inl rfl
        · exact rfl
        · decide +kernel
      · refine qss_one ?_
        refine qs_ret ?_
        refine re_index ?_ ?_ ?_
        · refine qe_lst ?_
          refine ra_cons ?_ ?_ ?_
          · refine re_var 1 ?_ ?_ ?_
            · exact (Or.inl lk__law_text__law_word)
            · exact dn__law_word
            · exact rfl
          · refine ra_cons ?_ ?_ ?_
            · refine re_var 1 ?_ ?_ ?_
              · exact (Or.inl lk__law_text__law_word)
              · exact dn__law_word
              · exact rfl
            · refine ra_cons ?_ ?_ ?_
              · refine qe_add ?_ ?_
                · refine re_var 1 ?_ ?_ ?_
                  · exact (Or.inl lk__law_text__law_word)
                  · exact dn__law_word
                  · exact rfl
                · refine re_call (CX := CX0) (k := kk__law_sign) (f := t.f__law_sign) (fd := t.d__law_sign) (ps := ["_law_cell", "_law_way"]) ?_ ?_ ?_ ?_ ?_ ?_ ?_ ?_ ?_ ?_
                  · exact C__law_sign
                  · exact hr.mono (by decide)
                  · exact T.M__law_sign
                  · exact T.F__law_sign.kp
                  · exact T.B__law_sign
                  · exact lnk0
                  · exact lk__law_text__law_sign
                  · exact dn__law_sign
                  · refine ra_cons ?_ ?_ ?_
                    · refine re_index ?_ ?_ ?_
                      · refine re_var 0 ?_ ?_ ?_
                        · exact (Or.inl lk__law_text__law_draws_here)
                        · exact dn__law_draws_here
                        · exact rfl
                      · exact qe_int
                      · decide +kernel
                    · refine ra_cons ?_ ?_ ?_
                      · exact qe_int
                      · exact qa_nil
                      · decide +kernel
                    · decide +kernel
                  · decide +kernel
              · refine ra_cons ?_ ?_ ?_
                · refine qe_slice ?_ ?_ ?_
                  · refine re_var 1 ?_ ?_ ?_
                    · exact (Or.inl lk__law_text__law_word)
                    · exact dn__law_word
                    · exact rfl
                  · exact qo_none
                  · refine qo_some ?_
                    refine qe_neg ?_
                    exact qe_int
                · exact qa_nil
                · decide +kernel
              · decide +kernel
            · decide +kernel
          · decide +kernel
        · refine qe_mod ?_ ?_
          · refine re_index ?_ ?_ ?_
            · refine re_var 0 ?_ ?_ ?_
              · exact (Or.inl lk__law_text__law_draws_here)
              · exact dn__law_draws_here
              · exact rfl
            · exact qe_int
            · decide +kernel
          · exact qe_int
        · decide +kernel
    · exact qss_nil
  · refine qss_cons ?_ ?_
    · refine rs_set (i := 2) ?_ ?_ ?_ ?_ ?_ ?_
      · exact nd
      · exact (Or.inl lk__law_text__law_text_here)
      · exact qe_str
      · exact Or.inl rfl
      · exact rfl
      · decide +kernel
    · refine qss_cons ?_ ?_
      · refine rs_forR1 ?_ ?_ ?_ ?_ ?_ ?_ ?_ ?_
        · exact hpo
        · exact rfl
        · exact T.N_range
        · exact lk__law_text_range
        · refine ra_cons ?_ ?_ ?_
          · refine qe_mod ?_ ?_
            · refine qe_fdiv ?_ ?_
              · refine re_index ?_ ?_ ?_
                · refine re_var 0 ?_ ?_ ?_
                  · exact (Or.inl lk__law_text__law_draws_here)
                  · exact dn__law_draws_here
                  · exact rfl
                · exact qe_int
                · decide +kernel
              · exact qe_int
            · exact qe_int
          · exact qa_nil
          · decide +kernel
        · refine rg_name (i := 3) ?_ ?_ ?_ ?_
          · exact nd
          · exact (Or.inl lk__law_text__law_k)
          · exact Or.inl rfl
          · exact rfl
        · refine qss_one ?_
          refine rs_set (i := 2) ?_ ?_ ?_ ?_ ?_ ?_
          · exact nd
          · exact (Or.inl lk__law_text__law_text_here)
          · refine qe_add ?_ ?_
            · refine re_var 2 ?_ ?_ ?_
              · exact (Or.inl lk__law_text__law_text_here)
              · exact dn__law_text_here
              · exact rfl
            · refine re_call (CX := CX0) (k := kk__law_sign) (f := t.f__law_sign) (fd := t.d__law_sign) (ps := ["_law_cell", "_law_way"]) ?_ ?_ ?_ ?_ ?_ ?_ ?_ ?_ ?_ ?_
              · exact C__law_sign
              · exact hr.mono (by decide)
              · exact T.M__law_sign
              · exact T.F__law_sign.kp
              · exact T.B__law_sign
              · exact lnk0
              · exact lk__law_text__law_sign
              · exact dn__law_sign
              · refine ra_cons ?_ ?_ ?_
                · refine re_index ?_ ?_ ?_
                  · refine re_var 0 ?_ ?_ ?_
                    · exact (Or.inl lk__law_text__law_draws_here)
                    · exact dn__law_draws_here
                    · exact rfl
                  · refine qe_add ?_ ?_
                    · exact qe_int
                    · refine re_var 3 ?_ ?_ ?_
                      · exact (Or.inl lk__law_text__law_k)
                      · exact dn__law_k
                      · exact rfl
                  · decide +kernel
                · refine ra_cons ?_ ?_ ?_
                  · refine qe_mod ?_ ?_
                    · refine re_index ?_ ?_ ?_
                      · refine re_var 0 ?_ ?_ ?_
                        · exact (Or.inl lk__law_text__law_draws_here)
                        · exact dn__law_draws_here
                        · exact rfl
                      · exact qe_int
                      · decide +kernel
                    · exact qe_int
                  · exact qa_nil
                  · decide +kernel
                · decide +kernel
              · decide +kernel
          · exact Or.inl rfl
          · exact rfl
          · decide +kernel
        · decide +kernel
      · refine qss_one ?_
        refine qs_ret ?_
        refine re_var 2 ?_ ?_ ?_
        · exact (Or.inl lk__law_text__law_text_here)
        · exact dn__law_text_here
        · exact rfl
theorem sc__law_due : FnScope N__law_due ["_law_text_here"] (defScope s__law_due) := ⟨rfl, rfl, rfl, by decide +kernel, rfl, by decide +kernel, by decide +kernel⟩
theorem ok__law_due (T : Txt K mg t) (C__law_taken : FnOk P w K mg base CX0 1 t.f__law_taken t.d__law_taken [] (spOf K mg 0 m__law_taken)) : FnOk P w K mg base CX0 2 t.f__law_due t.d__law_due ["_law_text_here"] (spOf K mg 1 m__law_due) := by
  refine fnr (k := 1) (ms := b__law_due) T.F__law_due sc__law_due (by decide) (by decide) (fun _ => rfl) ?_
  intro cdv A outer s H E hr
  have hu := room200 hr
  have nd := sc__law_due.nd
  have hpo : PassesOwn (model P w) (cxOf CX0 P w K mg base N__law_due "_law_due" (defScope s__law_due) t.f__law_due cdv A outer s H E).nox.A (cxOf CX0 P w K mg base N__law_due "_law_due" (defScope s__law_due) t.f__law_due cdv A outer s H E).nox.env (fun _ _ => False) := PassesOwn.never
  refine qss_cons ?_ ?_
  · refine rs_for ?_ ?_ ?_ ?_ ?_ ?_
    · exact hpo
    · exact rfl
    · refine re_var 0 ?_ ?_ ?_
      · exact (Or.inl lk__law_due__law_text_here)
      · exact dn__law_text_here
      · exact rfl
    · refine rg_name (i := 1) ?_ ?_ ?_ ?_
      · exact nd
      · exact (Or.inl lk__law_due__law_sign_here)
      · exact Or.inl rfl
      · exact rfl
    · refine qss_one ?_
      refine qs_if ?_ ?_ ?_
      · refine rt_cmp ?_ ?_ ?_ ?_
        · exact (op_notInD hu)
        · refine re_var 1 ?_ ?_ ?_
          · exact (Or.inl lk__law_due__law_sign_here)
          · exact dn__law_sign_here
          · exact rfl
        · exact qe_str
        · decide +kernel
      · refine qss_one ?_
        refine qs_ret ?_
        exact qe_bl
      · exact qss_nil
    · decide +kernel
  · refine qss_one ?_
    refine qs_ret ?_
    refine qe_and ?_ ?_
    · refine re_chain ?_ ?_ ?_ ?_ ?_ ?_
      · exact op_leD
      · exact op_leD
      · exact qe_int
      · refine re_len ?_ ?_ ?_ ?_
        · exact T.N_len
        · exact lk__law_due_len
        · refine ra_cons ?_ ?_ ?_
          · refine re_var 0 ?_ ?_ ?_
            · exact (Or.inl lk__law_due__law_text_here)
            · exact dn__law_text_here
            · exact rfl
          · exact qa_nil
          · decide +kernel
        · decide +kernel
      · exact qe_int
      · decide +kernel
    · refine qe_one ?_
      refine re_notIn ?_ ?_ ?_ ?_
      · exact hu
      · refine re_var 0 ?_ ?_ ?_
        · exact (Or.inl lk__law_due__law_text_here)
        · exact dn__law_text_here
        · exact rfl
      · refine re_call0 (CX := CX0) (k := kk__law_taken) (f := t.f__law_taken) (fd := t.d__law_taken) (ps := []) ?_ ?_ ?_ ?_ ?_ ?_ ?_ ?_
        · exact C__law_taken
        · exact hr.mono (by decide)
        · exact T.M__law_taken
        · exact T.F__law_taken.kp
        · exact T.B__law_taken
        · exact lnk0
        · exact lk__law_due__law_taken
        · exact dn__law_taken
      · decide +kernel
theorem sc_law : FnScope N_law ["_law_script"] (defScope s_law) := ⟨rfl, rfl, rfl, by decide +kernel, rfl, by decide +kernel, by decide +kernel⟩
theorem ok_law (T : Txt K mg t) (C_is_name : FnOk P w K mg base CX0 1 t.f_is_name t.d_is_name ["text"] (spOf K mg 1 m_is_name)) (C__law_draws : FnOk P w K mg base CX0 1 t.f__law_draws t.d__law_draws ["_law_script", "_law_many"] (spOf K mg 2 m__law_draws)) (C__law_text : FnOk P w K mg base CX0 2 t.f__law_text t.d__law_text ["_law_draws_here"] (spOf K mg 1 m__law_text)) (C__law_due : FnOk P w K mg base CX0 2 t.f__law_due t.d__law_due ["_law_text_here"] (spOf K mg 1 m__law_due)) : FnOk P w K mg base CX0 3 t.f_law t.d_law ["_law_script"] (spOf K mg 1 m_law) := by
  refine fnr (k := 2) (ms := b_law) T.F_law sc_law (by decide) (by decide) (fun _ => rfl) ?_
  intro cdv A outer s H E hr
  have hu := room200 hr
  have nd := sc_law.nd
  have hpo : PassesOwn (model P w) (cxOf CX0 P w K mg base N_law "law" (defScope s_law) t.f_law cdv A outer s H E).nox.A (cxOf CX0 P w K mg base N_law "law" (defScope s_law) t.f_law cdv A outer s H E).nox.env (fun _ _ => False) := PassesOwn.never
  refine qss_cons ?_ ?_
  · refine rs_forR1 ?_ ?_ ?_ ?_ ?_ ?_ ?_ ?_
    · exact hpo
    · exact rfl
    · exact T.N_range
    · exact lk_law_range
    · refine ra_cons ?_ ?_ ?_
      · exact qe_int
      · exact qa_nil
      · decide +kernel
    · refine rg_name (i := 1) ?_ ?_ ?_ ?_
      · exact nd
      · exact (Or.inl lk_law__law_turn)
      · exact Or.inl rfl
      · exact rfl
    · refine qss_cons ?_ ?_
      · refine rs_set (i := 2) ?_ ?_ ?_ ?_ ?_ ?_
        · exact nd
        · exact (Or.inl lk_law__law_text_here)
        · refine re_call (CX := CX0) (k := kk__law_text) (f := t.f__law_text) (fd := t.d__law_text) (ps := ["_law_draws_here"]) ?_ ?_ ?_ ?_ ?_ ?_ ?_ ?_ ?_ ?_
          · exact C__law_text
          · exact hr.mono (by decide)
          · exact T.M__law_text
          · exact T.F__law_text.kp
          · exact T.B__law_text
          · exact lnk0
          · exact lk_law__law_text
          · exact dn__law_text
          · refine ra_cons ?_ ?_ ?_
            · refine re_call (CX := CX0) (k := kk__law_draws) (f := t.f__law_draws) (fd := t.d__law_draws) (ps := ["_law_script", "_law_many"]) ?_ ?_ ?_ ?_ ?_ ?_ ?_ ?_ ?_ ?_
              · exact C__law_draws
              · exact hr.mono (by decide)
              · exact T.M__law_draws
              · exact T.F__law_draws.kp
              · exact T.B__law_draws
              · exact lnk0
              · exact lk_law__law_draws
              · exact dn__law_draws
              · refine ra_cons ?_ ?_ ?_
                · refine qe_slice ?_ ?_ ?_
                  · refine re_var 0 ?_ ?_ ?_
                    · exact (Or.inl lk_law__law_script)
                    · exact dn__law_script
                    · exact rfl
                  · refine qo_some ?_
                    refine re_var 1 ?_ ?_ ?_
                    · exact (Or.inl lk_law__law_turn)
                    · exact dn__law_turn
                    · exact rfl
                  · exact qo_none
                · refine ra_cons ?_ ?_ ?_
                  · exact qe_int
                  · exact qa_nil
                  · decide +kernel
                · decide +kernel
              · decide +kernel
            · exact qa_nil
            · decide +kernel
          · decide +kernel
        · exact Or.inl rfl
        · exact rfl
        · decide +kernel
      · refine qss_cons ?_ ?_
        · refine rs_set (i := 3) ?_ ?_ ?_ ?_ ?_ ?_
          · exact nd
          · exact (Or.inl lk_law__law_found)
          · refine re_call (CX := CX0) (k := kk_is_name) (f := t.f_is_name) (fd := t.d_is_name) (ps := ["text"]) ?_ ?_ ?_ ?_ ?_ ?_ ?_ ?_ ?_ ?_
            · exact C_is_name
            · exact hr.mono (by decide)
            · exact T.M_is_name
            · exact T.F_is_name.kp
            · exact T.B_is_name
            · exact lnk0
            · exact lk_law_is_name
            · exact dn_is_name
            · refine ra_cons ?_ ?_ ?_
              · refine re_var 2 ?_ ?_ ?_
                · exact (Or.inl lk_law__law_text_here)
                · exact dn__law_text_here
                · exact rfl
              · exact qa_nil
              · decide +kernel
            · decide +kernel
          · exact Or.inl rfl
          · exact rfl
          · decide +kernel
        · refine qss_one ?_
          refine qs_if ?_ ?_ ?_
          · refine qt_w ?_
            refine qw_or ?_ ?_
            · refine qt_not ?_
              refine rt_tru ?_ ?_
              · refine re_isi .bl ?_ ?_ ?_ ?_ ?_ ?_ ?_ ?_ ?_ ?_
                · decide
                · exact T.N_isinstance
                · exact T.N_bool
                · exact lk_law_isinstance
                · exact lk_law_bool
                · refine re_var 3 ?_ ?_ ?_
                  · exact (Or.inl lk_law__law_found)
                  · exact dn__law_found
                  · exact rfl
                · exact bt_bool
                · exact nn_bool
                · exact dn_bool.1
                · decide +kernel
              · decide +kernel
            · refine qw_or1 ?_
              refine rt_cmp ?_ ?_ ?_ ?_
              · exact (op_neD hu)
              · refine re_var 3 ?_ ?_ ?_
                · exact (Or.inl lk_law__law_found)
                · exact dn__law_found
                · exact rfl
              · refine re_call (CX := CX0) (k := kk__law_due) (f := t.f__law_due) (fd := t.d__law_due) (ps := ["_law_text_here"]) ?_ ?_ ?_ ?_ ?_ ?_ ?_ ?_ ?_ ?_
                · exact C__law_due
                · exact hr.mono (by decide)
                · exact T.M__law_due
                · exact T.F__law_due.kp
                · exact T.B__law_due
                · exact lnk0
                · exact lk_law__law_due
                · exact dn__law_due
                · refine ra_cons ?_ ?_ ?_
                  · refine re_var 2 ?_ ?_ ?_
                    · exact (Or.inl lk_law__law_text_here)
                    · exact dn__law_text_here
                    · exact rfl
                  · exact qa_nil
                  · decide +kernel
                · decide +kernel
              · decide +kernel
          · refine qss_one ?_
            refine qs_ret ?_
            exact qe_bl
          · exact qss_nil
    · decide +kernel
  · refine qss_one ?_
    refine qs_ret ?_
    exact qe_bl
end
/-! ### the facts are made -/
theorem txt_mk {K : PySem.W.Frag} {h : Heap} {mg : Str → Option Value} (X : K.In h) (G : h.Ns mainGlobals mg) {f0 : Addr} {od0 an0 : Option Addr} {sl0 : Array (Option Value)} {oc0 kV0 dc0 pm0 cd0 ct0 : Value} (a0 : PySem.W.nsIn K mainGlobals "is_name" = some (some (.ref f0))) (l0 : K.lookup f0 = some ⟨oc0, od0, .func (PySem.W.fnOf "is_name" "is_name" (defArgs s_is_name) (defBody s_is_name) (defScope s_is_name) .none kV0 dc0 pm0 an0 cd0 ct0), sl0⟩) (c0 : PySem.W.codeIn K cd0 "is_name" = true) (k0 : PySem.W.keepIn K (.ref f0) = true) {f1 : Addr} {od1 an1 : Option Addr} {sl1 : Array (Option Value)} {oc1 kV1 dc1 pm1 cd1 ct1 : Value} (a1 : PySem.W.nsIn K mainGlobals "_law_draws" = some (some (.ref f1))) (l1 : K.lookup f1 = some ⟨oc1, od1, .func (PySem.W.fnOf "_law_draws" "_law_draws" (defArgs s__law_draws) (defBody s__law_draws) (defScope s__law_draws) .none kV1 dc1 pm1 an1 cd1 ct1), sl1⟩) (c1 : PySem.W.codeIn K cd1 "_law_draws" = true) (k1 : PySem.W.keepIn K (.ref f1) = true) {f2 : Addr} {od2 an2 : Option Addr} {sl2 : Array (Option Value)} {oc2 kV2 dc2 pm2 cd2 ct2 : Value} (a2 : PySem.W.nsIn K mainGlobals "_law_sign" = some (some (.ref f2))) (l2 : K.lookup f2 = some ⟨oc2, od2, .func (PySem.W.fnOf "_law_sign" "_law_sign" (defArgs s__law_sign) (defBody s__law_sign) (defScope s__law_sign) .none kV2 dc2 pm2 an2 cd2 ct2), sl2⟩) (c2 : PySem.W.codeIn K cd2 "_law_sign" = true) (k2 : PySem.W.keepIn K (.ref f2) = true) {f3 : Addr} {od3 an3 : Option Addr} {sl3 : Array (Option Value)} {oc3 kV3 dc3 pm3 cd3 ct3 : Value} (a3 : PySem.W.nsIn K mainGlobals "_law_taken" = some (some (.ref f3))) (l3 : K.lookup f3 = some ⟨oc3, od3, .func (PySem.W.fnOf "_law_taken" "_law_taken" (defArgs s__law_taken) (defBody s__law_taken) (defScope s__law_taken) .none kV3 dc3 pm3 an3 cd3 ct3), sl3⟩) (c3 : PySem.W.codeIn K cd3 "_law_taken" = true) (k3 : PySem.W.keepIn K (.ref f3) = true) {f4 : Addr} {od4 an4 : Option Addr} {sl4 : Array (Option Value)} {oc4 kV4 dc4 pm4 cd4 ct4 : Value} (a4 : PySem.W.nsIn K mainGlobals "_law_text" = some (some (.ref f4))) (l4 : K.lookup f4 = some ⟨oc4, od4, .func (PySem.W.fnOf "_law_text" "_law_text" (defArgs s__law_text) (defBody s__law_text) (defScope s__law_text) .none kV4 dc4 pm4 an4 cd4 ct4), sl4⟩) (c4 : PySem.W.codeIn K cd4 "_law_text" = true) (k4 : PySem.W.keepIn K (.ref f4) = true) {f5 : Addr} {od5 an5 : Option Addr} {sl5 : Array (Option Value)} {oc5 kV5 dc5 pm5 cd5 ct5 : Value} (a5 : PySem.W.nsIn K mainGlobals "_law_due" = some (some (.ref f5))) (l5 : K.lookup f5 = some ⟨oc5, od5, .func (PySem.W.fnOf "_law_due" "_law_due" (defArgs s__law_due) (defBody s__law_due) (defScope s__law_due) .none kV5 dc5 pm5 an5 cd5 ct5), sl5⟩) (c5 : PySem.W.codeIn K cd5 "_law_due" = true) (k5 : PySem.W.keepIn K (.ref f5) = true) {f6 : Addr} {od6 an6 : Option Addr} {sl6 : Array (Option Value)} {oc6 kV6 dc6 pm6 cd6 ct6 : Value} (a6 : PySem.W.nsIn K mainGlobals "law" = some (some (.ref f6))) (l6 : K.lookup f6 = some ⟨oc6, od6, .func (PySem.W.fnOf "law" "law" (defArgs s_law) (defBody s_law) (defScope s_law) .none kV6 dc6 pm6 an6 cd6 ct6), sl6⟩) (c6 : PySem.W.codeIn K cd6 "law" = true) (k6 : PySem.W.keepIn K (.ref f6) = true) (z0 : PySem.W.nsIn K mainGlobals "all" = some none) (z1 : PySem.W.nsIn K mainGlobals "bool" = some none) (z2 : PySem.W.nsIn K mainGlobals "isinstance" = some none) (z3 : PySem.W.nsIn K mainGlobals "len" = some none) (z4 : PySem.W.nsIn K mainGlobals "max" = some none) (z5 : PySem.W.nsIn K mainGlobals "range" = some none) (z6 : PySem.W.nsIn K mainGlobals "str" = some none) {ga0 : Addr} {go0 : Option Addr} {gi0 : Array Value} {gn0 : Nat} {gs0 : Array (Option Value)} (g0 : PySem.W.nsIn K mainGlobals "KEPT_WORDS" = some (some (.ref ga0))) (gl0 : K.lookup ga0 = some ⟨.type "tuple", go0, .seq gi0 gn0, gs0⟩) (gv0 : Vals [V.str "start", V.str "rule", V.str "row", V.str "mix", V.str "many", V.str "any", V.str "kind", V.str "not", V.str "both", V.str "either", V.str "way", V.str "mark"] gi0.toList) {gt1 : Tok} (g1 : PySem.W.nsIn K mainGlobals "LETTERS" = some (some (.str "abcdefghijklmnopqrstuvwxyz" gt1))) {gt2 : Tok} (g2 : PySem.W.nsIn K mainGlobals "LONGEST" = some (some (.int (8) gt2))) : ∃ t, Txt K mg t ∧ ∃ kV dc pm an cd ct, t.d_law = PySem.W.fnOf "law" "law" (defArgs s_law) (defBody s_law) (defScope s_law) .none kV dc pm an cd ct := by
  have F0 := fun_mk (st := s_is_name) l0 c0 k0
  have F1 := fun_mk (st := s__law_draws) l1 c1 k1
  have F2 := fun_mk (st := s__law_sign) l2 c2 k2
  have F3 := fun_mk (st := s__law_taken) l3 c3 k3
  have F4 := fun_mk (st := s__law_text) l4 c4 k4
  have F5 := fun_mk (st := s__law_due) l5 c5 k5
  have F6 := fun_mk (st := s_law) l6 c6 k6
  exact ⟨⟨f0, _, f1, _, f2, _, f3, _, f4, _, f5, _, f6, _⟩, ⟨F0, F0.binds (fun _ _ _ _ _ _ us hl => match us, hl with | [_], _ => rfl), PySem.W.mg_of X G a0, F1, F1.binds (fun _ _ _ _ _ _ us hl => match us, hl with | [_, _], _ => rfl), PySem.W.mg_of X G a1, F2, F2.binds (fun _ _ _ _ _ _ us hl => match us, hl with | [_, _], _ => rfl), PySem.W.mg_of X G a2, F3, F3.binds (fun _ _ _ _ _ _ us hl => match us, hl with | [], _ => rfl), PySem.W.mg_of X G a3, F4, F4.binds (fun _ _ _ _ _ _ us hl => match us, hl with | [_], _ => rfl), PySem.W.mg_of X G a4, F5, F5.binds (fun _ _ _ _ _ _ us hl => match us, hl with | [_], _ => rfl), PySem.W.mg_of X G a5, F6, F6.binds (fun _ _ _ _ _ _ us hl => match us, hl with | [_], _ => rfl), PySem.W.mg_of X G a6, PySem.W.mg_none_of X G z0, PySem.W.mg_none_of X G z1, PySem.W.mg_none_of X G z2, PySem.W.mg_none_of X G z3, PySem.W.mg_none_of X G z4, PySem.W.mg_none_of X G z5, PySem.W.mg_none_of X G z6, ⟨.ref ga0, .ref ga0, PySem.W.mg_of X G g0, rfl, fun ρ H => by unfold g_KEPT_WORDS Rep; exact ⟨ga0, _, rfl, .inr ⟨_, gi0, gn0, gl0, rfl, rfl, by have := gv0.length; rw [← Array.length_toList, ← this]; decide, gv0⟩, by simp only [Reps, Rep]; simp⟩⟩, ⟨_, V.str "abcdefghijklmnopqrstuvwxyz", PySem.W.mg_of X G g1, ⟨_, rfl⟩, fun ρ H => by unfold g_LETTERS Rep; rfl⟩, ⟨_, V.int (8), PySem.W.mg_of X G g2, ⟨_, rfl⟩, fun ρ H => by unfold g_LONGEST Rep; rfl⟩⟩, _, _, _, _, _, _, rfl⟩
section
variable {P : Program} {w : World} {K : PySem.W.Frag} {mg : Str → Option Value} {base : Heap} {t : Adr}
theorem law_ok (T : Txt K mg t) : FnOk P w K mg base CX0 3 t.f_law t.d_law ["_law_script"] (spOf K mg 1 m_law) := by
  have C_is_name := ok_is_name (P := P) (w := w) (base := base) T
  have C__law_draws := ok__law_draws (P := P) (w := w) (base := base) T
  have C__law_sign := ok__law_sign (P := P) (w := w) (base := base) T
  have C__law_taken := ok__law_taken (P := P) (w := w) (base := base) T
  have C__law_text := ok__law_text (P := P) (w := w) (base := base) T C__law_sign C__law_taken
  have C__law_due := ok__law_due (P := P) (w := w) (base := base) T C__law_taken
  have C_law := ok_law (P := P) (w := w) (base := base) T C_is_name C__law_draws C__law_text C__law_due
  exact C_law
end
end K11

end

section
set_option Elab.async false
set_option linter.all false
set_option maxRecDepth 100000
set_option maxHeartbeats 4000000
namespace K11
open PySem PySem.Spec L2 L3
def letters : Str := "abcdefghijklmnopqrstuvwxyz"
def sgn (c : Nat) : Bool := !(Builtin.Str.occurrences letters ⟨#[c]⟩ 0 letters.length 1).isEmpty
def words : List Str := ["start", "rule", "row", "mix", "many", "any", "kind", "not", "both", "either", "way", "mark"]
def kept (t : Str) : Bool := words.any fun y => y == t
def isNm (t : Str) : Bool := (!kept t && (decide (1 ≤ (t.length : Int)) && decide ((t.length : Int) ≤ 8))) && t.cps.toList.all sgn
theorem inB_words (t : Str) (G : DH) (h : PyData.strOk t = true) : inB (.str t) (words.map D.str) G = some (kept t) := by
  have e1 : toP G deep (.str t) = some (.str t) := rfl
  have e2 : optMap (toP G deep) (words.map D.str) = some (words.map PyData.str) := rfl
  unfold inB
  rw [e1, e2]
  dsimp only
  have c1 : (PyData.str t).canLay0 = true := by simpa [PyData.canLay0] using h
  have c2 : PyData.canLayAll0 (words.map PyData.str) = true := by decide +kernel
  have c3 : min (PyData.depthAll (words.map PyData.str)) (PyData.str t).depth ≤ 180 := by
    have : PyData.depthAll (words.map PyData.str) ≤ 180 := by decide +kernel
    omega
  rw [if_pos (by rw [c1, c2]; simpa using c3)]
  simp only [kept, List.any_map]
  congr 1
end K11

end

section
set_option Elab.async false
set_option linter.all false
set_option maxRecDepth 100000
set_option maxHeartbeats 4000000
namespace K11
open PySem PySem.Spec L2 L3
theorem comp_signs (τ : DS) (n : Nat) : ∀ (cs : List Nat) (acc : List D) (G0 E : DH), G0.length = n → acc.length + cs.length ≤ 1000 →
    compP [] tYes (eOp (dIn false) (eVar 0) (eC g_LETTERS)) n (cs.map fun c => .str ⟨#[c]⟩) τ (G0 ++ [.lst acc]) = .ok (.obj n) (G0 ++ [.lst (acc ++ cs.map fun c => .bl (sgn c))])
  | [], acc, G0, E, hn, hl => by simp [compP]
  | c :: cs, acc, G0, E, hn, hl => by
    have hl' : acc.length + (cs.length + 1) ≤ 1000 := by simpa using hl
    have e : compOne [] tYes (eOp (dIn false) (eVar 0) (eC g_LETTERS)) n (.str ⟨#[c]⟩) τ (G0 ++ [.lst acc]) = some (G0 ++ [.lst (acc ++ [.bl (sgn c)])]) := by
      subst hn
      have hs : acc.length < sizeLine := by rw [sizeLine_eq]; omega
      simp only [compOne, tYes, M.ret, eOp, M.bind, eVar, eC, g_LETTERS, dIn, seqOf, List.getElem?_cons_zero, getElem?_concat_self, if_pos hs, Bool.false_xor]
      rw [List.set_append_right _ _ (Nat.le_refl _)]
      simp [sgn, letters]
    rw [List.map_cons, compP, e]
    dsimp only
    have ih := comp_signs τ n cs (acc ++ [D.bl (sgn c)]) G0 E hn (by simp; omega)
    rw [ih]
    simp
theorem bls_map (bs : List Bool) : blsOf (bs.map D.bl) = some bs := by
  induction bs with
  | nil => rfl
  | cons b r ih => simp [blsOf, ih]
theorem is_name_eq (t : Str) (G : DH) (h : PyData.strOk t = true) (hl : t.length ≤ 1000) : ∃ E, m_is_name [.str t] G = .ok (.bl (isNm t)) (G ++ E) := by
  have hz : t.length ≤ sizeLine := by rw [sizeLine_eq]; omega
  have hk := inB_words t G h
  have ek : g_KEPT_WORDS = .tup (words.map D.str) := rfl
  have hc := comp_signs [some (.str t)] G.length t.cps.toList [] G [] rfl (by simpa [Str.length] using hl)
  have eq0 : dEqB (.int t.length) (.int 0) G = some (((t.length : Int) == 0)) := by
    unfold dEqB
    simp [toP, PyData.canLay0, PyData.depth, PyData.eqv]
  cases hkk : kept t with
  | true =>
    refine ⟨[], ?_⟩
    rw [hkk] at hk
    simp [m_is_name, noX, runB, b_is_name, sSeq, sIf, sBind, tOrD, tNotD, tTruth, M.bind, eIsi, eVar, dIsi, tyD, Ty.is, dTru, M.ret, tBl, eOp, eC, dIn, seqOf, ek, hk, sRet, isNm, hkk]
  | false =>
    rw [hkk] at hk
    by_cases h0 : ((t.length : Int) == 0) = true
    · refine ⟨[], ?_⟩
      have h1 : ¬ (1 ≤ (t.length : Int)) := by have := eq_of_beq h0; omega
      simp [m_is_name, noX, runB, b_is_name, sSeq, sIf, sBind, tOrD, tNotD, tTruth, M.bind, eIsi, eVar, dIsi, tyD, Ty.is, dTru, M.ret, tBl, eOp, eC, dIn, seqOf, ek, hk, sRet, isNm, hkk, sSkip, eArgs, aCons, aNil, dLen, hz, dEq, eq0, h0, h1]
    · have h0' : ((t.length : Int) == 0) = false := by simpa using h0
      have h1 : 1 ≤ (t.length : Int) := by
        have : ¬ (t.length : Int) = 0 := fun z => h0 (by rw [z]; rfl)
        omega
      by_cases h8 : 8 < (t.length : Int)
      · refine ⟨[], ?_⟩
        have h9 : ¬ ((t.length : Int) ≤ 8) := by omega
        simp [m_is_name, noX, runB, b_is_name, sSeq, sIf, sBind, tOrD, tNotD, tTruth, M.bind, eIsi, eVar, dIsi, tyD, Ty.is, dTru, M.ret, tBl, eOp, eC, dIn, seqOf, ek, hk, sRet, isNm, hkk, sSkip, eArgs, aCons, aNil, dLen, hz, dEq, eq0, h0', dInt2, g_LONGEST, h8, h9]
      · refine ⟨[.lst (t.cps.toList.map fun c => .bl (sgn c))], ?_⟩
        have h9 : (t.length : Int) ≤ 8 := by omega
        have hb : blsOf (t.cps.toList.map fun c => D.bl (sgn c)) = some (t.cps.toList.map sgn) := by
          have := bls_map (t.cps.toList.map sgn)
          rw [List.map_map] at this
          exact this
        simp only [List.nil_append] at hc
        simp [m_is_name, noX, runB, b_is_name, sSeq, sIf, sBind, tOrD, tNotD, tTruth, M.bind, eIsi, eVar, dIsi, tyD, Ty.is, dTru, M.ret, tBl, eOp, eC, dIn, seqOf, ek, hk, sRet, isNm, hkk, sSkip, eArgs, aCons, aNil, dLen, hz, dEq, eq0, h0', dInt2, g_LONGEST, h8, h9, h1]
        have hE : eComp [] (eVar 0) tYes (eOp (dIn false) (eVar 0) (eC g_LETTERS)) [some (D.str t)] G = .ok (.obj G.length) (G ++ [.lst (t.cps.toList.map fun c => .bl (sgn c))]) := by
          unfold eComp
          dsimp only [M.bind]
          rw [show eVar 0 [some (D.str t)] G = .ok (.str t) G from rfl]
          exact hc
        rw [hE]
        simp [dAll, seqOf, hb]
/-! ### what is due -/
theorem sgn_in (c : Nat) (G : DH) : dIn true (.str ⟨#[c]⟩) (.str "abcdefghijklmnopqrstuvwxyz") G = .ok (.bl (!sgn c)) G := by
  simp [dIn, seqOf, sgn, letters]
theorem due_loop (t : Str) (G : DH) : ∀ (cs : List Nat) (a : Option D), ∃ r, forP (gN 1) L0__law_due (cs.map fun c => .str ⟨#[c]⟩) [some (.str t), a] G = (if cs.all sgn then .nx [some (.str t), r] G else .rt (.bl false) G)
  | [], a => ⟨a, by simp [forP]⟩
  | c :: cs, a => by
    obtain ⟨r, ih⟩ := due_loop t G cs (some (.str ⟨#[c]⟩))
    cases hs : sgn c with
    | true =>
      refine ⟨r, ?_⟩
      have e : L0__law_due [some (.str t), some (.str ⟨#[c]⟩)] G = .nx [some (.str t), some (.str ⟨#[c]⟩)] G := by
        simp [L0__law_due, sIf, sBind, tBl, M.bind, M.ret, eOp, eVar, eC, sgn_in, hs, sSkip, sRet]
      rw [List.map_cons, forP]
      simp only [gN, List.set_cons_succ, List.set_cons_zero, e]
      rw [ih]
      simp [hs]
    | false =>
      refine ⟨none, ?_⟩
      have e : L0__law_due [some (.str t), some (.str ⟨#[c]⟩)] G = .rt (.bl false) G := by
        simp [L0__law_due, sIf, sBind, tBl, M.bind, M.ret, eOp, eVar, eC, sgn_in, hs, sSkip, sRet]
      rw [List.map_cons, forP]
      simp only [gN, List.set_cons_succ, List.set_cons_zero, e]
      simp [hs]
theorem taken_eq (G : DH) : m__law_taken [] G = .ok (.obj G.length) (G ++ [.lst (words.map D.str)]) := by
  have hz : (12 : Nat) ≤ sizeLine := by rw [sizeLine_eq]; omega
  simp [m__law_taken, noX, runB, b__law_taken, sRet, sBind, eArgs, aCons, aNil, M.bind, M.ret, eC, dNew, hz, words]
theorem due_eq (t : Str) (G : DH) (h : PyData.strOk t = true) (hl : t.length ≤ 1000) : ∃ E, m__law_due [.str t] G = .ok (.bl (isNm t)) (G ++ E) := by
  have hz : t.length ≤ sizeLine := by rw [sizeLine_eq]; omega
  obtain ⟨r, hL⟩ := due_loop t G t.cps.toList none
  have hk := inB_words t (G ++ [.lst (words.map D.str)]) h
  by_cases hs : t.cps.toList.all sgn = true
  · rw [if_pos hs] at hL
    have hs2 : t.cps.all sgn = true := by simpa using hs
    by_cases h1 : (1 : Int) ≤ (t.length : Int)
    · by_cases h9 : (t.length : Int) ≤ 8
      · refine ⟨[.lst (words.map D.str)], ?_⟩
        have hT := taken_eq G
        simp [m__law_due, noX, runB, b__law_due, sSeq, sForIn, sBind, eVar, hL, isNm, hs2, sRet, eAnd, M.bind, M.ret, eChain, eC, eArgs, aCons, aNil, dLen, seqOf, hz, dInt2, h1, h9, eOp, eCall, hT, dIn, hk]
      · refine ⟨[], ?_⟩
        simp [m__law_due, noX, runB, b__law_due, sSeq, sForIn, sBind, eVar, hL, isNm, hs2, sRet, eAnd, M.bind, M.ret, eChain, eC, eArgs, aCons, aNil, dLen, seqOf, hz, dInt2, h1, h9]
    · refine ⟨[], ?_⟩
      simp [m__law_due, noX, runB, b__law_due, sSeq, sForIn, sBind, eVar, hL, isNm, hs2, sRet, eAnd, M.bind, M.ret, eChain, eC, eArgs, aCons, aNil, dLen, seqOf, hz, dInt2, h1]
  · rw [if_neg hs] at hL
    refine ⟨[], ?_⟩
    have hs' : t.cps.toList.all sgn = false := by simpa using hs
    have hs2 : t.cps.all sgn = false := by simpa using hs'
    simp [m__law_due, noX, runB, b__law_due, sSeq, sForIn, sBind, eVar, hL, isNm, hs2]
end K11

end

section
set_option Elab.async false
set_option linter.all false
set_option maxRecDepth 100000
set_option maxHeartbeats 4000000
namespace K11
open PySem PySem.Spec L2 L3
def good (t : Str) : Prop := PyData.strOk t = true ∧ t.length ≤ 100
theorem ix_lit (z : Str) (i : Int) (G : DH) (h0 : 0 ≤ i) (h1 : i < z.length) (hz : z.length ≤ 1000) (hok : PyData.strOk z = true) : ∃ s, dIx (.str z) (.int i) G = .ok (.str s) G ∧ PyData.strOk s = true ∧ s.length = 1 := by
  have hs : z.length ≤ sizeLine := by rw [sizeLine_eq]; omega
  have hi : i.toNat < z.cps.toList.length := by
    have : z.length = z.cps.toList.length := by simp [Str.length]
    omega
  have e : atI z.cps.toList i = some z.cps.toList[i.toNat] := by
    have := atI_nat (xs := z.cps.toList) (j := i.toNat) (v := z.cps.toList[i.toNat]) (List.getElem?_eq_getElem hi)
    rwa [show ((i.toNat : Nat) : Int) = i by omega] at this
  refine ⟨⟨#[z.cps.toList[i.toNat]]⟩, ?_, ?_, rfl⟩
  · simp only [dIx, seqOf, if_pos hs, e]
  · have h2 : z.cps.toList.all (· < 0x110000) = true := by simpa [PyData.strOk] using hok
    have := List.all_eq_true.mp h2 _ (List.getElem_mem hi)
    simpa [PyData.strOk] using this
theorem dEq_int (i j : Int) (G : DH) : dEq false (.int i) (.int j) G = .ok (.bl (i == j)) G := by
  simp [dEq, dEqB, toP, PyData.canLay0, PyData.depth, PyData.eqv]
theorem sign_eq (c w : Int) (G : DH) : ∃ s, m__law_sign [.int c, .int w] G = .ok (.str s) G ∧ PyData.strOk s = true ∧ s.length = 1 := by
  obtain ⟨s1, e1, k1, l1⟩ := ix_lit "abcdefghijklmnopqrstuvwxyz" (c / 5 % 26) G (by omega) (by show c / 5 % 26 < ((26 : Nat) : Int); omega) (by decide +kernel) (by decide +kernel)
  obtain ⟨s2, e2, k2, l2⟩ := ix_lit "0123456789 !\"#$&'()*+,-./:;<=>?@ABCDEFGHIJKLMNOPQRSTUVWXYZ[\\]^_`{|}~" (c / 5 % 68) G (by omega) (by rw [show (("0123456789 !\"#$&'()*+,-./:;<=>?@ABCDEFGHIJKLMNOPQRSTUVWXYZ[\\]^_`{|}~" : Str).length : Int) = 68 by decide +kernel]; omega) (by decide +kernel) (by decide +kernel)
  by_cases hw : (w == 0) = true
  · refine ⟨s1, ?_, k1, l1⟩
    simp [m__law_sign, noX, runB, b__law_sign, sSeq, sSet, sBind, sIf, tOrD, tBl, M.bind, M.ret, eOp, eVar, eC, dEq_int, hw, sRet, dInt2, e1]
  · have hw' : (w == 0) = false := by simpa using hw
    by_cases h4 : c % 5 < 4
    · refine ⟨s1, ?_, k1, l1⟩
      simp [m__law_sign, noX, runB, b__law_sign, sSeq, sSet, sBind, sIf, tOrD, tBl, M.bind, M.ret, eOp, eVar, eC, dEq_int, hw', sRet, dInt2, e1, h4]
    · refine ⟨s2, ?_, k2, l2⟩
      simp [m__law_sign, noX, runB, b__law_sign, sSeq, sSet, sBind, sIf, tOrD, tBl, M.bind, M.ret, eOp, eVar, eC, dEq_int, hw', sRet, dInt2, e2, h4, sSkip]
theorem good_add {a b : Str} (ha : PyData.strOk a = true) (hb : PyData.strOk b = true) : PyData.strOk (a ++ b) = true := by
  have e : (a ++ b).cps = a.cps ++ b.cps := rfl
  unfold PyData.strOk at *
  rw [e, Array.all_append, ha, hb]; rfl
theorem len_add (a b : Str) : (a ++ b).length = a.length + b.length := by
  show (a.cps ++ b.cps).size = a.cps.size + b.cps.size
  simp
end K11

end

section
set_option Elab.async false
set_option linter.all false
set_option maxRecDepth 100000
set_option maxHeartbeats 4000000
namespace K11
open PySem PySem.Spec L2 L3
theorem lstOf_app {G E : DH} {n : Nat} {o : DO} (h : G[n]? = some o) : (G ++ E)[n]? = some o := by
  rw [List.getElem?_append_left (List.getElem?_eq_some_iff.mp h).1]; exact h
/-- one turn of the draws -/
theorem draw_turn (ns pre : List Int) (G : DH) (n : Nat) (k : Nat) (c : Option D) (a3 : Option D) (hn : G[n]? = some (.lst (ns.map .int))) (hl : ns.length ≤ 63) (hp : pre.length ≤ 100) :
    ∃ (x : Int) (c' : Option D), L0__law_draws [some (.obj n), some (.int 13), some (.obj G.length), some (.int (0 + (k : Int))), c] (G ++ [.lst (pre.map .int)]) =
      .nx [some (.obj n), some (.int 13), some (.obj G.length), some (.int (0 + (k : Int))), c'] (G ++ [.lst ((pre ++ [x]).map .int)]) := by
  have hn' : (G ++ [DO.lst (pre.map D.int)])[n]? = some (.lst (ns.map .int)) := lstOf_app hn
  have hpz : pre.length < sizeLine := by rw [sizeLine_eq]; omega
  have hset : ∀ x : Int, (G ++ [DO.lst (pre.map D.int)]).set G.length (.lst (pre.map D.int ++ [D.int x])) = G ++ [.lst ((pre ++ [x]).map .int)] := fun x => by
    rw [List.set_append_right _ _ (Nat.le_refl _)]; simp
  by_cases h0 : 0 < (ns.length : Int)
  · have hm : (0 : Int) ≤ (k : Int) % (ns.length : Int) ∧ (k : Int) % (ns.length : Int) < ns.length := ⟨Int.emod_nonneg _ (by omega), Int.emod_lt_of_pos _ h0⟩
    have hi : ((k : Int) % (ns.length : Int)).toNat < ns.length := by omega
    have e : atI (ns.map D.int) ((k : Int) % (ns.length : Int)) = some (.int ns[((k : Int) % (ns.length : Int)).toNat]) := by
      have := atI_nat (xs := ns.map D.int) (j := ((k : Int) % (ns.length : Int)).toNat) (v := .int ns[((k : Int) % (ns.length : Int)).toNat]) (by simp [hi])
      rwa [show ((((k : Int) % (ns.length : Int)).toNat : Nat) : Int) = (k : Int) % (ns.length : Int) by omega] at this
    have hmx : (if (ns.length : Int) > 1 then (ns.length : Int) else 1) = ns.length := by split <;> omega
    have hlt : (ns.length : Int) < 1073741824 := by omega
    have h0' : 0 < ns.length := by omega
    have hlt' : ns.length < 1073741824 := by omega
    have hmx' : (if 1 < ns.length then (ns.length : Int) else 1) = ns.length := by split <;> omega
    refine ⟨ns[((k : Int) % (ns.length : Int)).toNat] % 1000000000000000000 + 7919 * ((k : Int) / (ns.length : Int)), some (.int (ns[((k : Int) % (ns.length : Int)).toNat] % 1000000000000000000)), ?_⟩
    rw [← hset]
    simp [L0__law_draws, sSeq, sSet, sExpr, sBind, sIf, tBl, M.bind, M.ret, eOp, eVar, eC, eArgs, aCons, aNil, dLen, seqOf, hn', dInt2, dInt2L, h0, h0', dIx, e, hmx, hmx', hlt, hlt', dAdd, eMethT, kindOk, dAppend, hpz]
  · have h1 : ns = [] := by
      cases ns with
      | nil => rfl
      | cons a r => exact absurd (by simp) h0
    subst h1
    refine ⟨0 + 7919 * ((k : Int) / 1), some (.int 0), ?_⟩
    rw [← hset]
    simp at hn'
    simp [L0__law_draws, sSeq, sSet, sExpr, sBind, sIf, tBl, M.bind, M.ret, eOp, eVar, eC, eArgs, aCons, aNil, dLen, seqOf, hn', dInt2, dInt2L, dAdd, eMethT, kindOk, dAppend, hpz, sSkip]
theorem draws_loop (ns : List Int) (G : DH) (n : Nat) (hn : G[n]? = some (.lst (ns.map .int))) (hl : ns.length ≤ 63) : ∀ (m j : Nat) (pre : List Int) (a3 a4 : Option D), pre.length + m ≤ 100 →
    ∃ (ds : List Int) (b3 b4 : Option D), ds.length = m ∧ forP (gN 3) L0__law_draws ((List.range' j m).map fun (k : Nat) => .int (0 + (k : Int))) [some (.obj n), some (.int 13), some (.obj G.length), a3, a4] (G ++ [.lst (pre.map .int)]) =
      .nx [some (.obj n), some (.int 13), some (.obj G.length), b3, b4] (G ++ [.lst ((pre ++ ds).map .int)])
  | 0, j, pre, a3, a4, h => ⟨[], a3, a4, rfl, by simp [forP]⟩
  | m + 1, j, pre, a3, a4, h => by
    obtain ⟨x, c', e⟩ := draw_turn ns pre G n j a4 none hn hl (by omega)
    obtain ⟨ds, b3, b4, hd, ih⟩ := draws_loop ns G n hn hl m (j + 1) (pre ++ [x]) (some (.int (0 + (j : Int)))) c' (by simp; omega)
    refine ⟨x :: ds, b3, b4, by simp [hd], ?_⟩
    rw [List.range'_succ, List.map_cons, forP]
    simp only [gN, List.set_cons_succ, List.set_cons_zero, e]
    rw [ih]
    simp
theorem draws_eq (ns : List Int) (G : DH) (n : Nat) (hn : G[n]? = some (.lst (ns.map .int))) (hl : ns.length ≤ 63) : ∃ ds : List Int, ds.length = 13 ∧ m__law_draws [.obj n, .int 13] G = .ok (.obj G.length) (G ++ [.lst (ds.map .int)]) := by
  have hz : (0 : Nat) ≤ sizeLine := Nat.zero_le _
  obtain ⟨ds, b3, b4, hd, e⟩ := draws_loop ns G n hn hl 13 0 [] none none (by simp)
  refine ⟨ds, hd, ?_⟩
  rw [List.range_eq_range'.symm] at e
  have e' : forP (gN 3) L0__law_draws ((List.range 13).map fun (k : Nat) => .int (0 + (k : Int))) [some (.obj n), some (.int 13), some (.obj G.length), none, none] (G ++ [.lst []]) = .nx [some (.obj n), some (.int 13), some (.obj G.length), b3, b4] (G ++ [.lst (ds.map .int)]) := by
    simpa using e
  have hr : rng1 [.int 13] = some ((List.range 13).map fun (k : Nat) => .int (0 + (k : Int))) := by
    show (if -(2 ^ 62) ≤ (13 : Int) ∧ (13 : Int) < 2 ^ 62 then some ((List.range (13 : Int).toNat).map fun (k : Nat) => D.int (0 + (k : Int))) else none) = _
    rw [if_pos (by decide)]; rfl
  simp only [m__law_draws, noX, runB, b__law_draws, sSeq, sSet, sBind, eArgs, aNil, M.ret, M.bind, dNew, List.length_nil, if_pos hz, sForRng, aCons, eVar, List.map_cons, List.map_nil, List.length_cons]
  simp only [show (5 - (0 + 1 + 1)) = 3 from rfl, List.replicate, List.cons_append, List.nil_append, List.set_cons_succ, List.set_cons_zero, List.getElem?_cons_succ, List.getElem?_cons_zero]
  rw [hr]
  simp only [e', sRet, sBind, eVar, List.getElem?_cons_succ, List.getElem?_cons_zero]
end K11

end

section
set_option Elab.async false
set_option linter.all false
set_option maxRecDepth 100000
set_option maxHeartbeats 4000000
namespace K11
open PySem PySem.Spec L2 L3
theorem atI_ints {ds : List Int} {i : Int} (h0 : 0 ≤ i) (h1 : i < ds.length) : atI (ds.map D.int) i = some (.int (ds.getD i.toNat 0)) := by
  have hi : i.toNat < ds.length := by omega
  have := atI_nat (xs := ds.map D.int) (j := i.toNat) (v := .int (ds.getD i.toNat 0)) (by simp [hi, List.getD_eq_getElem?_getD])
  rwa [show ((i.toNat : Nat) : Int) = i by omega] at this
/-- the loop of the signs -/
theorem text_loop (ds : List Int) (G : DH) (n : Nat) (a1 : Option D) (hn : G[n]? = some (.lst (ds.map .int))) (hl : ds.length = 13) : ∀ (m j : Nat) (t : Str) (a3 : Option D), j + m ≤ 10 → PyData.strOk t = true → t.length ≤ j →
    ∃ (u : Str) (b3 : Option D), PyData.strOk u = true ∧ u.length ≤ j + m ∧ forP (gN 3) L0__law_text ((List.range' j m).map fun (k : Nat) => .int (0 + (k : Int))) [some (.obj n), a1, some (.str t), a3] G = .nx [some (.obj n), a1, some (.str u), b3] G
  | 0, j, t, a3, h, k1, k2 => ⟨t, a3, k1, k2, by simp [forP]⟩
  | m + 1, j, t, a3, h, k1, k2 => by
    obtain ⟨x, e2⟩ : ∃ x, atI (ds.map D.int) (2 + (j : Int)) = some (.int x) := ⟨_, atI_ints (by omega) (by omega)⟩
    obtain ⟨y, e1⟩ : ∃ y, atI (ds.map D.int) 1 = some (.int y) := ⟨_, atI_ints (by omega) (by omega)⟩
    obtain ⟨s, es, ks, ls⟩ := sign_eq x (y % 2) G
    have hz : t.length + s.length ≤ sizeLine := by rw [sizeLine_eq]; omega
    have e : L0__law_text [some (.obj n), a1, some (.str t), some (.int (0 + (j : Int)))] G = .nx [some (.obj n), a1, some (.str (t ++ s)), some (.int (0 + (j : Int)))] G := by
      simp [L0__law_text, sSet, sBind, eOp, M.bind, eVar, eCall, eArgs, aCons, aNil, M.ret, eC, dIx, seqOf, hn, dAdd, e1, e2, dInt2, es, hz]
    obtain ⟨u, b3, ku, lu, ih⟩ := text_loop ds G n a1 hn hl m (j + 1) (t ++ s) (some (.int (0 + (j : Int)))) (by omega) (good_add k1 ks) (by rw [len_add]; omega)
    refine ⟨u, b3, ku, by omega, ?_⟩
    rw [List.range'_succ, List.map_cons, forP]
    simp only [gN, List.set_cons_succ, List.set_cons_zero, e]
    rw [ih]
theorem rng1_of {j : Int} (h0 : 0 ≤ j) (h1 : j < 100) : rng1 [.int j] = some ((List.range' 0 j.toNat).map fun (k : Nat) => .int (0 + (k : Int))) := by
  show (if -(2 ^ 62) ≤ j ∧ j < 2 ^ 62 then some ((List.range j.toNat).map fun (k : Nat) => D.int (0 + (k : Int))) else none) = _
  rw [if_pos ⟨by omega, by omega⟩, List.range_eq_range']
theorem cut_words : ∀ w ∈ words, PyData.strOk w = true ∧ w.length ≤ 8 ∧ PyData.strOk (Txt.slice w none (some (-1))) = true ∧ (Txt.slice w none (some (-1))).length ≤ 8 := by decide +kernel
theorem text_eq (ds : List Int) (G : DH) (n : Nat) (hn : G[n]? = some (.lst (ds.map .int))) (hl : ds.length = 13) : ∃ t E, PyData.strOk t = true ∧ t.length ≤ 1000 ∧ m__law_text [.obj n] G = .ok (.str t) (G ++ E) := by
  have a0 : atI (ds.map D.int) 0 = some (.int (ds.getD (0 : Int).toNat 0)) := atI_ints (by omega) (by omega)
  have a1 : atI (ds.map D.int) 1 = some (.int (ds.getD (1 : Int).toNat 0)) := atI_ints (by omega) (by omega)
  have a2 : atI (ds.map D.int) 2 = some (.int (ds.getD (2 : Int).toNat 0)) := atI_ints (by omega) (by omega)
  have a3 : atI (ds.map D.int) 3 = some (.int (ds.getD (3 : Int).toNat 0)) := atI_ints (by omega) (by omega)
  generalize ds.getD (0 : Int).toNat 0 = d0 at a0
  generalize ds.getD (1 : Int).toNat 0 = d1 at a1
  generalize ds.getD (2 : Int).toNat 0 = d2 at a2
  generalize ds.getD (3 : Int).toNat 0 = d3 at a3
  by_cases h2 : (d0 % 3 == 2) = true
  · -- a word
    have hn1 : (G ++ [DO.lst (words.map D.str)])[n]? = some (.lst (ds.map .int)) := lstOf_app hn
    have hT := taken_eq G
    have hi : (d1 % 12).toNat < words.length := by show (d1 % 12).toNat < 12; omega
    have aw : atI (words.map D.str) (d1 % 12) = some (.str words[(d1 % 12).toNat]) := by
      have := atI_nat (xs := words.map D.str) (j := (d1 % 12).toNat) (v := .str words[(d1 % 12).toNat]) (by simp [hi])
      rwa [show (((d1 % 12).toNat : Nat) : Int) = d1 % 12 by omega] at this
    obtain ⟨w1, w2, w3, w4⟩ := cut_words words[(d1 % 12).toNat] (List.getElem_mem hi)
    generalize words[(d1 % 12).toNat] = wd at aw w1 w2 w3 w4
    obtain ⟨s, es, ks, ls⟩ := sign_eq d3 0 (G ++ [DO.lst (words.map D.str)])
    have hz : wd.length + s.length ≤ sizeLine := by rw [sizeLine_eq]; omega
    have hz2 : wd.length ≤ sizeLine := by rw [sizeLine_eq]; omega
    have hz4 : (4 : Nat) ≤ sizeLine := by rw [sizeLine_eq]; omega
    have run : ∀ r, atI [D.str wd, D.str wd, D.str (wd ++ s), D.str (Txt.slice wd none (some (-1)))] (d2 % 4) = some r → m__law_text [.obj n] G = .ok r (G ++ [DO.lst (words.map D.str), .lst [D.str wd, D.str wd, D.str (wd ++ s), D.str (Txt.slice wd none (some (-1)))]]) := fun r hr => by
      have hn2 : (G ++ [DO.lst (words.map D.str), .lst [D.str wd, D.str wd, D.str (wd ++ s), D.str (Txt.slice wd none (some (-1)))]])[n]? = some (.lst (ds.map .int)) := lstOf_app hn
      have hg : (G ++ [DO.lst (words.map D.str), .lst [D.str wd, D.str wd, D.str (wd ++ s), D.str (Txt.slice wd none (some (-1)))]])[G.length + 1]? = some (.lst [D.str wd, D.str wd, D.str (wd ++ s), D.str (Txt.slice wd none (some (-1)))]) := by simp
      simp [m__law_text, noX, runB, b__law_text, sSeq, sIf, sBind, tBl, M.bind, M.ret, eOp, eVar, eC, dIx, seqOf, hn, hn1, hn2, hg, a0, a1, a2, a3, dInt2, dEq_int, h2, sSet, eCall, eArgs, aNil, aCons, hT, aw, sRet, es, dAdd, hz, eSl, oNone, oSome, eNeg, dSl, hz2, dNew, hz4, hr]
    have c4 : d2 % 4 = 0 ∨ d2 % 4 = 1 ∨ d2 % 4 = 2 ∨ d2 % 4 = 3 := by omega
    rcases c4 with c | c | c | c
    · exact ⟨wd, _, w1, by omega, run _ (by rw [c]; rfl)⟩
    · exact ⟨wd, _, w1, by omega, run _ (by rw [c]; rfl)⟩
    · exact ⟨wd ++ s, _, good_add w1 ks, by rw [len_add]; omega, run _ (by rw [c]; rfl)⟩
    · exact ⟨_, _, w3, by omega, run _ (by rw [c]; rfl)⟩
  · have h2' : (d0 % 3 == 2) = false := by simpa using h2
    obtain ⟨u, b3, ku, lu, e⟩ := text_loop ds G n none hn hl (d0 / 3 % 11).toNat 0 "" none (by omega) (by decide +kernel) (by decide +kernel)
    have hr := rng1_of (j := d0 / 3 % 11) (by omega) (by omega)
    refine ⟨u, [], ku, by omega, ?_⟩
    simp only [m__law_text, noX, runB, b__law_text, sSeq, sIf, sBind, tBl, M.bind, M.ret, eOp, eVar, eC, dIx, seqOf, List.map_cons, List.map_nil, List.length_cons, List.length_nil]
    simp only [show (4 - (0 + 1)) = 3 from rfl, List.replicate, List.cons_append, List.nil_append, List.set_cons_succ, List.set_cons_zero, List.getElem?_cons_succ, List.getElem?_cons_zero, hn, a0, dInt2]
    simp only [show decide ((0 : Int) < 3) = true from rfl, if_true, M.ret, dEq_int, h2', Bool.false_eq_true, if_false, sSkip, sSet, sBind, eC, sForRng, aCons, aNil, M.bind, eOp, eVar, dIx, seqOf, List.set_cons_succ, List.set_cons_zero, List.getElem?_cons_succ, List.getElem?_cons_zero, hn, a0, dInt2]
    simp only [Bool.true_and, show decide ((3 : Int) < 1073741824) = true from by decide, show decide ((0 : Int) < 11) = true from by decide, dInt2, if_true, M.ret, hr, e, sRet, sBind, eVar, List.getElem?_cons_succ, List.getElem?_cons_zero, List.append_nil]
theorem law_turn (ns : List Int) (hl : ns.length ≤ 63) (G : DH) (i : Nat) (hi : i < 3) (a2 a3 : Option D) : ∃ b2 b3 E, L0_law [some (.con (ns.map .int)), some (.int (0 + (i : Int))), a2, a3] G = .nx [some (.con (ns.map .int)), some (.int (0 + (i : Int))), b2, b3] (G ++ E) := by
  -- the slice
  have hc : ∃ ms : List Int, ms.length ≤ 63 ∧ cutD (ns.map D.int) (some (i : Int)) none = ms.map .int := by
    refine ⟨(ns.drop (HT.sIx ns.length 0 (some (i : Int)))).take (ns.length - HT.sIx ns.length 0 (some (i : Int))), ?_, ?_⟩
    · rw [List.length_take, List.length_drop]; omega
    · unfold cutD
      simp [HT.sIx_none, List.map_drop, List.map_take]
  obtain ⟨ms, hm, ec⟩ := hc
  have hz : ms.length ≤ sizeLine := by rw [sizeLine_eq]; omega
  obtain ⟨ds, hd, eD⟩ := draws_eq ms (G ++ [.lst (ms.map .int)]) G.length (getElem?_concat_self _ _) hm
  obtain ⟨t, E1, kt, lt, eT⟩ := text_eq ds ((G ++ [.lst (ms.map .int)]) ++ [.lst (ds.map .int)]) (G ++ [DO.lst (ms.map D.int)]).length (getElem?_concat_self _ _) hd
  obtain ⟨E2, eN⟩ := is_name_eq t (((G ++ [.lst (ms.map .int)]) ++ [.lst (ds.map .int)]) ++ E1) kt lt
  obtain ⟨E3, eU⟩ := due_eq t ((((G ++ [.lst (ms.map .int)]) ++ [.lst (ds.map .int)]) ++ E1) ++ E2) kt lt
  have eq1 : ∀ (b : Bool) (G : DH), dEq true (.bl b) (.bl b) G = .ok (.bl false) G := fun b G => by
    simp [dEq, dEqB, toP, PyData.canLay0, PyData.depth, PyData.eqv]
  refine ⟨some (.str t), some (.bl (isNm t)), [.lst (ms.map .int)] ++ [.lst (ds.map .int)] ++ E1 ++ E2 ++ E3, ?_⟩
  simp only [List.length_append, List.length_cons, List.length_nil, List.append_assoc, List.cons_append, List.nil_append, Nat.zero_add] at eD eT eN eU
  simp [L0_law, sSeq, sSet, sBind, eCall, eArgs, aCons, aNil, M.bind, M.ret, eSl, eVar, eC, oSome, oNone, dSl, seqOf, ec, dNew, hz, eD, eT, eN, sIf, tOrD, tNotD, tTruth, eIsi, dIsi, tyD, Ty.is, dTru, tBl, eOp, eU, eq1, sSkip]
theorem law_true (ns : List Int) (hl : ns.length ≤ 63) : ∃ G, m_law [.con (ns.map .int)] [] = .ok (.bl true) G := by
  obtain ⟨p2, p3, E0, e0⟩ := law_turn ns hl [] 0 (by omega) none none
  obtain ⟨q2, q3, E1, e1⟩ := law_turn ns hl ([] ++ E0) 1 (by omega) p2 p3
  obtain ⟨r2, r3, E2, e2⟩ := law_turn ns hl (([] ++ E0) ++ E1) 2 (by omega) q2 q3
  refine ⟨(([] ++ E0) ++ E1) ++ E2, ?_⟩
  have hr := rng1_of (j := 3) (by omega) (by omega)
  have hr' : rng1 [.int 3] = some [.int (0 + ((0 : Nat) : Int)), .int (0 + ((1 : Nat) : Int)), .int (0 + ((2 : Nat) : Int))] := hr
  simp only [m_law, noX, runB, b_law, sSeq, sForRng, sBind, aCons, aNil, eC, M.bind, M.ret, hr', forP, gN, List.map_cons, List.map_nil, List.length_cons, List.length_nil]
  simp only [show (4 - (0 + 1)) = 3 from rfl, List.replicate, List.cons_append, List.nil_append, List.set_cons_succ, List.set_cons_zero]
  simp only [List.nil_append] at e0 e1 e2
  simp only [e0, e1, e2, sRet, sBind, eC, M.ret, List.set_cons_succ, List.set_cons_zero]
end K11

end

section
namespace K11
open PySem PySem.Spec L2 L3
theorem walk {l : PySem.W.OpenLaw} {qq : Program} {loose : List Str} {XP : (Str → Option Value) → Heap → Prop} {YP : World → Heap → Prop} {d : DefRec} {K : Params → PySem.W.Frag} (hn : l.most = some 63) (hdf : d.params.defaults = [])
    (hY : ∀ (w : World) (h : Heap), YP w h → (K w.params).In h)
    (F : ∀ (w : World) (mg : Str → Option Value) (fa : Addr) (h : Heap), (K w.params).In h → h.Ns mainGlobals mg → mg d.name = some (.ref fa) → ∃ t, Txt (K w.params) mg t ∧ t.f_law = fa ∧ ∀ (s : Shared) (u : Value), BindsTo s t.d_law ⟨[u], []⟩ [("_law_script", u)]) :
    PySem.W.WalkO qq loose XP YP l.row.toRowW d [] (fun f vs => PySem.call f vs) :=
  L2.walk_of (n := 63) (k := 3) (x := "_law_script") (CX := fun _ => CX0) (sp := fun w => spLaw (K w.params)) hn (by decide) hdf ⟨rfl, by decide, by decide⟩ hY (fun w mg fa h KX G hm => by
    obtain ⟨t, T, rfl, hb⟩ := F w mg fa h KX G hm
    exact ⟨t.d_law, hb, fun base _ _ => (law_ok T).imp (spLaw_of law_true)⟩) (fun _ _ a ns hl hO hS => ⟨a, ns, rfl, sqC_of hO hS, hl, fun _ => rfl⟩) fun _ _ _ _ _ z => z
end K11

end

open PySem PySem.W PyProof.Rows
set_option maxRecDepth 100000 in
set_option maxHeartbeats 0 in
theorem PySem.Challenge.cw_pathshape_k11_names_holds : PySem.Challenge.rw_pathshape_k11_names.Holds := by
  w_on; o_law; k_head; (case hw => w_witness2)
  k_fill
  refine K11.walk (l := PySem.Challenge.rw_pathshape_k11_names) rfl rfl (fun w h Y => PySem.W.kIn_of Y) ?F
  case F =>
    intro w mg fa h KX G hmg
    have T : ∃ t, K11.Txt (L2.KOf KX) mg t ∧ ∃ kV dc pm an cd ct, t.d_law = PySem.W.fnOf "law" "law" (L2.defArgs K11.s_law) (L2.defBody K11.s_law) (L2.defScope K11.s_law) .none kV dc pm an cd ct := by
      dsimp only [L2.KOf]
      refine' K11.txt_mk KX G ?my_a0 ?my_l0 ?my_c0 ?my_k0 ?my_a1 ?my_l1 ?my_c1 ?my_k1 ?my_a2 ?my_l2 ?my_c2 ?my_k2 ?my_a3 ?my_l3 ?my_c3 ?my_k3 ?my_a4 ?my_l4 ?my_c4 ?my_k4 ?my_a5 ?my_l5 ?my_c5 ?my_k5 ?my_a6 ?my_l6 ?my_c6 ?my_k6 ?my_z0 ?my_z1 ?my_z2 ?my_z3 ?my_z4 ?my_z5 ?my_z6 ?my_g0 ?my_gl0 ?my_gv0 ?my_g1 ?my_g2
      (case my_a0 => k_is)
      (case my_l0 => k_is)
      (case my_c0 => k_is)
      (case my_k0 => k_is)
      (case my_a1 => k_is)
      (case my_l1 => k_is)
      (case my_c1 => k_is)
      (case my_k1 => k_is)
      (case my_a2 => k_is)
      (case my_l2 => k_is)
      (case my_c2 => k_is)
      (case my_k2 => k_is)
      (case my_a3 => k_is)
      (case my_l3 => k_is)
      (case my_c3 => k_is)
      (case my_k3 => k_is)
      (case my_a4 => k_is)
      (case my_l4 => k_is)
      (case my_c4 => k_is)
      (case my_k4 => k_is)
      (case my_a5 => k_is)
      (case my_l5 => k_is)
      (case my_c5 => k_is)
      (case my_k5 => k_is)
      (case my_a6 => k_is)
      (case my_l6 => k_is)
      (case my_c6 => k_is)
      (case my_k6 => k_is)
      (case my_z0 => k_is)
      (case my_z1 => k_is)
      (case my_z2 => k_is)
      (case my_z3 => k_is)
      (case my_z4 => k_is)
      (case my_z5 => k_is)
      (case my_z6 => k_is)
      (case my_g0 => k_is)
      (case my_gl0 => k_is)
      (case my_gv0 => exact .cons ⟨_, rfl⟩ (.cons ⟨_, rfl⟩ (.cons ⟨_, rfl⟩ (.cons ⟨_, rfl⟩ (.cons ⟨_, rfl⟩ (.cons ⟨_, rfl⟩ (.cons ⟨_, rfl⟩ (.cons ⟨_, rfl⟩ (.cons ⟨_, rfl⟩ (.cons ⟨_, rfl⟩ (.cons ⟨_, rfl⟩ (.cons ⟨_, rfl⟩ (.nil)))))))))))))
      (case my_g1 => k_is)
      (case my_g2 => k_is)
    obtain ⟨t, T, kV, dc, pm, an, cd, ct, e⟩ := T
    have e0 := hmg.symm.trans T.M_law
    cases e0
    exact ⟨t, T, rfl, fun s u => by rw [e]; exact .of_eq rfl⟩
