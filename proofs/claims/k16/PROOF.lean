import PyProof.Rows.All
import Wide.All
import OpenK.AllK
import Wide.FinOn
import Lean
import PyProof.EqAt
import PyProof.EqKinds
import PyProof.TupleCall
import PyProof.StrWalks
import KE.KTryMore
import PyProof.ExcBaseAll.ValueError
import PySem.Challenge.RW_pathshape_k16_bad_forms
section
set_option Elab.async false
set_option linter.all false
set_option maxRecDepth 100000
namespace L2
open PySem PySem.Spec PyProof.Rows
noncomputable abbrev Key := Sum Int Str
end L2
namespace L2
open PySem PySem.Spec PyProof.Rows
inductive V where
  | non | bl (b : Bool) | int (i : Int) | str (x : Str) | byt (b : Array UInt8) | flt (b : UInt64) | ref (a : Addr) | ty (n : String)
  deriving DecidableEq
noncomputable def RelV : V → Value → Prop
  | .non, u => u = Value.none
  | .bl b, u => u = Value.bool b
  | .int i, u => ∃ t, u = Value.int i t
  | .str x, u => ∃ t, u = Value.str x t
  | .byt b, u => ∃ t, u = Value.bytes b t
  | .flt b, u => ∃ t, u = Value.float b t
  | .ref a, u => u = Value.ref a
  | .ty n, u => u = Value.type n
noncomputable abbrev Vals : List V → List Value → Prop := Paired RelV
theorem Vals.length {xs : List V} {us : List Value} (r : Vals xs us) : xs.length = us.length := Paired.length r
theorem Vals.get : ∀ {xs : List V} {us : List Value} {i : Nat} {x : V}, Vals xs us → xs[i]? = some x → ∃ u, us[i]? = some u ∧ RelV x u
  | _, _, _, _, .nil, e => by simp at e
  | _, _, 0, _, .cons r _, e => by simp at e; subst e; exact ⟨_, rfl, r⟩
  | _, _, i + 1, x, .cons _ t, e => by
    obtain ⟨u, h1, h2⟩ := Vals.get (i := i) (x := x) t (by simpa using e)
    exact ⟨u, by simpa using h1, h2⟩
theorem Vals.append : ∀ {xs ys : List V} {us ws : List Value}, Vals xs us → Vals ys ws → Vals (xs ++ ys) (us ++ ws)
  | _, _, _, _, .nil, s => s
  | _, _, _, _, .cons r t, s => .cons r (Vals.append t s)
theorem Vals.take : ∀ {xs : List V} {us : List Value} (n : Nat), Vals xs us → Vals (xs.take n) (us.take n)
  | _, _, 0, _ => .nil
  | _, _, _ + 1, .nil => .nil
  | _, _, n + 1, .cons r t => .cons r (Vals.take n t)
theorem Vals.drop : ∀ {xs : List V} {us : List Value} (n : Nat), Vals xs us → Vals (xs.drop n) (us.drop n)
  | _, _, 0, r => r
  | _, _, _ + 1, .nil => .nil
  | _, _, n + 1, .cons _ t => Vals.drop n t
noncomputable def kV : Key → V
  | .inl i => .int i
  | .inr x => .str x
inductive HO where
  | lst (xs : List V)
  | tup (xs : List V)
  | own (x : Addr)
  | frz (o : Obj) (u : HO)
  | tbl (ps : Array Value)
  | ext (φ : Heap → Prop)
noncomputable abbrev Hp := Addr → Option HO
noncomputable def upd (H : Hp) (a : Addr) (o : HO) : Hp := fun b => if b = a then some o else H b
theorem upd_same {H : Hp} {a : Addr} {o : HO} : upd H a o a = some o := by unfold upd; rw [if_pos rfl]
theorem upd_ne {H : Hp} {a b : Addr} {o : HO} (h : b ≠ a) : upd H a o b = H b := by unfold upd; rw [if_neg h]
theorem ne_of {H : Hp} {a b : Addr} {o u : HO} (h : H a = some o) (h' : H b = some u) (d : o ≠ u) : a ≠ b := by
  intro e; subst e; rw [h] at h'; exact d (Option.some.inj h')
theorem ne_of_none {H : Hp} {a b : Addr} {o : HO} (h : H a = some o) (h' : H b = none) : a ≠ b := by
  intro e; subst e; rw [h] at h'; cases h'
section
variable (P : Program) (w : World)
noncomputable def ObjOk (P : Program) (w : World) (H : Hp) (h : Heap) (a : Addr) : HO → Prop
  | .lst xs => xs.length ≤ sizeLine ∧ ∃ (its : List Value) (n : Nat), Vals xs its ∧ h.get? a = some { cls := .type "list", data := .seq its.toArray n }
  | .tup xs => xs.length ≤ sizeLine ∧ ∃ its : List Value, Vals xs its ∧ IsTup h a its.toArray
  | .own _ => ∃ o, h.get? a = some o
  | .frz o u => h.get? a = some o ∧ ObjOk P w H h a u
  | .tbl ps => h.get? a = some { cls := .none, data := .fields ps }
  | .ext φ => φ h ∧ (∃ o, h.get? a = some o) ∧ ∀ h1 h2 : Heap, φ h1 → (∀ o, h1.get? a = some o → h2.get? a = some o) → φ h2
noncomputable def HOk (H : Hp) (h : Heap) : Prop := ∀ a o, H a = some o → ObjOk P w H h a o
end
section
variable {P : Program} {w : World} {H H' : Hp} {h h' : Heap} {a : Addr} {o : HO}
theorem ObjOk.lt (x : ObjOk P w H h a o) : a < h.objs.size := by
  cases o with
  | lst xs => obtain ⟨_, _, _, _, e⟩ := x; exact Heap.lt_size e
  | tup xs => obtain ⟨_, _, _, p⟩ := x; exact p.lt
  | own y => obtain ⟨_, e⟩ := x; exact Heap.lt_size e
  | frz ob u => obtain ⟨e, _⟩ := x; exact Heap.lt_size e
  | tbl ps => exact Heap.lt_size (show h.get? a = some _ from x)
  | ext φ => obtain ⟨_, ⟨_, e⟩, _⟩ := x; exact Heap.lt_size e
theorem ObjOk.stay (x : ObjOk P w H h a o) (k : ∀ b u, (b = a ∨ H b = some (.own a)) → h.get? b = some u → h'.get? b = some u)
    (ho : ∀ b, H b = some (.own a) → H' b = some (.own a)) (ht : ∀ b xs, H b = some (.tup xs) → H' b = some (.tup xs)) : ObjOk P w H' h' a o := by
  induction o with
  | lst xs => obtain ⟨z, its, n, r, e⟩ := x; exact ⟨z, its, n, r, k _ _ (.inl rfl) e⟩
  | tup xs => obtain ⟨z, its, r, ob, e, c⟩ := x; exact ⟨z, its, r, ob, k _ _ (.inl rfl) e, c⟩
  | own y => obtain ⟨ob, e⟩ := x; exact ⟨ob, k _ _ (.inl rfl) e⟩
  | frz ob u ih => obtain ⟨e, q⟩ := x; exact ⟨k _ _ (.inl rfl) e, ih q⟩
  | tbl ps =>
    have e : h.get? a = some { cls := .none, data := .fields ps } := x
    show h'.get? a = some { cls := .none, data := .fields ps }
    exact k a _ (.inl rfl) e
  | ext φ => obtain ⟨p, ⟨o, e⟩, st⟩ := x; exact ⟨st _ _ p fun o q => k _ _ (.inl rfl) q, ⟨o, k _ _ (.inl rfl) e⟩, st⟩
theorem HOk.lt (x : HOk P w H h) (e : H a = some o) : a < h.objs.size := (x a o e).lt
theorem HOk.fresh (x : HOk P w H h) (e : h.objs.size ≤ a) : H a = none := by
  cases q : H a with
  | none => rfl
  | some u => exact absurd (Nat.lt_of_lt_of_le (x.lt q) e) (Nat.lt_irrefl _)
theorem HOk.kept (x : HOk P w H h) (k : ∀ b u, h.get? b = some u → h'.get? b = some u) : HOk P w H h' := fun a o e =>
  (x a o e).stay (fun b u _ q => k b u q) (fun _ q => q) fun _ _ q => q
theorem HOk.laid (x : HOk P w H h) (k : ∀ b u, h.get? b = some u → h'.get? b = some u) (hp : h.objs.size ≤ a) (new : ObjOk P w (upd H a o) h' a o) : HOk P w (upd H a o) h' := fun b u e => by
  have hn := x.fresh hp
  by_cases hb : b = a
  · subst hb; rw [upd_same] at e; cases e; exact new
  · rw [upd_ne hb] at e
    exact (x b u e).stay (fun c v _ q => k c v q) (fun c q => by rw [upd_ne (ne_of_none q hn)]; exact q) fun c xs q => by rw [upd_ne (ne_of_none q hn)]; exact q
end
noncomputable def Rd (H : Hp) (a : Addr) (u : HO) : Prop := H a = some u ∨ ∃ o, H a = some (.frz o u)
theorem Rd.ok {P : Program} {w : World} {H : Hp} {h : Heap} {a : Addr} {u : HO} (r : Rd H a u) (x : HOk P w H h) : ObjOk P w H h a u := by
  rcases r with r | ⟨o, r⟩
  · exact x a u r
  · obtain ⟨_, q⟩ := x a _ r
    exact q
noncomputable def Mut : Option HO → Prop
  | some (.lst _) => True
  | some (.ext _) => True
  | _ => False
section
variable {P : Program} {w : World} {H : Hp} {h h' : Heap} {x e : Addr} {o' : HO}
theorem HOk.write (ok : HOk P w H h) (mu : Mut (H x)) (he : e = x ∨ H e = some (.own x)) (k : ∀ b u, b ≠ e → h.get? b = some u → h'.get? b = some u) (heo : ∃ u, h'.get? e = some u)
    (new : ObjOk P w (upd H x o') h' x o') : HOk P w (upd H x o') h' := fun b u q => by
  have nown : ∀ c y, H c = some (.own y) → c ≠ x := fun c y r z => by subst z; rw [r] at mu; exact mu
  have ntup : ∀ c xs, H c = some (.tup xs) → c ≠ x := fun c xs r z => by subst z; rw [r] at mu; exact mu
  by_cases hb : b = x
  · subst hb; rw [upd_same] at q; cases q; exact new
  · rw [upd_ne hb] at q
    by_cases hbe : b = e
    · have q' : H b = some (.own x) := by
        rcases he with z | z
        · exact absurd (hbe.trans z) hb
        · rw [hbe]; exact z
      rw [q] at q'; cases q'
      obtain ⟨v, hv⟩ := heo
      exact ⟨v, by rw [hbe]; exact hv⟩
    · refine (ok b u q).stay (fun c v hc r => k c v ?_ r) (fun c r => by rw [upd_ne (nown c b r)]; exact r) fun c xs r => by rw [upd_ne (ntup c xs r)]; exact r
      rcases hc with rfl | hc
      · exact hbe
      · rintro rfl
        rcases he with z | z
        · exact nown c b hc z
        · rw [hc] at z; cases z; exact hb rfl
end
structure Un (fs ex : List Addr) (H H' : Hp) (h h' : Heap) : Prop where
  keep : ∀ b o, h.get? b = some o → H b = none → b ∉ fs → b ∉ ex → h'.get? b = some o
  slot : ∀ b o, h.get? b = some o → H b = none → b ∈ fs → b ∉ ex → ∃ sl, h'.get? b = some { o with slots := sl }
  free : ∀ b o, h.get? b = some o → H b = none → b ∉ ex → H' b = none
  there : ∀ b o, h.get? b = some o → b ∉ ex → ∃ o', h'.get? b = some o'
  tups : ∀ b xs, H b = some (.tup xs) → H' b = some (.tup xs)
  frzs : ∀ b o u, H b = some (.frz o u) → H' b = some (.frz o u)
  tbls : ∀ b ps, H b = some (.tbl ps) → ∃ more, H' b = some (.tbl (ps ++ more))
section
variable {fs fs' ex ex' : List Addr} {H H1 H2 : Hp} {h h1 h2 h' : Heap} {a x e : Addr} {o : HO}
theorem Un.any (u : Un fs ex H H1 h h1) {b : Addr} {ob : Obj} (q : h.get? b = some ob) (n : H b = none) (hx : b ∉ ex) : ∃ sl, h1.get? b = some { ob with slots := sl } := by
  by_cases hb : b ∈ fs
  · exact u.slot b ob q n hb hx
  · exact ⟨ob.slots, u.keep b ob q n hb hx⟩
theorem Un.kept (k : ∀ b u, h.get? b = some u → h'.get? b = some u) : Un fs ex H H h h' :=
  ⟨fun b ob q _ _ _ => k b ob q, fun b ob q _ _ _ => ⟨ob.slots, k b ob q⟩, fun _ _ _ n _ => n, fun b ob q _ => ⟨ob, k b ob q⟩, fun _ _ q => q, fun _ _ _ q => q, fun _ ps q => ⟨#[], by rw [q]; simp⟩⟩
theorem Un.refl : Un fs ex H H h h := Un.kept fun _ _ q => q
theorem Un.laid (k : ∀ b u, h.get? b = some u → h'.get? b = some u) (hp : h.objs.size ≤ a) (hn : H a = none) : Un fs ex H (upd H a o) h h' where
  keep := fun b u q _ _ _ => k b u q
  slot := fun b u q _ _ _ => ⟨u.slots, k b u q⟩
  free := fun b u q n _ => by rw [upd_ne (Nat.ne_of_lt (Nat.lt_of_lt_of_le (Heap.lt_size q) hp))]; exact n
  there := fun b u q _ => ⟨u, k b u q⟩
  tups := fun b xs q => by rw [upd_ne (ne_of_none q hn)]; exact q
  frzs := fun b u xs q => by rw [upd_ne (ne_of_none q hn)]; exact q
  tbls := fun b ps q => ⟨#[], by rw [upd_ne (ne_of_none q hn), q]; simp⟩
theorem Un.write (mu : Mut (H x)) (he : e = x ∨ H e = some (.own x)) (k : ∀ b u, b ≠ e → h.get? b = some u → h'.get? b = some u) (heo : ∃ u, h'.get? e = some u) : Un fs ex H (upd H x o) h h' := by
  have hx : ∀ b, H b = none → b ≠ x := fun b n z => by subst z; rw [n] at mu; exact mu
  have hb : ∀ b, H b = none → b ≠ e := fun b n z => by
    subst z
    rcases he with r | r
    · exact hx b n r
    · rw [n] at r; cases r
  have hm : ∀ b u, H b = some u → ¬ Mut (some u) → b ≠ x := fun b u q nm z => by subst z; rw [q] at mu; exact nm mu
  refine ⟨fun b u q n _ _ => k b u (hb b n) q, fun b u q n _ _ => ⟨u.slots, k b u (hb b n) q⟩, fun b u q n _ => by rw [upd_ne (hx b n)]; exact n, fun b u q _ => ?_,
    fun b xs q => by rw [upd_ne (hm b _ q fun z => z)]; exact q, fun b u xs q => by rw [upd_ne (hm b _ q fun z => z)]; exact q, fun b ps q => ⟨#[], by rw [upd_ne (hm b _ q fun z => z), q]; simp⟩⟩
  by_cases hbe : b = e
  · subst hbe; exact heo
  · exact ⟨u, k b u hbe q⟩
end
noncomputable def trk (h : Heap) (H : Hp) : List Addr := (List.range h.objs.size).filter fun a => (H a).isSome
noncomputable def hidT (h : Heap) (H : Hp) : Heap := PySem.W.hideAll h (trk h H)
theorem hidT_size (h : Heap) (H : Hp) : (hidT h H).objs.size = h.objs.size := PySem.W.hideAll_size _ _
theorem hidT_get {h : Heap} {H : Hp} {b : Addr} {o : Obj} (e : h.get? b = some o) (n : H b = none) : (hidT h H).get? b = some o :=
  PySem.W.hideAll_get _ e fun hm => by
    have q : (H b).isSome = true := (List.mem_filter.mp hm).2
    rw [n] at q; simp at q
theorem of_hidT {h : Heap} {H : Hp} {b : Addr} {o : Obj} (e : (hidT h H).get? b = some o) : h.get? b = some o ∧ H b = none := by
  have e' : h.get? b = some o := PySem.W.of_hideAll (trk h H) e
  refine ⟨e', ?_⟩
  cases q : H b with
  | none => rfl
  | some x =>
    have hm : b ∈ trk h H := List.mem_filter.mpr ⟨List.mem_range.mpr (Heap.lt_size e'), by simp [q]⟩
    have z : (hidT h H).get? b = none := PySem.W.hideAll_none (trk h H) hm
    rw [z] at e; cases e
noncomputable def allNews (g h : Heap) (L : Addr) : List (Addr × Obj) := (List.range h.objs.size).filterMap fun a => if a = L ∨ (g.get? a).isSome = true then none else (h.get? a).map fun o => (a, o)
noncomputable def rest (g h : Heap) (L d : Addr) : List (Addr × Obj) := (allNews g h L).filter fun p => decide (p.1 ≠ d)
end L2
namespace L2
open PySem PySem.Spec PyProof.Rows
structure Mod (K : PySem.W.Frag) (mg : Str → Option Value) (base : Heap) : Prop where
  kin : K.In base
  glob : base.Ns mainGlobals mg
  blt : ∃ mb, base.Ns builtinsNs mb ∧ ∀ x : Str, x ≠ "__name__" → mb x = bootBuiltins x
  nolimit : base.NoLimit
structure Cx where
  prog : Program
  w : World
  K : PySem.W.Frag
  mg : Str → Option Value
  base : Heap
  A : Around
  N : List Str
  s₀ : Shared
  H₀ : Hp
  env : Env
  outer : List Env
  stack : List Env
  ex : List Addr
  fn : Str → Bool
  calm : Bool
  pn : List (Addr × Obj)
  xe : Value → Shared → Prop
noncomputable def frs (l : List Env) : List Addr := l.filterMap (·.frame)
noncomputable abbrev Cx.fs (X : Cx) : List Addr := frs X.outer
noncomputable def Vis (sc : Scope) (x : Str) : Prop := sc.names.lookup x = some .local ∨ sc.names.lookup x = some .cell ∨ sc.names.lookup x = some .free
noncomputable def Loc (sc : Scope) (x : Str) : Prop := sc.names.lookup x = some .local ∨ sc.names.lookup x = some .cell
noncomputable def Look (env : Env) (h : Heap) (m : Str → Option Value) (x : Str) (u : Value) : Prop :=
  (env.kindOf x = some .local ∧ m x = some u) ∨ ((env.kindOf x = some .cell ∨ env.kindOf x = some .free) ∧ ∃ c, env.cells.lookup x = some c ∧ h.IsCell c (some u))
structure Cx.Ok (X : Cx) : Prop where
  mod : Mod X.K X.mg X.base
  kind : X.env.scope.kind = .function
  glob : X.env.globals = mainGlobals
  blt : X.env.builtins = builtinsNs
  above : X.s₀.heap.objs.size ≤ X.env.locals
  inj : ∀ x y c, X.env.cells.lookup x = some c → X.env.cells.lookup y = some c → x = y
  has : ∀ x, (X.env.kindOf x = some .cell ∨ X.env.kindOf x = some .free) → ∃ c, X.env.cells.lookup x = some c
  cab : ∀ x c, X.fn x = true → X.env.cells.lookup x = some c → X.s₀.heap.objs.size ≤ c
  hd : X.calm = true → X.A.handled = none
  frames : X.A.frames = some X.stack
  stk : X.stack = X.outer ∨ (X.stack = X.env :: X.outer ∧ X.env.frame = some X.env.locals)
  exf : ∀ b ∈ X.ex, b ≠ X.env.locals ∧ ∀ x c, X.env.cells.lookup x = some c → c ≠ b
  bs : ∀ b o, X.base.get? b = some o → X.s₀.heap.get? b = some o ∧ X.H₀ b = none
  bsz : X.base.objs.size ≤ X.s₀.heap.objs.size
  noex : ∀ b o, X.base.get? b = some o → b ∉ X.ex
  exfs : ∀ b ∈ X.ex, b ∉ X.fs
  funs : X.s₀.heap.FunFrames X.base X.outer
  frf : ∀ b ∈ X.fs, X.H₀ b = none
structure Inv (X : Cx) (pins : List (Addr × Obj)) (σ : List (Option V)) (H : Hp) (s : Shared) : Prop where
  ok : X.Ok
  os : s.os = X.s₀.os
  bare : AllBare s.gens
  base : Un X.fs X.ex X.H₀ H X.s₀.heap s.heap
  loc : ∃ m, s.heap.Ns X.env.locals m ∧ ∀ (i : Nat) (x : Str) (v : V), X.N[i]? = some x → σ[i]? = some (some v) → Vis X.env.scope x → ∃ u, RelV v u ∧ Look X.env s.heap m x u
  cell : ∀ x c, X.env.cells.lookup x = some c → ∃ v, s.heap.IsCell c v
  free : H X.env.locals = none
  freeC : ∀ x c, X.env.cells.lookup x = some c → H c = none
  pin : ∀ p ∈ X.pn ++ pins, s.heap.get? p.1 = some p.2 ∧ H p.1 = none ∧ p.1 ≠ X.env.locals ∧ p.1 ∉ X.fs ∧ ∀ v, p.2.data ≠ .cell v
  hok : HOk X.prog X.w H s.heap
  len : σ.length = X.N.length
section
variable {X : Cx} {pins : List (Addr × Obj)} {σ : List (Option V)} {H H' : Hp} {s : Shared} {h' : Heap}
theorem Cx.Ok.nofr (ok : X.Ok) {b : Addr} {o : Obj} (e : X.base.get? b = some o) : b ∉ X.fs := fun hb => by
  have := (ok.funs.mem hb).1
  rw [e] at this; cases this
theorem Inv.bs (I : Inv X pins σ H s) : ∀ b o, X.base.get? b = some o → s.heap.get? b = some o ∧ H b = none := fun b o e =>
  ⟨I.base.keep b o (I.ok.bs b o e).1 (I.ok.bs b o e).2 (I.ok.nofr e) (I.ok.noex b o e), I.base.free b o (I.ok.bs b o e).1 (I.ok.bs b o e).2 (I.ok.noex b o e)⟩
theorem Inv.bk (I : Inv X pins σ H s) : ∀ b o, X.base.get? b = some o → s.heap.get? b = some o := fun b o e => (I.bs b o e).1
theorem Inv.mod (I : Inv X pins σ H s) : Mod X.K X.mg X.base := I.ok.mod
theorem Inv.kIn (I : Inv X pins σ H s) : X.K.In s.heap := I.ok.mod.kin.keeps I.bk
theorem Inv.nolimit (I : Inv X pins σ H s) : s.heap.NoLimit := I.ok.mod.nolimit.keeps I.bk
theorem Inv.fr (I : Inv X pins σ H s) : ∃ m, Fr X.base X.env.locals s.heap m :=
  let ⟨m, hn, _⟩ := I.loc
  ⟨m, hn, I.bk, Nat.le_trans I.ok.bsz I.ok.above⟩
theorem Inv.lt (I : Inv X pins σ H s) : X.env.locals < s.heap.objs.size := let ⟨_, hn, _⟩ := I.loc; hn.lt
theorem Inv.sz (I : Inv X pins σ H s) : X.s₀.heap.objs.size ≤ s.heap.objs.size := Nat.le_trans I.ok.above (Nat.le_of_lt I.lt)
theorem Inv.nofs (I : Inv X pins σ H s) {a : Addr} (h : s.heap.objs.size ≤ a) : a ∉ X.fs := fun hb => by
  obtain ⟨_, o, ho, _⟩ := I.ok.funs.mem hb
  exact absurd (Nat.lt_of_lt_of_le (Heap.lt_size ho) (Nat.le_trans I.sz h)) (Nat.lt_irrefl _)
theorem Inv.cne (I : Inv X pins σ H s) : ∀ x c, X.env.cells.lookup x = some c → c ≠ X.env.locals := fun x c e z => by
  obtain ⟨v, o, ho, hd⟩ := I.cell x c e
  obtain ⟨m, ⟨o', es, ep, ho', hd', _⟩, _⟩ := I.loc
  rw [z, ho'] at ho; cases ho; rw [hd'] at hd; cases hd
theorem Inv.funs (I : Inv X pins σ H s) : s.heap.FunFrames X.base X.outer := by
  have all : ∀ (l : List Env), (∀ b ∈ frs l, b ∈ X.fs) → X.s₀.heap.FunFrames X.base l → s.heap.FunFrames X.base l := by
    intro l
    induction l with
    | nil => intro _ _; trivial
    | cons env r ih =>
      intro hs hl
      obtain ⟨hk, ⟨L, o, hf, hn, ho, hd⟩, hr⟩ := hl
      have hL : L ∈ X.fs := hs L (by unfold frs; rw [List.filterMap_cons, hf]; exact List.mem_cons_self)
      obtain ⟨sl, e⟩ := I.base.slot L o ho (I.ok.frf L hL) hL fun z => I.ok.exfs L z hL
      exact ⟨hk, ⟨L, _, hf, hn, e, hd⟩, ih (fun b hb => hs b (by unfold frs; rw [List.filterMap_cons, hf]; exact List.mem_cons_of_mem _ hb)) hr⟩
  exact all X.outer (fun _ hb => hb) I.ok.funs
theorem Inv.stack (I : Inv X pins σ H s) : s.heap.FunFrames X.base X.stack := by
  rcases I.ok.stk with e | ⟨e, hf⟩
  · rw [e]; exact I.funs
  · rw [e]
    obtain ⟨m, hn, _⟩ := I.loc
    refine .cons (by rw [I.ok.kind]; decide) hf hn ?_ I.funs
    exact Heap.get?_none_of_le (Nat.le_trans I.ok.bsz I.ok.above)
theorem Inv.stkSub (I : Inv X pins σ H s) : ∀ b ∈ frs X.stack, b ∈ X.env.locals :: X.fs := fun b hb => by
  rcases I.ok.stk with e | ⟨e, hf⟩
  · rw [e] at hb; exact List.mem_cons_of_mem _ hb
  · rw [e] at hb
    unfold frs at hb
    rw [List.filterMap_cons, hf] at hb
    exact hb
theorem Inv.stkFree (I : Inv X pins σ H s) : ∀ b ∈ frs X.stack, H b = none := fun b hb => by
  rcases List.mem_cons.mp (I.stkSub b hb) with e | hb
  · rw [e]; exact I.free
  · obtain ⟨_, o, ho, _⟩ := I.ok.funs.mem hb
    exact I.base.free b o ho (I.ok.frf b hb) fun z => I.ok.exfs b z hb
theorem Inv.step {g' : Array GenState} {t' : Nat} {d' : Drawn} {ch : List Addr} (I : Inv X pins σ H s)
    (hch : ∀ b ∈ ch, (b ∈ X.ex ∨ X.s₀.heap.objs.size ≤ b) ∧ b ≠ X.env.locals ∧ (∀ x c, X.env.cells.lookup x = some c → c ≠ b) ∧ ∀ p ∈ X.pn ++ pins, p.1 ≠ b)
    (keep : ∀ b o, b ≠ X.env.locals → b ∉ X.fs → b ∉ ch → s.heap.get? b = some o → H b = none → h'.get? b = some o)
    (slot : ∀ b o, b ≠ X.env.locals → b ∈ X.fs → b ∉ ch → s.heap.get? b = some o → H b = none → ∃ sl, h'.get? b = some { o with slots := sl }) (free : ∀ b o, b ∉ ch → s.heap.get? b = some o → H b = none → H' b = none)
    (there : ∀ b o, b ∉ ch → s.heap.get? b = some o → ∃ o', h'.get? b = some o')
    (tups : ∀ b xs, H b = some (.tup xs) → H' b = some (.tup xs)) (frzs : ∀ b o u, H b = some (.frz o u) → H' b = some (.frz o u)) (tbls : ∀ b ps, H b = some (.tbl ps) → ∃ more, H' b = some (.tbl (ps ++ more)))
    (ns : ∀ m, s.heap.Ns X.env.locals m → h'.Ns X.env.locals m) (hok : HOk X.prog X.w H' h') (hg : AllBare g') :
    Inv X pins σ H' { s with heap := h', gens := g', drawn := d', toks := t' } := by
  have neL : ∀ b o, X.s₀.heap.get? b = some o → b ≠ X.env.locals := fun b o e => Nat.ne_of_lt (Nat.lt_of_lt_of_le (Heap.lt_size e) I.ok.above)
  have neC : ∀ b o, X.s₀.heap.get? b = some o → b ∉ X.ex → b ∉ ch := fun b o e hx hb => by
    rcases (hch b hb).1 with z | z
    · exact hx z
    · exact absurd (Nat.lt_of_lt_of_le (Heap.lt_size e) z) (Nat.lt_irrefl _)
  have cellK : ∀ x c, X.env.cells.lookup x = some c → ∀ v, s.heap.IsCell c v → h'.IsCell c v := fun x c e v ⟨o, ho, hd⟩ => by
    have nch : c ∉ ch := fun z => (hch c z).2.2.1 x c e rfl
    by_cases hc : c ∈ X.fs
    · obtain ⟨sl, q⟩ := slot c o (I.cne x c e) hc nch ho (I.freeC x c e)
      exact ⟨_, q, hd⟩
    · exact ⟨o, keep c o (I.cne x c e) hc nch ho (I.freeC x c e), hd⟩
  refine ⟨I.ok, I.os, hg, ⟨fun b o e n hb hx => ?_, fun b o e n hb hx => ?_, fun b o e n hx => ?_, fun b o e hx => ?_, fun b xs e => tups b xs (I.base.tups b xs e), fun b o xs e => frzs b o xs (I.base.frzs b o xs e), fun b ps e => ?_⟩, ?_, fun x c e => ?_, ?_, fun x c e => ?_, fun p hp => ?_, hok, I.len⟩
  · exact keep b o (neL b o e) hb (neC b o e hx) (I.base.keep b o e n hb hx) (I.base.free b o e n hx)
  · obtain ⟨sl, e1⟩ := I.base.slot b o e n hb hx
    obtain ⟨sl', e2⟩ := slot b _ (neL b o e) hb (neC b o e hx) e1 (I.base.free b o e n hx)
    exact ⟨sl', e2⟩
  · obtain ⟨o', e1⟩ := I.base.there b o e hx
    exact free b o' (neC b o e hx) e1 (I.base.free b o e n hx)
  · obtain ⟨o', e1⟩ := I.base.there b o e hx
    exact there b o' (neC b o e hx) e1
  · obtain ⟨m1, e1⟩ := I.base.tbls b ps e
    obtain ⟨m2, e2⟩ := tbls b _ e1
    exact ⟨m1 ++ m2, by rw [e2, Array.append_assoc]⟩
  · obtain ⟨m, hn, hl⟩ := I.loc
    refine ⟨m, ns m hn, fun i x v e1 e2 e3 => ?_⟩
    obtain ⟨u, r, l⟩ := hl i x v e1 e2 e3
    refine ⟨u, r, ?_⟩
    rcases l with l | ⟨k, c, e, z⟩
    · exact .inl l
    · exact .inr ⟨k, c, e, cellK x c e _ z⟩
  · obtain ⟨v, z⟩ := I.cell x c e
    exact ⟨v, cellK x c e v z⟩
  · obtain ⟨m, ⟨o, _, _, ho, _⟩, _⟩ := I.loc
    exact free _ o (fun z => (hch _ z).2.1 rfl) ho I.free
  · obtain ⟨v, o, ho, hd⟩ := I.cell x c e
    exact free c o (fun z => (hch c z).2.2.1 x c e rfl) ho (I.freeC x c e)
  · obtain ⟨e, n, ne, nf, d⟩ := I.pin p hp
    have nch : p.1 ∉ ch := fun z => (hch p.1 z).2.2.2 p hp rfl
    exact ⟨keep p.1 p.2 ne nf nch e n, free p.1 p.2 nch e n, ne, nf, d⟩
theorem Inv.un {t' : Nat} (I : Inv X pins σ H s) (u : Un X.fs [] H H' s.heap h') (hok : HOk X.prog X.w H' h') : Inv X pins σ H' { s with heap := h', toks := t' } := by
  obtain ⟨m, ⟨o, es, ep, ho, r⟩, _⟩ := id I.loc
  obtain ⟨sl, hL⟩ := u.any ho I.free (by simp)
  exact I.step (g' := s.gens) (d' := s.drawn) (ch := []) (fun _ z => nomatch z) (fun b o _ hb _ e n => u.keep b o e n hb (by simp)) (fun b o _ hb _ e n => u.slot b o e n hb (by simp)) (fun b o _ e n => u.free b o e n (by simp)) (fun b o _ e => u.there b o e (by simp)) u.tups u.frzs u.tbls (fun m' hm => by
    obtain ⟨o', es', ep', ho', r'⟩ := hm
    rw [ho] at ho'; cases ho'
    exact ⟨_, es', ep', hL, r'⟩) hok I.bare
theorem Inv.call {g' : Array GenState} {t' : Nat} {d' : Drawn} {ch : List Addr} (I : Inv X pins σ H s) (u : Un (frs X.stack) ch H H' s.heap h') (hok : HOk X.prog X.w H' h') (hg : AllBare g')
    (hch : ∀ b ∈ ch, (b ∈ X.ex ∨ X.s₀.heap.objs.size ≤ b) ∧ b ≠ X.env.locals ∧ (∀ x c, X.env.cells.lookup x = some c → c ≠ b) ∧ ∀ p ∈ X.pn ++ pins, p.1 ≠ b) :
    Inv X pins σ H' { s with heap := h', gens := g', drawn := d', toks := t' } := by
  obtain ⟨m, ⟨o, es, ep, ho, r⟩, _⟩ := id I.loc
  obtain ⟨sl, hL⟩ := u.any ho I.free fun z => (hch _ z).2.1 rfl
  exact I.step (ch := ch) hch (fun b o hL hb hc e n => u.keep b o e n (fun z => (List.mem_cons.mp (I.stkSub b z)).elim hL hb) hc) (fun b o _ _ hc e n => u.any e n hc) (fun b o hc e n => u.free b o e n hc) (fun b o hc e => u.there b o e hc) u.tups u.frzs u.tbls (fun m' hm => by
    obtain ⟨o', es', ep', ho', r'⟩ := hm
    rw [ho] at ho'; cases ho'
    exact ⟨_, es', ep', hL, r'⟩) hok hg
theorem Inv.turned {t' : Nat} {it : Addr} (I : Inv X pins σ H s) (k : ∀ b o, b ≠ it → s.heap.get? b = some o → h'.get? b = some o) (hn : H it = none) (hL : it ≠ X.env.locals)
    (h1 : it ∈ X.ex ∨ X.s₀.heap.objs.size ≤ it) (h2 : ∀ x c, X.env.cells.lookup x = some c → c ≠ it) (h3 : ∀ p ∈ X.pn ++ pins, p.1 ≠ it) : Inv X pins σ H { s with heap := h', toks := t' } := by
  have nit : ∀ b u, H b = some u → b ≠ it := fun b u e z => by rw [z, hn] at e; cases e
  refine I.step (g' := s.gens) (d' := s.drawn) (ch := [it]) (fun b hb => ?_) (fun b o _ _ hc e _ => k b o (fun z => hc (by simp [z])) e) (fun b o _ _ hc e _ => ⟨o.slots, k b o (fun z => hc (by simp [z])) e⟩) (fun _ _ _ _ n => n)
    (fun b o hc e => ⟨o, k b o (fun z => hc (by simp [z])) e⟩) (fun _ _ e => e) (fun _ _ _ e => e) (fun b ps e => ⟨#[], by rw [e]; simp⟩) (fun m hm => ?_) (fun b u e => ?_) I.bare
  · have e : b = it := by simpa using hb
    subst e
    exact ⟨h1, hL, h2, h3⟩
  · obtain ⟨o, es, ep, ho, r⟩ := hm
    exact ⟨o, es, ep, k _ o (Ne.symm hL) ho, r⟩
  · refine (I.hok b u e).stay (fun c v hc q => k c v ?_ q) (fun _ q => q) fun _ _ q => q
    rcases hc with z | z
    · rw [z]; exact nit b u e
    · exact nit c _ z
theorem Inv.tok (I : Inv X pins σ H s) (t : Nat) : Inv X pins σ H { s with toks := t } := I.un (h' := s.heap) (t' := t) Un.refl I.hok
theorem Inv.kept {t' : Nat} (I : Inv X pins σ H s) (k : ∀ b u, s.heap.get? b = some u → h'.get? b = some u) : Inv X pins σ H { s with heap := h', toks := t' } := I.un (Un.kept k) (I.hok.kept k)
theorem Inv.laid {a : Addr} {o : HO} {t' : Nat} (I : Inv X pins σ H s) (k : ∀ b u, s.heap.get? b = some u → h'.get? b = some u) (hp : s.heap.objs.size ≤ a) (new : ObjOk X.prog X.w (upd H a o) h' a o) :
    Inv X pins σ (upd H a o) { s with heap := h', toks := t' } := I.un (Un.laid k hp (I.hok.fresh hp)) (I.hok.laid k hp new)
theorem Inv.write {x e : Addr} {o : HO} {t' : Nat} (I : Inv X pins σ H s) (mu : Mut (H x)) (he : e = x ∨ H e = some (.own x)) (k : ∀ b u, b ≠ e → s.heap.get? b = some u → h'.get? b = some u) (heo : ∃ u, h'.get? e = some u)
    (new : ObjOk X.prog X.w (upd H x o) h' x o) : Inv X pins σ (upd H x o) { s with heap := h', toks := t' } := I.un (Un.write mu he k heo) (I.hok.write mu he k heo new)
theorem Inv.pins_of {pins' : List (Addr × Obj)} (I : Inv X pins σ H s) (h : ∀ p ∈ pins', s.heap.get? p.1 = some p.2 ∧ H p.1 = none ∧ p.1 ≠ X.env.locals ∧ p.1 ∉ X.fs ∧ ∀ v, p.2.data ≠ .cell v) : Inv X pins' σ H s :=
  ⟨I.ok, I.os, I.bare, I.base, I.loc, I.cell, I.free, I.freeC, fun p hp => (List.mem_append.mp hp).elim (fun z => I.pin p (List.mem_append_left _ z)) (h p), I.hok, I.len⟩
theorem nodup_ix {N : List Str} (hN : N.Nodup) {i j : Nat} {x : Str} (a : N[i]? = some x) (b : N[j]? = some x) : i = j := by
  obtain ⟨h1, e1⟩ := List.getElem?_eq_some_iff.mp a
  obtain ⟨h2, e2⟩ := List.getElem?_eq_some_iff.mp b
  exact (List.getElem_inj hN).mp (e1.trans e2.symm)
theorem store_ok2 {M : Model} {A : Around} {E : Value → Shared → Prop} {i : Nat} {x : Str} {v : V} {u : Value} {Q : Unit → Shared → Prop} (I : Inv X pins σ H s) (hN : X.N.Nodup) (hi : X.N[i]? = some x) (hx : Loc X.env.scope x) (r : RelV v u)
    (h : ∀ s', Inv X pins (σ.set i (some v)) H s' → (∃ a, Heap.SameBut a s.heap s'.heap ∧ (a = X.env.locals ∨ X.env.cells.lookup x = some a)) → Q () s') (hf : X.fn x = true ∨ X.env.scope.names.lookup x = some .local := by first | exact .inl rfl | exact .inr rfl | assumption) : wpAny M A (storeName X.env x u) Q E s := by
  obtain ⟨m, hn, hl⟩ := id I.loc
  have hcls : (X.env.scope.kind == .class || (X.env.scope.kind == .module && X.env.locals != X.env.globals)) = false := by rw [I.ok.kind]; rfl
  have hiσ : i < σ.length := by rw [I.len]; exact (List.getElem?_eq_some_iff.mp hi).1
  have cne := I.cne
  have tracked : ∀ {a : Addr} {h' : Heap}, (∃ o, s.heap.get? a = some o ∧ H a = none) → Heap.SameBut a s.heap h' → HOk X.prog X.w H h' := fun {a h'} ha hs b ob e => by
    obtain ⟨_, _, hfree⟩ := ha
    refine (I.hok b ob e).stay (fun c w' hc q => (hs.2 c ?_).trans q) (fun _ q => q) fun _ _ q => q
    rintro rfl
    rcases hc with rfl | hc
    · rw [hfree] at e; cases e
    · rw [hfree] at hc; cases hc
  rcases hx with hk | hk
  · refine wpAny_storeName_local hk hn (fun h' hn' hs => ?_) hcls
    obtain ⟨oL, _, _, hoL, _⟩ := id hn
    refine h _ ⟨I.ok, I.os, I.bare, ⟨fun b o e n hb hx => ?_, fun b o e n hb hx => ?_, I.base.free, fun b o e hx => ?_, I.base.tups, I.base.frzs, I.base.tbls⟩, ⟨_, hn', fun j y v' e1 e2 e3 => ?_⟩, fun y c e => ?_, I.free, I.freeC, fun p hp => ?_, tracked ⟨oL, hoL, I.free⟩ hs, by simpa using I.len⟩ ⟨_, hs, .inl rfl⟩
    · exact (hs.2 b (Nat.ne_of_lt (Nat.lt_of_lt_of_le (Heap.lt_size e) I.ok.above))).trans (I.base.keep b o e n hb hx)
    · obtain ⟨sl, e1⟩ := I.base.slot b o e n hb hx
      exact ⟨sl, (hs.2 b (Nat.ne_of_lt (Nat.lt_of_lt_of_le (Heap.lt_size e) I.ok.above))).trans e1⟩
    · obtain ⟨o', e1⟩ := I.base.there b o e hx
      exact ⟨o', (hs.2 b (Nat.ne_of_lt (Nat.lt_of_lt_of_le (Heap.lt_size e) I.ok.above))).trans e1⟩
    · by_cases hj : j = i
      · subst hj
        rw [hi] at e1; cases e1
        rw [List.getElem?_set_self hiσ] at e2
        cases e2
        exact ⟨u, r, .inl ⟨hk, by simp⟩⟩
      · rw [List.getElem?_set_ne (Ne.symm hj)] at e2
        obtain ⟨u', r', q⟩ := hl j y v' e1 e2 e3
        refine ⟨u', r', ?_⟩
        rcases q with ⟨k, e⟩ | ⟨k, c, e, z⟩
        · refine .inl ⟨k, ?_⟩
          have : y ≠ x := fun e => hj (nodup_ix hN e1 (e ▸ hi))
          simp [this, e]
        · exact .inr ⟨k, c, e, z.sameBut hs (cne y c e)⟩
    · obtain ⟨w', z⟩ := I.cell y c e
      exact ⟨w', z.sameBut hs (cne y c e)⟩
    · obtain ⟨e, n, ne, nf, d⟩ := I.pin p hp
      exact ⟨(hs.2 p.1 ne).trans e, n, ne, nf, d⟩
  · have hfn : X.fn x = true := by
      rcases hf with z | z
      · exact z
      · rw [z] at hk; cases hk
    obtain ⟨c, hc⟩ := I.ok.has x (.inl hk)
    obtain ⟨w', z⟩ := I.cell x c hc
    refine wpAny_storeName_cell I.ok.kind hk hc z (fun h' hc' hs => ?_)
    obtain ⟨oc, hoc, hocd⟩ := id z
    refine h { s with heap := h' } ⟨I.ok, I.os, I.bare, ⟨fun b o e n hb hx => ?_, fun b o e n hb hx => ?_, I.base.free, fun b o e hx => ?_, I.base.tups, I.base.frzs, I.base.tbls⟩, ⟨m, hn.sameBut hs (Ne.symm (cne x c hc)), fun j y v' e1 e2 e3 => ?_⟩, fun y c' e => ?_, I.free, I.freeC, fun p hp => ?_, tracked ⟨oc, hoc, I.freeC x c hc⟩ hs, by simpa using I.len⟩ ⟨c, hs, .inr hc⟩
    · exact (hs.2 b (Nat.ne_of_lt (Nat.lt_of_lt_of_le (Heap.lt_size e) (I.ok.cab x c hfn hc)))).trans (I.base.keep b o e n hb hx)
    · obtain ⟨sl, e1⟩ := I.base.slot b o e n hb hx
      exact ⟨sl, (hs.2 b (Nat.ne_of_lt (Nat.lt_of_lt_of_le (Heap.lt_size e) (I.ok.cab x c hfn hc)))).trans e1⟩
    · obtain ⟨o', e1⟩ := I.base.there b o e hx
      exact ⟨o', (hs.2 b (Nat.ne_of_lt (Nat.lt_of_lt_of_le (Heap.lt_size e) (I.ok.cab x c hfn hc)))).trans e1⟩
    · by_cases hj : j = i
      · subst hj
        rw [hi] at e1; cases e1
        rw [List.getElem?_set_self hiσ] at e2
        cases e2
        exact ⟨u, r, .inr ⟨.inl hk, c, hc, hc'⟩⟩
      · rw [List.getElem?_set_ne (Ne.symm hj)] at e2
        obtain ⟨u', r', q⟩ := hl j y v' e1 e2 e3
        refine ⟨u', r', ?_⟩
        rcases q with q | ⟨k, c', e, z'⟩
        · exact .inl q
        · refine .inr ⟨k, c', e, z'.sameBut hs ?_⟩
          rintro rfl
          exact hj (nodup_ix hN e1 (I.ok.inj _ _ _ e hc ▸ hi))
    · by_cases hcc : c' = c
      · subst hcc; exact ⟨_, hc'⟩
      · obtain ⟨w2, z2⟩ := I.cell y c' e
        exact ⟨w2, z2.sameBut hs hcc⟩
    · obtain ⟨e, n, ne, nf, d⟩ := I.pin p hp
      refine ⟨(hs.2 p.1 ?_).trans e, n, ne, nf, d⟩
      intro q
      rw [q, hoc] at e
      have q' : oc = p.2 := Option.some.inj e
      exact d w' (by rw [← q']; exact hocd)
theorem store_ok {M : Model} {A : Around} {E : Value → Shared → Prop} {i : Nat} {x : Str} {v : V} {u : Value} {Q : Unit → Shared → Prop} (I : Inv X pins σ H s) (hN : X.N.Nodup) (hi : X.N[i]? = some x) (hx : Loc X.env.scope x) (r : RelV v u)
    (h : ∀ s', Inv X pins (σ.set i (some v)) H s' → Q () s') (hf : X.fn x = true ∨ X.env.scope.names.lookup x = some .local := by first | exact .inl rfl | exact .inr rfl | assumption) : wpAny M A (storeName X.env x u) Q E s :=
  store_ok2 I hN hi hx r (fun s' I' _ => h s' I') hf
theorem Inv.call' {s' : Shared} {ch : List Addr} (I : Inv X pins σ H s) (ho : s'.os = s.os) (u : Un (frs X.stack) ch H H' s.heap s'.heap) (hok : HOk X.prog X.w H' s'.heap) (hg : AllBare s'.gens)
    (hch : ∀ b ∈ ch, (b ∈ X.ex ∨ X.s₀.heap.objs.size ≤ b) ∧ b ≠ X.env.locals ∧ (∀ x c, X.env.cells.lookup x = some c → c ≠ b) ∧ ∀ p ∈ X.pn ++ pins, p.1 ≠ b) : Inv X pins σ H' s' := by
  obtain ⟨h', g', d', t', o'⟩ := s'
  have e : o' = s.os := ho
  subst e
  exact I.call (g' := g') (t' := t') (d' := d') u hok hg hch
end
noncomputable abbrev XK := Value → Option Addr → Hp → Prop
noncomputable abbrev St := List (Option V)
noncomputable abbrev VK := V → Hp → Prop
noncomputable abbrev TE := St → Hp → VK → Prop
noncomputable abbrev TT := St → Hp → (Bool → Hp → Prop) → Prop
noncomputable abbrev TA := St → Hp → (List V → Hp → Prop) → Prop
structure Ends where
  nx : St → Hp → Prop
  rt : VK
  bk : St → Hp → Prop := fun _ _ => False
  ct : St → Hp → Prop := fun _ _ => False
noncomputable abbrev TS := Ends → St → Hp → Prop
noncomputable def EP (X : Cx) (pins : List (Addr × Obj)) (σ : St) (Q : VK) (u : Value) (s' : Shared) : Prop := ∃ v H', Inv X pins σ H' s' ∧ RelV v u ∧ Q v H'
noncomputable def TP (X : Cx) (pins : List (Addr × Obj)) (σ : St) (Q : Bool → Hp → Prop) (b : Bool) (s' : Shared) : Prop := ∃ H', Inv X pins σ H' s' ∧ Q b H'
noncomputable def AP (X : Cx) (pins : List (Addr × Obj)) (σ : St) (Q : List V → Hp → Prop) (us : List Value) (s' : Shared) : Prop := ∃ vs H', Inv X pins σ H' s' ∧ Vals vs us ∧ Q vs H'
noncomputable def SP (X : Cx) (pins : List (Addr × Obj)) (D : Ends) (f : Flow) (s' : Shared) : Prop :=
  match f with
  | .next => ∃ σ' H', Inv X pins σ' H' s' ∧ D.nx σ' H'
  | .brk => ∃ σ' H', Inv X pins σ' H' s' ∧ D.bk σ' H'
  | .cont => ∃ σ' H', Inv X pins σ' H' s' ∧ D.ct σ' H'
  | .ret u => ∃ v σ' H', Inv X pins σ' H' s' ∧ RelV v u ∧ D.rt v H'
noncomputable def PE (X : Cx) (e : Expr) (t : TE) : Prop :=
  ∀ (pins : List (Addr × Obj)) (s : Shared) (σ : St) (H : Hp) (Q : VK), Inv X pins σ H s → t σ H Q → wpAny (model X.prog X.w) X.A (eval e X.env) (EP X pins σ Q) X.xe s
noncomputable def PT (X : Cx) (e : Expr) (t : TT) : Prop :=
  ∀ (pins : List (Addr × Obj)) (s : Shared) (σ : St) (H : Hp) (Q : Bool → Hp → Prop), Inv X pins σ H s → t σ H Q → wpAny (model X.prog X.w) X.A (isTrue e X.env (eval e X.env)) (TP X pins σ Q) X.xe s
noncomputable def PW (X : Cx) (e : Expr) (t : TT) : Prop :=
  ∀ (whole : Sem Value) (pins : List (Addr × Obj)) (s : Shared) (σ : St) (H : Hp) (Q : Bool → Hp → Prop), Inv X pins σ H s → t σ H Q → wpAny (model X.prog X.w) X.A (isTrue e X.env whole) (TP X pins σ Q) X.xe s
theorem PW.pt {X : Cx} {e : Expr} {t : TT} (h : PW X e t) : PT X e t := h _
noncomputable def PA (X : Cx) (es : List Expr) (t : TA) : Prop :=
  ∀ (pos : Pos) (pins : List (Addr × Obj)) (s : Shared) (σ : St) (H : Hp) (Q : List V → Hp → Prop), Inv X pins σ H s → t σ H Q → wpAny (model X.prog X.w) X.A (spliced (backTo pos (starEach es X.env))) (AP X pins σ Q) X.xe s
noncomputable def PS (X : Cx) (st : Stmt) (t : TS) : Prop :=
  ∀ (pins : List (Addr × Obj)) (s : Shared) (σ : St) (H : Hp) (D : Ends), Inv X pins σ H s → t D σ H → wpAny (model X.prog X.w) X.A (exec st X.env) (SP X pins D) X.xe s
noncomputable def PSs (X : Cx) (st : List Stmt) (t : TS) : Prop :=
  ∀ (pins : List (Addr × Obj)) (s : Shared) (σ : St) (H : Hp) (D : Ends), Inv X pins σ H s → t D σ H → wpAny (model X.prog X.w) X.A (execs st X.env) (SP X pins D) X.xe s
theorem thn {α : Type} {t : Sem α} {Q Q' : α → Shared → Prop} {M : Model} {A : Around} {E : Value → Shared → Prop} {s : Shared} (h : wpAny M A t Q E s) (hQ : ∀ a s, Q a s → Q' a s) : wpAny M A t Q' E s := wpAny_mono h hQ fun _ _ x => x
end L2
namespace L2
open PySem PySem.Spec PyProof.Rows
section
variable {X : Cx}
noncomputable def tVar (i : Nat) : TE := fun σ H Q => ∃ v, σ[i]? = some (some v) ∧ Q v H
noncomputable def tC (v : V) : TE := fun _ H Q => Q v H
theorem pe_var {i : Nat} {x : Str} {pos : Pos} (hN : X.N[i]? = some x) (hv : Vis X.env.scope x) (hd : (x == ("__debug__" : Str)) = false := by decide) (hcd : (x == ("__classdict__" : Str)) = false := by decide) : PE X (.Name x pos) (tVar i) := by
  intro pins s σ H Q I h
  obtain ⟨v, e, h⟩ := h
  obtain ⟨m, hn, hl⟩ := I.loc
  obtain ⟨u, r, l⟩ := hl i x v hN e hv
  have fin : EP X pins σ Q u s := ⟨v, H, I, r, h⟩
  rcases l with ⟨hk, hm⟩ | ⟨hk, c, hc, hcell⟩
  · exact wpAny_Name (wpAny_loadName_local I.ok.kind hk hn hm fin) hd
  · rcases hk with hk | hk
    · exact wpAny_Name (wpAny_loadName_cell I.ok.kind hk hc hcell fin) hd
    · exact wpAny_Name (wpAny_loadName_free I.ok.kind hk hc hcell fin hcd) hd
theorem pe_int {i j pos} : PE X (.Constant (.int i) j pos) (tC (.int i)) := fun _ _ _ H _ I h => wpAny_Constant_int ⟨.int i, H, I.tok _, ⟨_, rfl⟩, h⟩
theorem pe_bl {b j pos} : PE X (.Constant (.bool b) j pos) (tC (.bl b)) := fun _ _ _ H _ I h => Constant_bool ⟨.bl b, H, I, rfl, h⟩
theorem pe_non {j pos} : PE X (.Constant .none j pos) (tC .non) := fun _ _ _ H _ I h => Constant_none ⟨.non, H, I, rfl, h⟩
theorem pe_str {x j pos} : PE X (.Constant (.str x) j pos) (tC (.str x)) := fun _ _ _ H _ I h => Calls.Constant_str ⟨.str x, H, I.tok _, ⟨_, rfl⟩, h⟩
noncomputable def Gl (X : Cx) (x : Str) : Prop := X.env.kindOf x = some .globalImplicit
theorem ld_glob {E : Value → Shared → Prop} {pins : List (Addr × Obj)} {s : Shared} {σ : St} {H : Hp} {x : Str} {u : Value} {pos : Pos} {Q : Value → Shared → Prop} (I : Inv X pins σ H s) (hg : Gl X x) (hm : X.mg x = some u) (h : Q u s)
    (hd : (x == ("__debug__" : Str)) = false := by decide) : wpAny (model X.prog X.w) X.A (eval (.Name x pos) X.env) Q E s :=
  Calls.Name_function_global I.ok.kind hg (Calls.loadGlobal_global (by rw [I.ok.glob]; exact I.mod.glob.keeps I.bk) hm h) hd
theorem ld_blt {E : Value → Shared → Prop} {pins : List (Addr × Obj)} {s : Shared} {σ : St} {H : Hp} {x : Str} {u : Value} {pos : Pos} {Q : Value → Shared → Prop} (I : Inv X pins σ H s) (hg : Gl X x) (hm : X.mg x = none) (hv : bootBuiltins x = some u) (h : Q u s)
    (hn : x ≠ "__name__" := by decide) (hd : (x == ("__debug__" : Str)) = false := by decide) : wpAny (model X.prog X.w) X.A (eval (.Name x pos) X.env) Q E s := by
  obtain ⟨mb, h1, h2⟩ := I.mod.blt
  exact Calls.Name_function_global I.ok.kind hg (Calls.loadGlobal_builtin (by rw [I.ok.glob]; exact I.mod.glob.keeps I.bk) hm (by rw [I.ok.blt]; exact h1.keeps I.bk) ((h2 x hn).trans hv) h) hd
theorem pe_glob {x : Str} {v : V} {u : Value} {pos : Pos} (hg : Gl X x) (hm : X.mg x = some u) (r : RelV v u) (hd : (x == ("__debug__" : Str)) = false := by decide) : PE X (.Name x pos) (tC v) :=
  fun _ _ _ H _ I h => ld_glob I hg hm ⟨v, H, I, r, h⟩ hd
theorem pe_bltn {x : Str} {v : V} {u : Value} {pos : Pos} (hg : Gl X x) (hm : X.mg x = none) (hv : bootBuiltins x = some u) (r : RelV v u) (hn : x ≠ "__name__" := by decide) (hd : (x == ("__debug__" : Str)) = false := by decide) : PE X (.Name x pos) (tC v) :=
  fun _ _ _ H _ I h => ld_blt I hg hm hv ⟨v, H, I, r, h⟩ hn hd
variable {a b : Expr} {ta tb : TE} {pos : Pos}
variable {tA tB' : TT} {rest : List Expr}
noncomputable def tAnd (t u : TT) : TT := fun σ H Q => t σ H fun c H1 => if c = true then u σ H1 Q else Q false H1
noncomputable def tOr (t u : TT) : TT := fun σ H Q => t σ H fun c H1 => if c = true then Q true H1 else u σ H1 Q
noncomputable def tNot (t : TT) : TT := fun σ H Q => t σ H fun c H1 => Q (!c) H1
theorem pw_and1 (ha : PT X a tA) : PW X (.BoolOp .And [a] pos) tA := by
  intro wh pins s σ H Q I h
  refine isTrue_and (thn (ha pins s σ H Q I h) fun c s1 e => ?_)
  cases c with
  | true => exact isTrue_and_nil e
  | false => exact e
theorem pw_or1 (ha : PT X a tA) : PW X (.BoolOp .Or [a] pos) tA := by
  intro wh pins s σ H Q I h
  refine isTrue_or (thn (ha pins s σ H Q I h) fun c s1 e => ?_)
  cases c with
  | false => exact isTrue_or_nil e
  | true => exact e
theorem pw_and (ha : PT X a tA) (hb : PW X (.BoolOp .And (b :: rest) pos) tB') : PW X (.BoolOp .And (a :: b :: rest) pos) (tAnd tA tB') := by
  intro wh pins s σ H Q I h
  refine isTrue_and (thn (ha pins s σ H _ I h) fun c s1 ⟨H1, I1, q1⟩ => ?_)
  cases c with
  | true => exact hb wh pins s1 σ H1 Q I1 q1
  | false => exact ⟨H1, I1, q1⟩
theorem pw_or (ha : PT X a tA) (hb : PW X (.BoolOp .Or (b :: rest) pos) tB') : PW X (.BoolOp .Or (a :: b :: rest) pos) (tOr tA tB') := by
  intro wh pins s σ H Q I h
  refine isTrue_or (thn (ha pins s σ H _ I h) fun c s1 ⟨H1, I1, q1⟩ => ?_)
  cases c with
  | true => exact ⟨H1, I1, q1⟩
  | false => exact hb wh pins s1 σ H1 Q I1 q1
theorem pt_not (ha : PT X a tA) : PT X (.UnaryOp .Not a pos) (tNot tA) := by
  intro pins s σ H Q I h
  exact isTrue_not (ha pins s σ H (fun c H1 => Q (!c) H1) I h)
end
end L2
namespace L2
open PySem PySem.Spec PyProof.Rows
noncomputable def SqL (K : PySem.W.Frag) (H : Hp) (a : Addr) (xs : List V) : Prop :=
  Rd H a (.lst xs) ∨
    ∃ (o : Obj) (its : Array Value) (n : Nat), K.lookup a = some o ∧ o.cls = .type "list" ∧ o.dict = none ∧ o.data = .seq its n ∧ its.size ≤ sizeLine ∧ Vals xs its.toList
noncomputable def SqT (K : PySem.W.Frag) (H : Hp) (a : Addr) (xs : List V) : Prop :=
  Rd H a (.tup xs) ∨
    ∃ (o : Obj) (its : Array Value) (n : Nat), K.lookup a = some o ∧ o.cls = .type "tuple" ∧ o.data = .seq its n ∧ its.size ≤ sizeLine ∧ Vals xs its.toList
noncomputable def absV : Value → Option V
  | .none => some .non
  | .bool b => some (.bl b)
  | .int i _ => some (.int i)
  | .str x _ => some (.str x)
  | .bytes b _ => some (.byt b)
  | .float b _ => some (.flt b)
  | .ref a => some (.ref a)
  | .type n => some (.ty n)
  | _ => none
theorem RelV.abs {x : V} {u : Value} (r : RelV x u) : absV u = some x := by
  cases x with
  | non => cases r; rfl
  | bl _ => cases r; rfl
  | int _ => obtain ⟨t, rfl⟩ := r; rfl
  | str _ => obtain ⟨t, rfl⟩ := r; rfl
  | byt _ => obtain ⟨t, rfl⟩ := r; rfl
  | flt _ => obtain ⟨t, rfl⟩ := r; rfl
  | ref _ => cases r; rfl
  | ty _ => cases r; rfl
theorem RelV.inj {x y : V} {u : Value} (r : RelV x u) (q : RelV y u) : x = y := Option.some.inj (r.abs.symm.trans q.abs)
theorem Vals.inj : ∀ {xs ys : List V} {us : List Value}, Vals xs us → Vals ys us → xs = ys
  | _, _, _, .nil, .nil => rfl
  | _, _, _, .cons r t, .cons r' t' => by rw [r.inj r', Vals.inj t t']
section
variable {X : Cx} {pins : List (Addr × Obj)} {σ : St} {H : Hp} {s : Shared} {a : Addr} {xs ys : List V}
theorem SqL.of {K : PySem.W.Frag} (h : H a = some (.lst xs)) : SqL K H a xs := .inl (.inl h)
theorem SqT.of {K : PySem.W.Frag} (h : H a = some (.tup xs)) : SqT K H a xs := .inl (.inl h)
theorem Inv.list (I : Inv X pins σ H s) (h : SqL X.K H a xs) : ∃ its : List Value, Vals xs its ∧ PlainL s.heap a its.toArray ∧ xs.length ≤ sizeLine := by
  rcases h with h | ⟨o, its, n, hk, hc, hd, hs, hz, r⟩
  · obtain ⟨z, its, n, r, e⟩ := h.ok I.hok
    exact ⟨its, r, ⟨_, n, e, rfl, rfl, rfl⟩, z⟩
  · refine ⟨its.toList, r, ⟨o, n, I.kIn a o hk, hc, hd, by simpa using hs⟩, ?_⟩
    have e := r.length
    simp only [Array.length_toList] at e
    omega
theorem Inv.tuple (I : Inv X pins σ H s) (h : SqT X.K H a xs) : ∃ its : List Value, Vals xs its ∧ IsTup s.heap a its.toArray ∧ xs.length ≤ sizeLine := by
  rcases h with h | ⟨o, its, n, hk, hc, hs, hz, r⟩
  · obtain ⟨z, its, r, p⟩ := h.ok I.hok
    exact ⟨its, r, p, z⟩
  · refine ⟨its.toList, r, ⟨o, I.kIn a o hk, hc, n, by simpa using hs⟩, ?_⟩
    have e := r.length
    simp only [Array.length_toList] at e
    omega
theorem Inv.list_inj (I : Inv X pins σ H s) (h : SqL X.K H a xs) (h' : SqL X.K H a ys) : xs = ys := by
  obtain ⟨its, r, ⟨o, n, e, _, _, d⟩, _⟩ := I.list h
  obtain ⟨its', r', ⟨o', n', e', _, _, d'⟩, _⟩ := I.list h'
  rw [e] at e'; cases e'
  rw [d] at d'
  injection d' with d1 _
  have : its = its' := by simpa using congrArg Array.toList d1
  subst this
  exact r.inj r'
theorem Inv.tuple_inj (I : Inv X pins σ H s) (h : SqT X.K H a xs) (h' : SqT X.K H a ys) : xs = ys := by
  obtain ⟨its, r, ⟨o, e, _, n, d⟩, _⟩ := I.tuple h
  obtain ⟨its', r', ⟨o', e', _, n', d'⟩, _⟩ := I.tuple h'
  rw [e] at e'; cases e'
  rw [d] at d'
  injection d' with d1 _
  have : its = its' := by simpa using congrArg Array.toList d1
  subst this
  exact r.inj r'
end
section
variable {X : Cx} {pins : List (Addr × Obj)} {σ : St} {H : Hp} {s : Shared} {E : Value → Shared → Prop}
end
section
variable {X : Cx} {st : Stmt} {rest : List Stmt} {t u : TS} {e : Expr} {te : TE} {pos : Pos}
noncomputable def tNext : TS := fun D σ H => D.nx σ H
noncomputable def tSeq (t u : TS) : TS := fun D σ H => t { D with nx := u D } σ H
theorem pss_nil : PSs X [] tNext := fun _ _ σ H _ I h => wpAny_execs_nil ⟨σ, H, I, h⟩
theorem pss_cons (h1 : PS X st t) (h2 : PSs X rest u) : PSs X (st :: rest) (tSeq t u) := by
  intro pins s σ H D I h
  refine wpAny_execs_cons (thn (h1 pins s σ H { D with nx := u D } I h) fun f s1 q => ?_)
  cases f with
  | next =>
    obtain ⟨σ', H', I', q⟩ := q
    exact h2 pins s1 σ' H' D I' q
  | ret v => exact q
  | brk => exact q
  | cont => exact q
theorem pss_one (h1 : PS X st t) : PSs X [st] t := by
  intro pins s σ H D I h
  refine wpAny_execs_cons (thn (h1 pins s σ H D I h) fun f s1 q => ?_)
  cases f with
  | next => exact wpAny_execs_nil q
  | ret v => exact q
  | brk => exact q
  | cont => exact q
theorem Inv.quiet {pins : List (Addr × Obj)} {σ : St} {H : Hp} {s : Shared} (I : Inv X pins σ H s) : interactive X.env = false := by simp [interactive, I.ok.kind]
noncomputable def tDrop (te : TE) : TS := fun D σ H => te σ H fun _ H1 => D.nx σ H1
theorem ps_expr (he : PE X e te) (hs : swapsWith e none pos.line X.env = pure false := by rfl) : PS X (.Expr e pos) (tDrop te) := by
  intro pins s σ H D I h
  exact wpAny_Expr_any (thn (he pins s σ H _ I h) fun v s1 ⟨x, H1, I1, r1, q1⟩ => ⟨σ, H1, I1, q1⟩) I.quiet hs
noncomputable def tRet (te : TE) : TS := fun D σ H => te σ H D.rt
theorem ps_ret (he : PE X e te) : PS X (.Return (some e) pos) (tRet te) := by
  intro pins s σ H D I h
  exact wpAny_Return_some (thn (he pins s σ H _ I h) fun v s1 ⟨x, H1, I1, r1, q1⟩ => ⟨x, σ, H1, I1, r1, q1⟩)
noncomputable def tIfS (c : TT) (t u : TS) : TS := fun D σ H => c σ H fun b H1 => if b = true then t D σ H1 else u D σ H1
theorem ps_if {c : Expr} {a b : List Stmt} {tc : TT} (hc : PT X c tc) (ha : PSs X a t) (hb : PSs X b u) : PS X (.If c a b pos) (tIfS tc t u) := by
  intro pins s σ H D I h
  refine wpAny_If (thn (hc pins s σ H _ I h) fun d s1 ⟨H1, I1, q1⟩ => ?_)
  cases d with
  | true => exact ha pins s1 σ H1 D I1 q1
  | false => exact hb pins s1 σ H1 D I1 q1
end
noncomputable abbrev TG := V → St → Hp → (St → Hp → Prop) → Prop
noncomputable def PG (X : Cx) (target : Expr) (t : TG) : Prop :=
  ∀ (pins : List (Addr × Obj)) (s : Shared) (σ : St) (H : Hp) (v : V) (u : Value) (Q : St → Hp → Prop), Inv X pins σ H s → RelV v u → t v σ H Q →
    wpAny (model X.prog X.w) X.A (assign target X.env u) (fun _ s' => ∃ σ' H', Inv X pins σ' H' s' ∧ Q σ' H') X.xe s
section
variable {X : Cx} {pos : Pos}
noncomputable def gName (i : Nat) : TG := fun v σ H Q => Q (σ.set i (some v)) H
theorem pg_name {i : Nat} {x : Str} (hN : X.N.Nodup) (hi : X.N[i]? = some x) (hx : Loc X.env.scope x) (hf : X.fn x = true ∨ X.env.scope.names.lookup x = some .local := by first | exact .inl rfl | exact .inr rfl | assumption) : PG X (.Name x pos) (gName i) := by
  intro pins s σ H v u Q I r h
  exact wpAny_assign_Name (store_ok I hN hi hx r (fun s' I' => ⟨_, H, I', h⟩) hf)
noncomputable def tAsg (te : TE) (g : TG) : TS := fun D σ H => te σ H fun x H1 => g x σ H1 D.nx
theorem ps_set {i : Nat} {x : Str} {e : Expr} {te : TE} {pos' : Pos} (hN : X.N.Nodup) (hi : X.N[i]? = some x) (hx : Loc X.env.scope x) (he : PE X e te) (hs : swapsWith e (some (.Name x pos')) pos.line X.env = pure false := by rfl) (hf : X.fn x = true ∨ X.env.scope.names.lookup x = some .local := by first | exact .inl rfl | exact .inr rfl | assumption) :
    PS X (.Assign [.Name x pos'] e pos) (tAsg te (gName i)) := by
  intro pins s σ H D I h
  refine wpAny_Assign_Name (thn (he pins s σ H _ I h) fun v s1 ⟨y, H1, I1, r1, q1⟩ => ?_) hs
  exact store_ok I1 hN hi hx r1 (fun s2 I2 => ⟨_, H1, I2, q1⟩) hf
end
section
variable {X : Cx} {pos : Pos}
end
structure It where
  go : Nat → Hp → Prop
  yld : Nat → Hp → V → Hp → Prop
  stop : Nat → Hp → Prop
noncomputable def FpOk (X : Cx) (pins : List (Addr × Obj)) (H : Hp) (b : Addr) : Prop :=
  H b = none ∧ b ≠ X.env.locals ∧ b ∉ X.fs ∧ (b ∈ X.ex ∨ X.s₀.heap.objs.size ≤ b) ∧ (∀ x c, X.env.cells.lookup x = some c → c ≠ b) ∧ ∀ p ∈ X.pn ++ pins, p.1 ≠ b
theorem Inv.fpOk {X : Cx} {pins : List (Addr × Obj)} {σ : St} {H H' : Hp} {s : Shared} {b : Addr} (I : Inv X pins σ H s) (hb : s.heap.objs.size ≤ b) (hn : H' b = none) : FpOk X pins H' b := by
  refine ⟨hn, Nat.ne_of_gt (Nat.lt_of_lt_of_le I.lt hb), I.nofs hb, .inr (Nat.le_trans I.sz hb), fun x c e z => ?_, fun p hp z => ?_⟩
  · obtain ⟨v, q⟩ := I.cell x c e
    exact absurd (Nat.lt_of_lt_of_le q.lt (by rw [z]; exact hb)) (Nat.lt_irrefl _)
  · exact absurd (Nat.lt_of_lt_of_le (Heap.lt_size (I.pin p hp).1) (by rw [z]; exact hb)) (Nat.lt_irrefl _)
structure Turn (P : Program) (w : World) (K : PySem.W.Frag) (tg : Expr) (J : It) (fp : List Addr) (it : Addr) (tn : Nat → Heap → Prop) : Prop where
  mem : it ∈ fp
  obj : ∀ i h, tn i h → ∀ b ∈ fp, ∃ o, h.get? b = some o ∧ ∀ v, o.data ≠ .cell v
  keep : ∀ i h h', tn i h → (∀ b ∈ fp, ∀ o, h.get? b = some o → h'.get? b = some o) → tn i h'
  item : ∀ (X : Cx), X.prog = P → X.w = w → X.K = K → X.calm = true → ∀ (i : Nat) (pins : List (Addr × Obj)) (s : Shared) (σ : St) (H : Hp) (E : Value → Shared → Prop), Inv X pins σ H s → (∀ b ∈ fp, FpOk X pins H b) → tn i s.heap → J.go i H →
    wpAny (model P w) X.A (pyNext (.ref it)) (fun r s1 => ∃ u, r = some u ∧
      wpAny (model P w) X.A (letOwnedTupleGo tg (.ref it) u) (fun _ s2 => ∃ x H', Inv X pins σ H' s2 ∧ RelV x u ∧ J.yld i H x H' ∧ tn (i + 1) s2.heap ∧ ∀ b ∈ fp, H' b = none) E s1) E s
  done : ∀ (X : Cx), X.prog = P → X.w = w → X.K = K → X.calm = true → ∀ (i : Nat) (pins : List (Addr × Obj)) (s : Shared) (σ : St) (H : Hp) (E : Value → Shared → Prop), Inv X pins σ H s → (∀ b ∈ fp, FpOk X pins H b) → tn i s.heap → J.stop i H →
    wpAny (model P w) X.A (pyNext (.ref it)) (fun r s1 => r = none ∧ Inv X pins σ H s1) E s
  self : ∀ (A : Around) (i : Nat) (s : Shared) (Q : Value → Shared → Prop) (E : Value → Shared → Prop), tn i s.heap → Q (.ref it) s → wpAny (model P w) A (pyIter (.ref it)) Q E s
noncomputable abbrev TI := St → Hp → (It → Hp → Prop) → Prop
noncomputable def PIE (X : Cx) (pins : List (Addr × Obj)) (σ : St) (tg : Expr) (R : It → Hp → Prop) (itv : Value) (s2 : Shared) : Prop :=
  ∃ (it : Addr) (fp : List Addr) (tn : Nat → Heap → Prop) (J : It) (H' : Hp), itv = .ref it ∧ Inv X pins σ H' s2 ∧ Turn X.prog X.w X.K tg J fp it tn ∧ tn 0 s2.heap ∧ (∀ b ∈ fp, FpOk X pins H' b) ∧ R J H'
noncomputable def PI (X : Cx) (tg iter : Expr) (wi : TI) : Prop :=
  ∀ (pins : List (Addr × Obj)) (s : Shared) (σ : St) (H : Hp) (R : It → Hp → Prop), Inv X pins σ H s → wi σ H R →
    wpAny (model X.prog X.w) X.A (eval iter X.env) (fun v s1 => wpAny (model X.prog X.w) X.A (pyIter v) (PIE X pins σ tg R) X.xe s1) X.xe s
theorem go_of {M : Model} {A : Around} {E : Value → Shared → Prop} {s : Shared} {tg : Expr} {it : Addr} {u : Value} {o : Obj} {n : String} {vs : Array Value} {Q : Unit → Shared → Prop} (ho : s.heap.get? it = some o) (hc : o.cls = .type n) (hd : o.data = .fields vs)
    (hn : ["enumerate", "zip", "dict_itemiterator", "dict_reverseitemiterator", "odict_iterator", "itertools.zip_longest", "itertools.pairwise"].contains n = false) (hQ : Q () s) : wpAny M A (letOwnedTupleGo tg (.ref it) u) Q E s := by
  unfold letOwnedTupleGo
  cases tg <;> first
    | exact wpAny_pure hQ
    | (cases u <;> first
        | exact wpAny_pure hQ
        | (refine wpAny_bind (wpAny_load ho ?_)
           rw [hc, hd]
           show wpAny M A (if (["enumerate", "zip", "dict_itemiterator", "dict_reverseitemiterator", "odict_iterator", "itertools.zip_longest", "itertools.pairwise"].contains n && vs[0]? == some (rawInt _)) = true then _ else _) Q E s
           rw [if_neg (by intro h; rw [hn, Bool.false_and] at h; cases h)]
           exact wpAny_pure hQ))
noncomputable def Itl (K : PySem.W.Frag) (a : Addr) : It :=
  ⟨fun i H => ∃ xs x, SqL K H a xs ∧ xs[i]? = some x, fun i H x H' => H' = H ∧ ∀ xs, SqL K H a xs → xs[i]? = some x, fun i H => ∃ xs, SqL K H a xs ∧ xs.length ≤ i⟩
noncomputable def Itt (K : PySem.W.Frag) (a : Addr) : It :=
  ⟨fun i H => ∃ xs x, SqT K H a xs ∧ xs[i]? = some x, fun i H x H' => H' = H ∧ ∀ xs, SqT K H a xs → xs[i]? = some x, fun i H => ∃ xs, SqT K H a xs ∧ xs.length ≤ i⟩
noncomputable def Itr (lo : Int) (n : Nat) : It := ⟨fun i _ => i < n, fun i H x H' => H' = H ∧ x = .int (lo + i), fun i _ => n ≤ i⟩
theorem turn_list {P : Program} {w : World} {K : PySem.W.Frag} {tg : Expr} (a it : Addr) : Turn P w K tg (Itl K a) [it] it (fun i h => h.IsListIter it a i) where
  mem := by simp
  obj := fun i h st b hb => by
    have e : b = it := by simpa using hb
    subst e
    obtain ⟨o, e, c, d⟩ := st
    exact ⟨o, e, fun v z => by rw [d] at z; cases z⟩
  keep := fun i h h' st k => st.at fun o e => k it (by simp) o e
  item := by
    intro X hP hw hK hc i pins s σ H E I hf st hg
    subst hP hw hK
    obtain ⟨xs, x, hq, hx⟩ := hg
    obtain ⟨its, rv, p, hz⟩ := I.list hq
    obtain ⟨u, hu, ru⟩ := rv.get hx
    obtain ⟨f0, f1, f2, f3, f4, f5⟩ := hf it (by simp)
    refine wpAny_pyNext_list_item st p.isList (x := u) (by simpa using hu) fun h' st' sb => ?_
    have I1 : Inv X pins σ H { s with heap := h' } := I.turned (t' := s.toks) (fun b o hb e => (sb.2 b hb).trans e) f0 f1 f3 f4 f5
    obtain ⟨o, e, c, d⟩ := id st'
    exact ⟨u, rfl, go_of (s := { s with heap := h' }) e c d (by decide) ⟨x, H, I1, ru, ⟨rfl, fun ys hy => by rw [I.list_inj hy hq]; exact hx⟩, st', fun b hb => (hf b hb).1⟩⟩
  done := by
    intro X hP hw hK hc i pins s σ H E I hf st hg
    subst hP hw hK
    obtain ⟨xs, hq, hx⟩ := hg
    obtain ⟨its, rv, p, hz⟩ := I.list hq
    obtain ⟨f0, f1, f2, f3, f4, f5⟩ := hf it (by simp)
    have hl := rv.length
    exact wpAny_pyNext_list_end (I.ok.hd hc) st p.isList (by simp; omega) fun h' eb => ⟨rfl, I.turned (t' := s.toks) (fun b o hb e => eb b o hb e) f0 f1 f3 f4 f5⟩
  self := fun _ _ _ _ _ st h => wpAny_pyIter_listiter st h
theorem turn_tuple {P : Program} {w : World} {K : PySem.W.Frag} {tg : Expr} (a it : Addr) : Turn P w K tg (Itt K a) [it] it (fun i h => h.IsTupleIter it a i) where
  mem := by simp
  obj := fun i h st b hb => by
    have e : b = it := by simpa using hb
    subst e
    obtain ⟨o, e, c, d⟩ := st
    exact ⟨o, e, fun v z => by rw [d] at z; cases z⟩
  keep := fun i h h' st k => st.at fun o e => k it (by simp) o e
  item := by
    intro X hP hw hK hc i pins s σ H E I hf st hg
    subst hP hw hK
    obtain ⟨xs, x, hq, hx⟩ := hg
    obtain ⟨its, rv, p, hz⟩ := I.tuple hq
    obtain ⟨u, hu, ru⟩ := rv.get hx
    obtain ⟨f0, f1, f2, f3, f4, f5⟩ := hf it (by simp)
    refine wpAny_pyNext_tuple_item st (show s.heap.IsTuple a its.toArray from p) (x := u) (by simpa using hu) fun h' st' sb => ?_
    have I1 : Inv X pins σ H { s with heap := h' } := I.turned (t' := s.toks) (fun b o hb e => (sb.2 b hb).trans e) f0 f1 f3 f4 f5
    obtain ⟨o, e, c, d⟩ := id st'
    exact ⟨u, rfl, go_of (s := { s with heap := h' }) e c d (by decide) ⟨x, H, I1, ru, ⟨rfl, fun ys hy => by rw [I.tuple_inj hy hq]; exact hx⟩, st', fun b hb => (hf b hb).1⟩⟩
  done := by
    intro X hP hw hK hc i pins s σ H E I hf st hg
    subst hP hw hK
    obtain ⟨xs, hq, hx⟩ := hg
    obtain ⟨its, rv, p, hz⟩ := I.tuple hq
    obtain ⟨f0, f1, f2, f3, f4, f5⟩ := hf it (by simp)
    have hl := rv.length
    exact wpAny_pyNext_tuple_end (I.ok.hd hc) st (show s.heap.IsTuple a its.toArray from p) (by simp; omega) fun h' eb => ⟨rfl, I.turned (t' := s.toks) (fun b o hb e => eb b o hb e) f0 f1 f3 f4 f5⟩
  self := fun _ _ _ _ _ st h => wpAny_pyIter_tupleiter st h
theorem turn_range {P : Program} {w : World} {K : PySem.W.Frag} {tg : Expr} (it : Addr) (lo : Int) (n : Nat) : Turn P w K tg (Itr lo n) [it] it (fun i h => IsRangeIter h it (lo + (i : Nat) * 1) ((n : Int) - (i : Nat)) 1) where
  mem := by simp
  obj := fun i h st b hb => by
    have e : b = it := by simpa using hb
    subst e
    exact ⟨_, st, fun v z => by
      have z' : Data.fields _ = Data.cell v := z
      cases z'⟩
  keep := fun i h h' st k => k it (by simp) _ st
  item := by
    intro X hP hw hK hc i pins s σ H E I hf st hg
    subst hP hw hK
    obtain ⟨f0, f1, f2, f3, f4, f5⟩ := hf it (by simp)
    have W := Walks.range (prog := X.prog) (w := X.w) (I.ok.hd hc) it lo 1 n
    refine W.item i s _ _ hg st fun v h' tk hv st' kk => ?_
    obtain ⟨t, rfl⟩ := hv
    have I1 : Inv X pins σ H { s with heap := h', toks := tk } := I.turned (fun b o hb e => kk b o (by simpa using hb) e) f0 f1 f3 f4 f5
    refine ⟨_, rfl, go_of (s := { s with heap := h', toks := tk }) (n := "range_iterator") st' rfl rfl (by decide) ⟨.int (lo + i), H, I1, ⟨t, ?_⟩, ⟨rfl, rfl⟩, st', fun b hb => (hf b hb).1⟩⟩
    rw [Int.mul_one]
  done := by
    intro X hP hw hK hc i pins s σ H E I hf st hg
    subst hP hw hK
    obtain ⟨f0, f1, f2, f3, f4, f5⟩ := hf it (by simp)
    exact wpAny_pyNext_range_end (I.ok.hd hc) st (by have : n ≤ i := hg; omega) fun h' eb => ⟨rfl, I.turned (t' := s.toks) (fun b o hb e => eb b o hb e) f0 f1 f3 f4 f5⟩
  self := fun _ _ _ _ _ st h => wpAny_pyIter_rangeiter st h
end L2
namespace L2
open PySem PySem.Spec PyProof.Rows
section
variable {X : Cx} {tg : Expr}
theorem range_it {pins : List (Addr × Obj)} {σ : St} {H : Hp} {s : Shared} {R : It → Hp → Prop} {E : Value → Shared → Prop} {lo hi : Int} {t u v : Tok} {tk : Nat} (I : Inv X pins σ H s) (h1 : -(2 ^ 62) ≤ lo) (h2 : lo < 2 ^ 62) (h3 : -(2 ^ 62) ≤ hi) (h4 : hi < 2 ^ 62)
    (q : R (Itr lo (hi - lo).toNat) H) : wpAny (model X.prog X.w) X.A (pyIter (.ref s.heap.objs.size)) (PIE X pins σ tg R) E { s with heap := s.heap.push { cls := .type "range", data := .fields #[.int lo t, .int hi u, .int 1 v] }, toks := tk } := by
  refine wpAny_pyIter_range (IsRange.new ..) (small_one h1 h2 h3 h4) ?_
  have I1 : Inv X pins σ H { s with heap := s.heap.push { cls := .type "range", data := .fields #[.int lo t, .int hi u, .int 1 v] }, toks := tk } := I.kept fun b o e => Heap.get?_push_of_some _ e
  refine ⟨(s.heap.push { cls := .type "range", data := .fields #[.int lo t, .int hi u, .int 1 v] }).objs.size, [(s.heap.push { cls := .type "range", data := .fields #[.int lo t, .int hi u, .int 1 v] }).objs.size], _, _, H, rfl,
    I1.kept (t' := tk) fun b o e => Heap.get?_push_of_some _ e, turn_range _ lo (hi - lo).toNat, ?_, fun b hb => ?_, q⟩
  · have e1 : lo + ((0 : Nat) : Int) * 1 = lo := by simp
    have e2 : (((hi - lo).toNat : Nat) : Int) - ((0 : Nat) : Int) = Builtin.Range.rangeSize lo hi 1 := by rw [rangeSize_one]; split <;> omega
    show IsRangeIter _ _ (lo + ((0 : Nat) : Int) * 1) ((((hi - lo).toNat : Nat) : Int) - ((0 : Nat) : Int)) 1
    rw [e1, e2]
    exact Heap.get?_push_size _ rfl
  · have e : b = (s.heap.push { cls := .type "range", data := .fields #[.int lo t, .int hi u, .int 1 v] }).objs.size := by simpa using hb
    subst e
    exact I1.fpOk (Nat.le_refl _) (I1.hok.fresh (Nat.le_refl _))
noncomputable def iRng1 (ta : TA) : TI := fun σ H R => ta σ H fun vs H1 => ∃ j : Int, vs = [.int j] ∧ -(2 ^ 62) ≤ j ∧ j < 2 ^ 62 ∧ R (Itr 0 j.toNat) H1
theorem pi_range1 {a : Expr} {ta : TA} {p pos : Pos} (hg : Gl X "range") (hm : X.mg "range" = none) (ha : PA X [a] ta) (hs : starEach [a] X.env = [(false, eval a X.env)] := by rfl) : PI X tg (.Call (.Name "range" p) [a] [] pos) (iRng1 ta) := by
  intro pins s σ H R I h
  refine Call_ (ld_blt I hg hm boot_range (PyProof.Rows.callWith_type1 (thn (ha pos pins s σ H _ I h) fun us s1 ⟨vs, H1, I1, r1, q1⟩ => ?_) hs rfl))
  obtain ⟨j, e, q1, q2, q⟩ := q1
  subst e
  cases r1 with
  | cons r rr =>
    cases rr
    obtain ⟨t, rfl⟩ := r
    exact call_range_1 (range_it I1 (by omega) (by omega) q1 q2 (by simpa using q))
noncomputable def tFor (wi : TI) (g : TG) (tb : TS) : TS := fun D σ H => wi σ H fun J H1 => ∃ W : Nat → Nat → St → Hp → Prop, (∃ m, W 0 m σ H1) ∧ ∀ i m σ H, W i m σ H →
  (J.stop i H ∧ D.nx σ H) ∨ (J.go i H ∧ ∃ N : St → Hp → Prop, (∀ σ' H', N σ' H' → ∃ m', m' < m ∧ W (i + 1) m' σ' H') ∧ ∀ x H', J.yld i H x H' → g x σ H' fun σ2 H2 => tb { D with nx := N, ct := N, bk := D.nx } σ2 H2)
noncomputable def pinsAt (fp : List Addr) (h : Heap) : List (Addr × Obj) := fp.filterMap fun b => (h.get? b).map fun o => (b, o)
theorem mem_pinsAt {fp : List Addr} {h : Heap} {b : Addr} {o : Obj} (hb : b ∈ fp) (e : h.get? b = some o) : (b, o) ∈ pinsAt fp h := List.mem_filterMap.mpr ⟨b, hb, by rw [e]; rfl⟩
theorem of_pinsAt {fp : List Addr} {h : Heap} {p : Addr × Obj} (hp : p ∈ pinsAt fp h) : p.1 ∈ fp ∧ h.get? p.1 = some p.2 := by
  obtain ⟨b, hb, e⟩ := List.mem_filterMap.mp hp
  cases q : h.get? b with
  | none => rw [q] at e; cases e
  | some o =>
    rw [q] at e
    have e' : (b, o) = p := Option.some.inj e
    subst e'
    exact ⟨hb, q⟩
theorem Inv.pinned {pins : List (Addr × Obj)} {σ : St} {H : Hp} {s : Shared} {fp : List Addr} (I : Inv X pins σ H s) (hf : ∀ b ∈ fp, FpOk X pins H b) (ho : ∀ b ∈ fp, ∃ o, s.heap.get? b = some o ∧ ∀ v, o.data ≠ .cell v) : Inv X (pins ++ pinsAt fp s.heap) σ H s :=
  I.pins_of fun p hp => (List.mem_append.mp hp).elim (fun z => I.pin p (List.mem_append_right _ z)) fun z => by
    obtain ⟨hb, e⟩ := of_pinsAt z
    obtain ⟨f0, f1, f2, _⟩ := hf p.1 hb
    obtain ⟨o, e', d⟩ := ho p.1 hb
    rw [e] at e'; cases e'
    exact ⟨e, f0, f1, f2, d⟩
theorem Inv.unpinned {pins pl : List (Addr × Obj)} {σ : St} {H : Hp} {s : Shared} (I : Inv X (pins ++ pl) σ H s) : Inv X pins σ H s := I.pins_of fun p hp => I.pin p (List.mem_append_right _ (List.mem_append_left _ hp))
theorem ps_for {iter : Expr} {body : List Stmt} {wi : TI} {g : TG} {tb : TS} {pos : Pos} (hp : PassesOwn (model X.prog X.w) X.A X.env X.xe) (hc : X.calm = true) (hi : PI X tg iter wi) (hg : PG X tg g) (hb : PSs X body tb)
    (hs : ∀ x, foldedSetIterable iter X.env x = pure x := by intro _; rfl) : PS X (.For tg iter body [] pos) (tFor wi g tb) := by
  intro pins s σ H D I h
  refine wpAny_For (thn (hi pins s σ H _ I h) fun v s1 h1 => thn h1 fun itv s2 h2 => ?_) hs
  obtain ⟨it, fp, tn, J, H2, e, I2, T, st2, f2, W, ⟨m0, w0⟩, turn⟩ := h2
  subst e
  have stat : ∀ {H' : Hp}, (∀ b ∈ fp, H' b = none) → ∀ b ∈ fp, FpOk X pins H' b := fun hn b hb => ⟨hn b hb, (f2 b hb).2⟩
  refine codeAny_forLoop_any (fun n s' => ∃ i σ' H', Inv X pins σ' H' s' ∧ tn i s'.heap ∧ (∀ b ∈ fp, H' b = none) ∧ W i n σ' H') ?_ m0 ⟨0, σ, H2, I2, st2, fun b hb => (f2 b hb).1, w0⟩
  rintro n s3 ⟨i, σ3, H3, I3, st3, fr3, w3⟩
  rcases turn i n σ3 H3 w3 with ⟨stop, qn⟩ | ⟨go, N, hN, step⟩
  · refine wpAny_passesOwn hp (thn (T.done X rfl rfl rfl hc i pins s3 σ3 H3 X.xe I3 (stat fr3) st3 stop) fun r s4 ⟨hr, I4⟩ => ?_)
    subst hr
    exact wpAny_execs_nil ⟨σ3, H3, I4, qn⟩
  · refine wpAny_passesOwn hp (thn (T.item X rfl rfl rfl hc i pins s3 σ3 H3 X.xe I3 (stat fr3) st3 go) fun r s4 ⟨u, hr, h4⟩ => ?_)
    subst hr
    refine wpAny_passesOwn hp (thn h4 fun _ s5 ⟨x, H5, I5, r5, y5, st5, fr5⟩ => ?_)
    have I5' := I5.pinned (stat fr5) (T.obj _ _ st5)
    refine wpAny_passesOwn hp (thn (hg _ s5 σ3 H5 x u _ I5' r5 (step x H5 y5)) fun _ s6 ⟨σ6, H6, I6, q6⟩ => ?_)
    refine wpAny_passesOwn hp (thn (hb _ s6 σ6 H6 _ I6 q6) fun f s7 q7 => ?_)
    have again : ∀ {σ7 : St} {H7 : Hp}, Inv X (pins ++ pinsAt fp s5.heap) σ7 H7 s7 → N σ7 H7 → ∃ m, m < n ∧ ∃ i σ' H', Inv X pins σ' H' s7 ∧ tn i s7.heap ∧ (∀ b ∈ fp, H' b = none) ∧ W i m σ' H' := fun {σ7 H7} I7 n7 => by
      obtain ⟨m', hm, w7⟩ := hN σ7 H7 n7
      refine ⟨m', hm, i + 1, σ7, H7, I7.unpinned, T.keep _ _ _ st5 fun b hb o e => (I7.pin (b, o) (List.mem_append_right _ (List.mem_append_right _ (mem_pinsAt hb e)))).1, fun b hb => ?_, w7⟩
      obtain ⟨o, e, d⟩ := T.obj _ _ st5 b hb
      exact (I7.pin (b, o) (List.mem_append_right _ (List.mem_append_right _ (mem_pinsAt hb e)))).2.1
    cases f with
    | next => obtain ⟨σ7, H7, I7, n7⟩ := q7; exact again I7 n7
    | cont => obtain ⟨σ7, H7, I7, n7⟩ := q7; exact again I7 n7
    | brk => obtain ⟨σ7, H7, I7, q7⟩ := q7; exact ⟨σ7, H7, I7.unpinned, q7⟩
    | ret v => obtain ⟨x7, σ7, H7, I7, r7, q7⟩ := q7; exact ⟨x7, σ7, H7, I7.unpinned, r7, q7⟩
end
end L2
namespace L2
open PySem PySem.Spec PyProof.Rows
noncomputable abbrev R2 := V → V → Hp → VK → Prop
noncomputable def OpR (X : Cx) (f : Value → Value → Sem Value) (r : R2) : Prop :=
  ∀ (pins : List (Addr × Obj)) (s : Shared) (σ : St) (H : Hp) (x y : V) (v u : Value) (Q : VK), Inv X pins σ H s → RelV x v → RelV y u → r x y H Q →
    wpAny (model X.prog X.w) X.A (f v u) (EP X pins σ Q) X.xe s
noncomputable def UnR (X : Cx) (f : Value → Sem Value) (r : V → Hp → VK → Prop) : Prop :=
  ∀ (pins : List (Addr × Obj)) (s : Shared) (σ : St) (H : Hp) (x : V) (v : Value) (Q : VK), Inv X pins σ H s → RelV x v → r x H Q →
    wpAny (model X.prog X.w) X.A (f v) (EP X pins σ Q) X.xe s
noncomputable def CallR (X : Cx) (f : Value) (r : List V → Hp → VK → Prop) : Prop :=
  ∀ (pins : List (Addr × Obj)) (s : Shared) (σ : St) (H : Hp) (xs : List V) (us : List Value) (Q : VK), Inv X pins σ H s → Vals xs us → r xs H Q →
    wpAny (model X.prog X.w) X.A (call f us) (EP X pins σ Q) X.xe s
noncomputable def TruR (X : Cx) (r : V → Hp → (Bool → Hp → Prop) → Prop) : Prop :=
  ∀ (pins : List (Addr × Obj)) (s : Shared) (σ : St) (H : Hp) (x : V) (v : Value) (Q : Bool → Hp → Prop), Inv X pins σ H s → RelV x v → r x H Q →
    wpAny (model X.prog X.w) X.A (truthy v) (TP X pins σ Q) X.xe s
noncomputable def tOp (r : R2) (ta tb : TE) : TE := fun σ H Q => ta σ H fun x H1 => tb σ H1 fun y H2 => r x y H2 Q
noncomputable def tUn (r : V → Hp → VK → Prop) (ta : TE) : TE := fun σ H Q => ta σ H fun x H1 => r x H1 Q
noncomputable def rI (C : Int → Int → Prop) (g : Int → Int → V) : R2 := fun x y H Q => ∃ i j, x = .int i ∧ y = .int j ∧ C i j ∧ Q (g i j) H
noncomputable def rI0 (g : Int → Int → V) : R2 := fun x y H Q => ∃ i j, x = .int i ∧ y = .int j ∧ Q (g i j) H
noncomputable def rU (g : Int → V) : V → Hp → VK → Prop := fun x H Q => ∃ i, x = .int i ∧ Q (g i) H
section
variable {X : Cx} {a b c : Expr} {ta tb tc : TE} {pos : Pos}
theorem binT (ha : PE X a ta) (hb : PE X b tb) {pins : List (Addr × Obj)} {s : Shared} {σ : St} {H : Hp} {R : V → V → Hp → Prop} (I : Inv X pins σ H s)
    (h : ta σ H fun x H1 => tb σ H1 fun y H2 => R x y H2) {Q : Value → Shared → Prop} {f : Value → Value → Sem Value}
    (hf : ∀ v u s2 x y H2, Inv X pins σ H2 s2 → RelV x v → RelV y u → R x y H2 → wpAny (model X.prog X.w) X.A (f v u) Q X.xe s2) :
    wpAny (model X.prog X.w) X.A (eval a X.env) (fun v s₁ => wpAny (model X.prog X.w) X.A (eval b X.env) (fun u s₂ => wpAny (model X.prog X.w) X.A (f v u) Q X.xe s₂) X.xe s₁) X.xe s := by
  refine thn (ha pins s σ H _ I h) fun v s1 ⟨x, H1, I1, r1, q1⟩ => ?_
  refine thn (hb pins s1 σ H1 _ I1 q1) fun u s2 ⟨y, H2, I2, r2, q2⟩ => ?_
  exact hf v u s2 x y H2 I2 r1 r2 q2
theorem pe_op {op : Operator} {r : R2} (ho : OpR X (binaryOp op) r) (ha : PE X a ta) (hb : PE X b tb) : PE X (.BinOp a op b pos) (tOp r ta tb) := by
  intro pins s σ H Q I h
  exact wpAny_BinOp (binT ha hb I h fun v u s2 x y H2 I2 rx ry q => ho pins s2 σ H2 x y v u Q I2 rx ry q)
theorem pe_un {op : UnaryOp} {r : V → Hp → VK → Prop} (ho : UnR X (unaryOp op) r) (ha : PE X a ta) : PE X (.UnaryOp op a pos) (tUn r ta) := by
  intro pins s σ H Q I h
  exact UnaryOp_ (thn (ha pins s σ H _ I h) fun v s1 ⟨x, H1, I1, r1, q1⟩ => ho pins s1 σ H1 x v Q I1 r1 q1)
theorem opI {f : Value → Value → Sem Value} {C : Int → Int → Prop} {g : Int → Int → Int}
    (rule : ∀ (i j : Int) (t u : Tok) (s : Shared) (Q : Value → Shared → Prop) (E : Value → Shared → Prop), C i j → Q (.int (g i j) s.toks) { s with toks := s.toks + 1 } → wpAny (model X.prog X.w) X.A (f (.int i t) (.int j u)) Q E s) :
    OpR X f (rI C fun i j => .int (g i j)) := by
  intro pins s σ H x y v u Q I rx ry h
  obtain ⟨i, j, rfl, rfl, hc, q⟩ := h
  obtain ⟨t, rfl⟩ := rx
  obtain ⟨t', rfl⟩ := ry
  exact rule i j t t' s _ _ hc ⟨.int (g i j), H, I.tok _, ⟨_, rfl⟩, q⟩
theorem opI0 {f : Value → Value → Sem Value} {g : Int → Int → Int}
    (rule : ∀ (i j : Int) (t u : Tok) (s : Shared) (Q : Value → Shared → Prop) (E : Value → Shared → Prop), Q (.int (g i j) s.toks) { s with toks := s.toks + 1 } → wpAny (model X.prog X.w) X.A (f (.int i t) (.int j u)) Q E s) :
    OpR X f (rI0 fun i j => .int (g i j)) := by
  intro pins s σ H x y v u Q I rx ry h
  obtain ⟨i, j, rfl, rfl, q⟩ := h
  obtain ⟨t, rfl⟩ := rx
  obtain ⟨t', rfl⟩ := ry
  exact rule i j t t' s _ _ ⟨.int (g i j), H, I.tok _, ⟨_, rfl⟩, q⟩
theorem opB0 {f : Value → Value → Sem Value} {g : Int → Int → Bool}
    (rule : ∀ (i j : Int) (t u : Tok) (s : Shared) (Q : Value → Shared → Prop) (E : Value → Shared → Prop), Q (.bool (g i j)) s → wpAny (model X.prog X.w) X.A (f (.int i t) (.int j u)) Q E s) :
    OpR X f (rI0 fun i j => .bl (g i j)) := by
  intro pins s σ H x y v u Q I rx ry h
  obtain ⟨i, j, rfl, rfl, q⟩ := h
  obtain ⟨t, rfl⟩ := rx
  obtain ⟨t', rfl⟩ := ry
  exact rule i j t t' s _ _ ⟨.bl (g i j), H, I, rfl, q⟩
noncomputable def CDiv (i j : Int) : Prop := 0 < j ∧ j < 1073741824
noncomputable def CPow (i j : Int) : Prop := 0 ≤ j ∧ j ≤ 1000000 ∧ i.natAbs < 2 ^ 64
noncomputable def CMul (i j : Int) : Prop := (-(2 ^ 64) < i ∧ i < 2 ^ 64) ∨ (-(2 ^ 64) < j ∧ j < 2 ^ 64)
theorem CMul.ok {i j : Int} (h : CMul i j) : IntMulOk i j := by
  rcases h with ⟨h1, h2⟩ | ⟨h1, h2⟩
  · exact .of_left (intBits_le_64 h1 h2)
  · exact .of_right (intBits_le_64 h1 h2)
theorem op_add : OpR X (binaryOp .Add) (rI0 fun i j => .int (i + j)) := opI0 fun _ _ _ _ _ _ _ q => add_int q
theorem op_mul : OpR X (binaryOp .Mult) (rI CMul fun i j => .int (i * j)) := opI fun _ _ _ _ _ _ _ hc q => mul_int q hc.ok
theorem op_fdiv : OpR X (binaryOp .FloorDiv) (rI CDiv fun i j => .int (i / j)) := opI fun i j _ _ _ _ _ hc q => by
  have h1 : (0 : Int) < j := hc.1
  have h2 : j < 1073741824 := hc.2
  exact floordiv_int (by omega) (by rw [Int.fdiv_eq_ediv_of_nonneg i (by omega)]; exact q) (.inl (PyProof.noPylong_small (by omega)))
theorem op_mod : OpR X (binaryOp .Mod) (rI (fun _ j => 0 < j) fun i j => .int (i % j)) := opI fun i j _ _ _ _ _ hc q => by
  have h1 : (0 : Int) < j := hc
  exact mod_int' (by omega) (by rw [Int.fmod_eq_emod_of_nonneg i (by omega)]; exact q)
theorem op_pow : OpR X (binaryOp .Pow) (rI CPow fun i j => .int (i ^ j.toNat)) := opI fun _ _ _ _ _ _ _ hc q => pow_int_small hc.1 hc.2.1 hc.2.2 q
theorem unI {f : Value → Sem Value} {g : Int → Int}
    (rule : ∀ (i : Int) (t : Tok) (s : Shared) (Q : Value → Shared → Prop) (E : Value → Shared → Prop), Q (.int (g i) s.toks) { s with toks := s.toks + 1 } → wpAny (model X.prog X.w) X.A (f (.int i t)) Q E s) :
    UnR X f (rU fun i => .int (g i)) := by
  intro pins s σ H x v Q I rx h
  obtain ⟨i, rfl, q⟩ := h
  obtain ⟨t, rfl⟩ := rx
  exact rule i t s _ _ ⟨.int (g i), H, I.tok _, ⟨_, rfl⟩, q⟩
theorem un_neg : UnR X (unaryOp .USub) (rU fun i => .int (-i)) := unI fun _ _ _ _ _ q => neg_int q
end
section
variable {X : Cx} {a b c : Expr} {ta tb tc : TE} {pos : Pos}
theorem fin_bl {pins : List (Addr × Obj)} {σ : St} {H : Hp} {s : Shared} {Q : VK} {k k' : Bool} (I : Inv X pins σ H s) (q : Q (.bl k) H) (e : k = k') : EP X pins σ Q (.bool k') s := by
  subst e
  exact ⟨.bl k, H, I, rfl, q⟩
theorem op_lt : OpR X (compareOp .Lt) (rI0 fun i j => .bl (decide (i < j))) := opB0 fun _ _ _ _ _ _ _ q => lt_int q
theorem op_gt : OpR X (compareOp .Gt) (rI0 fun i j => .bl (decide (j < i))) := opB0 fun _ _ _ _ _ _ _ q => gt_int q
theorem op_in_str : OpR X (compareOp .In) (fun x y H Q => ∃ i j, x = .str i ∧ y = .str j ∧ Q (.bl (!(Builtin.Str.occurrences j i 0 j.length 1).isEmpty)) H) := by
  intro pins s σ H x y v u Q I rx ry h
  obtain ⟨i, j, rfl, rfl, q⟩ := h
  obtain ⟨t, rfl⟩ := rx
  obtain ⟨t', rfl⟩ := ry
  exact in_str (fin_bl I q rfl)
theorem op_notin_str : OpR X (compareOp .NotIn) (fun x y H Q => ∃ i j, x = .str i ∧ y = .str j ∧ Q (.bl (!(!(Builtin.Str.occurrences j i 0 j.length 1).isEmpty))) H) := by
  intro pins s σ H x y v u Q I rx ry h
  obtain ⟨i, j, rfl, rfl, q⟩ := h
  obtain ⟨t, rfl⟩ := rx
  obtain ⟨t', rfl⟩ := ry
  exact notIn_str (fin_bl I q rfl)
theorem OpR.or {f : Value → Value → Sem Value} {r r' : R2} (h : OpR X f r) (h' : OpR X f r') : OpR X f (fun x y H Q => r x y H Q ∨ r' x y H Q) := by
  intro pins s σ H x y v u Q I rx ry q
  rcases q with q | q
  · exact h pins s σ H x y v u Q I rx ry q
  · exact h' pins s σ H x y v u Q I rx ry q
theorem nomark (b : Expr) {op : CmpOp} (h : op ≠ .In := by decide) (h2 : op ≠ .NotIn := by decide) : behindInMarks op b = false := by
  have e1 : (op == CmpOp.In) = false := by cases op <;> first | rfl | exact absurd rfl h
  have e2 : (op == CmpOp.NotIn) = false := by cases op <;> first | rfl | exact absurd rfl h2
  cases b <;> simp [behindInMarks, e1, e2]
theorem pe_cmpR {op : CmpOp} {r : R2} (ho : OpR X (compareOp op) r) (ha : PE X a ta) (hb : PE X b tb) (hm : behindInMarks op b = false) : PE X (.Compare a [op] [b] pos) (tOp r ta tb) := by
  intro pins s σ H Q I h
  exact wpAny_Compare1 (binT ha hb I h fun v u s2 x y H2 I2 rx ry q => ho pins s2 σ H2 x y v u Q I2 rx ry q) hm
noncomputable def tTest (t : TE) : TT := fun σ H Q => t σ H fun x H' => ∃ k, x = .bl k ∧ Q k H'
theorem pt_cmpR {op : CmpOp} {r : R2} (ho : OpR X (compareOp op) r) (ha : PE X a ta) (hb : PE X b tb) (hm : behindInMarks op b = false) : PT X (.Compare a [op] [b] pos) (tTest (tOp r ta tb)) := by
  intro pins s σ H Q I h
  refine wpAny_isTrue_Compare1 (thn (ha pins s σ H _ I h) fun v s1 ⟨x, H1, I1, r1, q1⟩ => thn (hb pins s1 σ H1 _ I1 q1) fun u s2 ⟨y, H2, I2, r2, q2⟩ =>
    thn (ho pins s2 σ H2 x y v u _ I2 r1 r2 q2) fun c s3 ⟨z, H3, I3, r3, k, e, q3⟩ => ?_) hm
  subst e
  cases r3
  exact wpAny_truthy_bool ⟨H3, I3, q3⟩
noncomputable def TruV (K : PySem.W.Frag) (x : V) (H : Hp) (k : Bool) : Prop :=
  match x with
  | .non => k = false
  | .bl b => k = b
  | .int i => k = (i != 0)
  | .str y => y.length ≤ sizeLine ∧ k = ((y.length : Int) != 0)
  | .byt y => y.size ≤ sizeLine ∧ k = ((y.size : Int) != 0)
  | .ref p => (∃ xs, SqL K H p xs ∧ k = !xs.isEmpty) ∨ ∃ xs, SqT K H p xs ∧ k = !xs.isEmpty
  | _ => False
theorem isEmpty_of {xs : List V} {its : List Value} (r : Vals xs its) : (!its.toArray.isEmpty) = !xs.isEmpty := by
  cases r <;> simp
theorem line63 : (sizeLine : Nat) < 2 ^ 63 := by rw [sizeLine_eq]; decide
theorem tru_ok : TruR X (fun x H Q => ∃ k, TruV X.K x H k ∧ Q k H) := by
  intro pins s σ H x v Q I rx h
  obtain ⟨k, e, q⟩ := h
  have hl := line63
  have hs : sizeLine = 16777216 := sizeLine_eq
  cases x with
  | non =>
    cases rx
    have e' : k = false := e
    subst e'
    exact truthy_none ⟨H, I, q⟩
  | bl b =>
    cases rx
    have e' : k = b := e
    subst e'
    exact wpAny_truthy_bool ⟨H, I, q⟩
  | int i =>
    obtain ⟨t, rfl⟩ := rx
    have e' : k = (i != 0) := e
    subst e'
    exact PySem.P.truthy_int ⟨H, I, q⟩
  | str y =>
    obtain ⟨t, rfl⟩ := rx
    obtain ⟨hy, e'⟩ : y.length ≤ sizeLine ∧ k = ((y.length : Int) != 0) := e
    subst e'
    exact PySem.P.truthy_str (by omega) ⟨H, I.tok _, q⟩
  | byt y =>
    obtain ⟨t, rfl⟩ := rx
    obtain ⟨hy, e'⟩ : y.size ≤ sizeLine ∧ k = ((y.size : Int) != 0) := e
    subst e'
    exact PySem.W.truthy_bytes (by omega) ⟨H, I.tok _, q⟩
  | ref p =>
    cases rx
    have e' : (∃ xs, SqL X.K H p xs ∧ k = !xs.isEmpty) ∨ ∃ xs, SqT X.K H p xs ∧ k = !xs.isEmpty := e
    rcases e' with ⟨xs, hx, e'⟩ | ⟨xs, hx, e'⟩
    · subst e'
      obtain ⟨its, r, pl, hz⟩ := I.list hx
      have hlen := r.length
      exact wpAny_truthy_list pl.isList (by simp only [List.size_toArray]; omega) ⟨H, I.tok _, by rw [isEmpty_of r]; exact q⟩
    · subst e'
      obtain ⟨its, r, pl, hz⟩ := I.tuple hx
      have hlen := r.length
      exact truthy_tuple pl (by simp only [List.size_toArray]; omega) ⟨H, I.tok _, by rw [isEmpty_of r]; exact q⟩
  | _ => exact (show False from e).elim
theorem pt_truth (ha : PE X a ta) (he : ∀ whole, isTrue a X.env whole = (do let v ← whole; standAt a.pos; holding [v] (truthy v))) :
    PT X a (fun σ H Q => ta σ H fun x H' => ∃ k, TruV X.K x H' k ∧ Q k H') := by
  intro pins s σ H Q I h
  exact isTrue_plain (thn (ha pins s σ H _ I h) fun v s1 ⟨x, H1, I1, r1, q1⟩ => tru_ok pins s1 σ H1 x v Q I1 r1 q1) (he _)
theorem op_add_str : OpR X (binaryOp .Add) (fun x y H Q => ∃ i j, x = .str i ∧ y = .str j ∧ i.length + j.length ≤ sizeLine ∧ Q (.str (i ++ j)) H) := by
  intro pins s σ H x y v u Q I rx ry h
  obtain ⟨i, j, rfl, rfl, hz, q⟩ := h
  obtain ⟨t, rfl⟩ := rx
  obtain ⟨t', rfl⟩ := ry
  exact add_str (fun t' tk => ⟨.str (i ++ j), H, I.tok _, ⟨_, rfl⟩, q⟩) hz
theorem vals1 {x : V} {us : List Value} (r : Vals [x] us) : ∃ u, us = [u] ∧ RelV x u := by
  cases r with
  | cons r1 r2 => cases r2; exact ⟨_, rfl, r1⟩
theorem vals2 {x y : V} {us : List Value} (r : Vals [x, y] us) : ∃ u w', us = [u, w'] ∧ RelV x u ∧ RelV y w' := by
  cases r with
  | cons r1 r2 =>
    cases r2 with
    | cons r3 r4 => cases r4; exact ⟨_, _, rfl, r1, r3⟩
theorem call_max2 (hc : X.calm = true) : CallR X (.builtin "max") (fun xs H Q => ∃ i j, xs = [.int i, .int j] ∧ Q (.int (if j > i then j else i)) H) := by
  intro pins s σ H xs us Q I r h
  obtain ⟨i, j, rfl, q⟩ := h
  obtain ⟨u, w', rfl, ⟨t, rfl⟩, ⟨t', rfl⟩⟩ := vals2 r
  refine max_two_ints (I.ok.hd hc) fun h' tk k => ⟨_, H, I.kept k, ?_, q⟩
  by_cases hj : j > i
  · rw [if_pos hj, if_pos hj]; exact ⟨_, rfl⟩
  · rw [if_neg hj, if_neg hj]; exact ⟨_, rfl⟩
end
end L2
namespace L2
open PySem PySem.Spec PyProof.Rows
structure ObjM (h : Heap) (x dx C : Addr) (mA : Str → Option Value) : Prop where
  obj : h.get? x = some (PySem.W.instObj C dx)
  ns : h.Ns1 dx mA
  ne : dx ≠ x
theorem lookIn_ns {h : Heap} {dx : Addr} {mA : Str → Option Value} (n : h.Ns1 dx mA) : ∃ od, h.get? dx = some od ∧ ∀ name, PySem.W.lookIn name od = some (mA name) := by
  obtain ⟨o, es, ep, ho, hd, hk, _, hm⟩ := n
  refine ⟨o, ho, fun name => ?_⟩
  have e := hm name
  unfold nsFind findBy at e
  rw [← Array.find?_toList] at e
  unfold PySem.W.lookIn
  rw [hd]
  dsimp only
  split
  · rename_i y q
    rw [q] at e
    exact congrArg some e
  · rename_i q
    rw [q] at e
    have a : es.toList.any (·.refKey) = false := by
      rw [List.any_eq_false]
      intro y hy
      obtain ⟨z, t, hkey⟩ := hk y (Array.mem_toList_iff.mp hy)
      simp [DictEntry.refKey, hkey]
    have a' : ¬ es.toList.any (·.refKey) = true := by rw [a]; exact Bool.false_ne_true
    rw [if_neg a']
    exact congrArg some e
theorem ObjM.look {h : Heap} {x dx C : Addr} {mA : Str → Option Value} (I : ObjM h x dx C mA) : ∃ od, PySem.W.InstAt h x (PySem.W.instObj C dx) C (some od) ∧ ∀ name, PySem.W.lookIn name od = some (mA name) :=
  let ⟨od, ho, hl⟩ := lookIn_ns I.ns
  ⟨od, ⟨I.obj, rfl, rfl, ho⟩, hl⟩
section
variable {prog : Program} {w : World} {A : Around} {E : Value → Shared → Prop} {s : Shared} {K : PySem.W.Frag} {x dx C f : Addr} {mA : Str → Option Value} {name : Str} {v : Value}
end
section
variable {P : Program} {w : World} {H H' : Hp} {h h' : Heap} {a C dx : Addr} {fs fs' : List (Str × V)}
end
structure Cls (K : PySem.W.Frag) (C : Addr) : Prop where
  pg : PySem.W.plainGet K C Str.empty = true
  hd : PySem.W.hasDictIn K C = true
  po : PySem.W.plainOver K C = true
  sa : PySem.W.findIn K (.ref C) "__setattr__" = some (some (.builtin "object.__setattr__"))
structure Con (K : PySem.W.Frag) (C : Addr) (f : Str) (v : V) (u : Value) : Prop where
  at_ : PySem.W.findIn K (.ref C) f = some (some u)
  rel : RelV v u
  get : PySem.W.specialIn K u "__get__" = some none
  cp : PySem.W.copiedNames.contains f = false
structure Meth (K : PySem.W.Frag) (C : Addr) (m : Str) (f : Addr) : Prop where
  at_ : PySem.W.findIn K (.ref C) m = some (some (.ref f))
  fn : PySem.W.isFn K (.ref f) = true
  kp : PySem.W.keepIn K (.ref f) = true
section
variable {X : Cx} {pins : List (Addr × Obj)} {σ : St} {H : Hp} {s : Shared} {a C dx : Addr} {fs : List (Str × V)} {f : Str} {v : V} {A : Around} {E : Value → Shared → Prop}
end
section
variable {X : Cx} {o e value : Expr} {f : Str} {pos pos' tpos : Pos} {ta tv : TE}
end
section
variable {X : Cx} {pins : List (Addr × Obj)} {σ : St} {H : Hp} {s : Shared} {A : Around} {E : Value → Shared → Prop} {Q : Value → Shared → Prop} {c : Value} {b : Bool}
inductive TyOf (K : PySem.W.Frag) (H : Hp) : V → Value → Prop where
  | non : TyOf K H .non (.type "NoneType")
  | bl (x : Bool) : TyOf K H (.bl x) (.type "bool")
  | int (i : Int) : TyOf K H (.int i) (.type "int")
  | str (x : Str) : TyOf K H (.str x) (.type "str")
  | flt (x : UInt64) : TyOf K H (.flt x) (.type "float")
  | lst {a : Addr} {xs : List V} (e : H a = some (.lst xs)) : TyOf K H (.ref a) (.type "list")
  | frz {a : Addr} {o : Obj} {xs : List V} (e : H a = some (.frz o (.lst xs))) : TyOf K H (.ref a) (.type "list")
  | tup {a : Addr} {xs : List V} (e : H a = some (.tup xs)) : TyOf K H (.ref a) (.type "tuple")
end
end L2
namespace L2
open PySem PySem.Spec PyProof.Rows
structure Room (k : Nat) (A : Around) : Prop where
  hd : A.handled = none
  dp : A.depth + 3 * k + 5 < recursionLimit
  un : A.units + 16 * k + 200 < cLine
theorem Room.mono {j k : Nat} {A : Around} (r : Room k A) (h : j ≤ k) : Room j A := ⟨r.hd, by have := r.dp; omega, by have := r.un; omega⟩
theorem Room.deeper {k : Nat} {A : Around} (r : Room (k + 1) A) (env : Env) : Room k (A.deeper env) :=
  ⟨r.hd, by have := r.dp; show A.depth + 1 + 3 * k + 5 < _; omega, by have := r.un; show A.units + 3 + 16 * k + 200 < _; omega⟩
theorem Room.in1 {k : Nat} {A : Around} (r : Room (k + 1) A) : Room k A.in1 :=
  ⟨r.hd, by have := r.dp; show A.depth + 3 * k + 5 < _; omega, by have := r.un; show A.units + 1 + 16 * k + 200 < _; omega⟩
theorem make_depth {A : Around} {C : Addr} {us : List Value} {kw : List (Str × Value)} : (A.under (.builtin "type.__call__" ⟨.ref C :: us, kw⟩)).depth = A.depth + 1 := by
  first | rfl | simp [Around.under, Code.weight, Code.isCreation, Code.isGuard, Code.isCaller, Code.frames, Code.isFrame, guardIds]
theorem make_units {A : Around} {C : Addr} {us : List Value} {kw : List (Str × Value)} : (A.under (.builtin "type.__call__" ⟨.ref C :: us, kw⟩)).units = A.units + 1 := by
  first | rfl | simp [Around.under, Code.cUnits, Code.frames, Code.isFrame]
theorem Room.make {k : Nat} {A : Around} (r : Room (k + 1) A) (C : Addr) (us : List Value) (kw : List (Str × Value)) : Room k (A.under (.builtin "type.__call__" ⟨.ref C :: us, kw⟩)) :=
  ⟨r.hd, by have := r.dp; rw [make_depth]; omega, by have := r.un; rw [make_units]; omega⟩
theorem Room.depth {k : Nat} {A : Around} (r : Room k A) : A.depth < recursionLimit := by have := r.dp; omega
theorem Room.units {k : Nat} {A : Around} (r : Room k A) : A.units + 64 < cLine := by have := r.un; omega
noncomputable def tNil : TA := fun _ H Q => Q [] H
noncomputable def tCons (ta : TE) (tr : TA) : TA := fun σ H Q => ta σ H fun x H1 => tr σ H1 fun xs H2 => Q (x :: xs) H2
section
variable {X : Cx} {e : Expr} {es : List Expr} {te : TE} {t : TA} {pos : Pos}
theorem pa_nil : PA X [] tNil := fun _ _ _ _ H Q I h => Calls.spliced_nil ⟨[], H, I, .nil, h⟩
theorem pa_cons (ha : PE X e te) (hr : PA X es t) (hs : starEach (e :: es) X.env = (false, eval e X.env) :: starEach es X.env := by rfl) : PA X (e :: es) (tCons te t) := by
  intro pos pins s σ H Q I h
  rw [hs]
  show wpAny _ _ (spliced ((false, eval e X.env) :: backTo pos (starEach es X.env))) _ _ s
  refine Calls.spliced_cons (thn (ha pins s σ H _ I h) fun u s1 ⟨x, H1, I1, r1, q1⟩ => ?_)
  exact thn (hr pos pins s1 σ H1 _ I1 q1) fun us s2 ⟨xs, H2, I2, r2, q2⟩ => ⟨x :: xs, H2, I2, .cons r1 r2, q2⟩
noncomputable def tTup (t : TA) : TE := fun σ H Q => t σ H fun xs H1 => xs.length ≤ sizeLine ∧ ∀ p, H1 p = none → Q (.ref p) (upd H1 p (.tup xs))
noncomputable def tLst (t : TA) : TE := fun σ H Q => t σ H fun xs H1 => xs.length ≤ sizeLine ∧ ∀ p, H1 p = none → Q (.ref p) (upd H1 p (.lst xs))
theorem pe_tup {x1} (h : PA X es t) : PE X (.Tuple es x1 pos) (tTup t) := by
  intro pins s σ H Q I hq
  refine wpAny_Tuple_spliced (thn (h pos pins s σ H _ I hq) fun us s1 ⟨xs, H1, I1, r, z, q⟩ => ⟨by rw [← r.length]; exact z, ?_⟩)
  have hf : H1 s1.heap.objs.size = none := I1.hok.fresh (Nat.le_refl _)
  refine ⟨.ref s1.heap.objs.size, upd H1 s1.heap.objs.size (.tup xs), I1.laid (t' := s1.toks) (fun b u e => Heap.get?_push_of_some _ e) (Nat.le_refl _) ?_, rfl, q _ hf⟩
  exact ⟨z, us, r, ⟨_, Heap.get?_push_size _ rfl, rfl, _, rfl⟩⟩
theorem pe_lst (h : PA X es t) : PE X (.List es pos) (tLst t) := by
  intro pins s σ H Q I hq
  refine wpAny_List_spliced (thn (h pos pins s σ H _ I hq) fun us s1 ⟨xs, H1, I1, r, z, q⟩ => ⟨by rw [← r.length]; exact z, ?_⟩)
  have hf : H1 s1.heap.objs.size = none := I1.hok.fresh (Nat.le_refl _)
  refine ⟨.ref s1.heap.objs.size, upd H1 s1.heap.objs.size (.lst xs), I1.laid (t' := s1.toks) (fun b u e => Heap.get?_push_of_some _ e) (Nat.le_refl _) ?_, rfl, q _ hf⟩
  exact ⟨z, us, 0, r, Heap.get?_push_size _ rfl⟩
end
noncomputable abbrev Sp := List V → Hp → VK → XK → Prop
noncomputable abbrev CXT := List Env → Hp → Shared → XK → Value → Shared → Prop
structure Env0 (P : Program) (w : World) (K : PySem.W.Frag) (mg : Str → Option Value) (base : Heap) (A : Around) (outer : List Env) (s : Shared) (H : Hp) : Prop where
  frames : A.frames = some outer
  mod : Mod K mg base
  bs : ∀ b o, base.get? b = some o → s.heap.get? b = some o ∧ H b = none
  bsz : base.objs.size ≤ s.heap.objs.size
  funs : s.heap.FunFrames base outer
  frf : ∀ b ∈ frs outer, H b = none
  hok : HOk P w H s.heap
  bare : AllBare s.gens
noncomputable def CE (outer : List Env) (P : Program) (w : World) (H : Hp) (s : Shared) (Q : VK) (u : Value) (s' : Shared) : Prop :=
  ∃ v H', s'.os = s.os ∧ AllBare s'.gens ∧ Un (frs outer) [] H H' s.heap s'.heap ∧ HOk P w H' s'.heap ∧ RelV v u ∧ Q v H'
noncomputable def CR (CX : CXT) (outer : List Env) (P : Program) (w : World) (H : Hp) (s : Shared) (Q : VK) (E : XK) (r : Result) (s' : Shared) : Prop :=
  match r with
  | .ok (.ret u) => CE outer P w H s Q u s'
  | .ok _ => False
  | .error e => CX outer H s E e s'
structure FnOk (P : Program) (w : World) (K : PySem.W.Frag) (mg : Str → Option Value) (base : Heap) (CX : CXT) (k : Nat) (f : Addr) (fd : FuncData) (ps : List Str) (sp : Sp) : Prop where
  len : ∀ vs H Q E, sp vs H Q E → vs.length = ps.length
  run : ∀ (A : Around) (outer : List Env) (s : Shared) (H : Hp) (args : Args) (us : List Value) (vs : List V) (Q : VK) (E : XK), Room k A → Env0 P w K mg base A outer s H → BindsTo s fd args (ps.zip us) → Vals vs us → sp vs H Q E →
    codeAny (model P w) A (.call (.ref f) args) (CR CX outer P w H s Q E) s
theorem FnOk.imp {P : Program} {w : World} {K : PySem.W.Frag} {mg : Str → Option Value} {base : Heap} {CX : CXT} {k : Nat} {f : Addr} {fd : FuncData} {ps : List Str} {sp sp' : Sp} (F : FnOk P w K mg base CX k f fd ps sp)
    (h : ∀ vs H Q E, sp' vs H Q E → sp vs H Q E) : FnOk P w K mg base CX k f fd ps sp' :=
  ⟨fun vs H Q E q => F.len vs H Q E (h _ _ _ _ q), fun A outer s H args us vs Q E hr he hb hv hs => F.run A outer s H args us vs Q E hr he hb hv (h _ _ _ _ hs)⟩
theorem Env0.make {P : Program} {w : World} {K : PySem.W.Frag} {mg : Str → Option Value} {base : Heap} {A : Around} {outer : List Env} {s : Shared} {H : Hp} (e : Env0 P w K mg base A outer s H) (C : Addr) (us : List Value) (kw : List (Str × Value)) :
    Env0 P w K mg base (A.under (.builtin "type.__call__" ⟨.ref C :: us, kw⟩)) outer s H := ⟨by first | exact e.frames | (simpa [Around.under, Code.envs, Code.isFrame, pushEnvs] using e.frames), e.mod, e.bs, e.bsz, e.funs, e.frf, e.hok, e.bare⟩
theorem Env0.in1 {P : Program} {w : World} {K : PySem.W.Frag} {mg : Str → Option Value} {base : Heap} {A : Around} {outer : List Env} {s : Shared} {H : Hp} (e : Env0 P w K mg base A outer s H) :
    Env0 P w K mg base A.in1 outer s H := ⟨e.frames, e.mod, e.bs, e.bsz, e.funs, e.frf, e.hok, e.bare⟩
section
variable {X : Cx} {pins : List (Addr × Obj)} {σ : St} {H : Hp} {s s' : Shared}
theorem Inv.env0 (I : Inv X pins σ H s) : Env0 X.prog X.w X.K X.mg X.base X.A X.stack s H :=
  ⟨I.ok.frames, I.ok.mod, I.bs, Nat.le_trans I.ok.bsz I.sz, I.stack, I.stkFree, I.hok, I.bare⟩
theorem Inv.after {Q : VK} {u : Value} (I : Inv X pins σ H s) (h : CE X.stack X.prog X.w H s Q u s') : EP X pins σ Q u s' := by
  obtain ⟨v, H', os, bare, un, hok, r, q⟩ := h
  obtain ⟨hh, g, d, t, os'⟩ := s'
  obtain rfl : os' = s.os := os
  exact ⟨v, H', I.call (h' := hh) (g' := g) (d' := d) (t' := t) (ch := []) un hok bare (fun b z => absurd z (by simp)), r, q⟩
end
noncomputable def Binds (K : PySem.W.Frag) (fd : FuncData) (ps : List Str) (ds : List Value) : Prop :=
  ∀ (s : Shared) (us : List Value), K.In s.heap → (us ++ ds).length = ps.length → BindsTo s fd ⟨us, []⟩ (ps.zip (us ++ ds))
theorem Binds.all {K : PySem.W.Frag} {fd : FuncData} {ps : List Str} (h : ∀ us : List Value, us.length = ps.length → bindArgs fd ⟨us, []⟩ = pure (ps.zip us)) : Binds K fd ps [] := fun s us _ hl => by
  rw [List.append_nil] at hl ⊢
  exact .of_eq (h us hl)
section
variable {X : Cx} {CX : CXT} {k : Nat} {f C : Addr} {fd : FuncData} {ps : List Str} {sp : Sp} {dvs : List V} {ds : List Value} {E : XK} {x m : Str} {p pos apos : Pos} {e o : Expr} {es : List Expr} {ta : TE} {t : TA}
structure Mk (K : PySem.W.Frag) (C f : Addr) : Prop where
  makes : PySem.W.makesIn K C = true
  init : PySem.W.findIn K (.ref C) "__init__" = some (some (.ref f))
  fn : PySem.W.isFn K (.ref f) = true
  kp : PySem.W.keepIn K (.ref C) = true
end
section
variable {X : Cx} {CX : CXT} {k : Nat} {f C : Addr} {fd : FuncData} {ps ks : List Str} {sp : Sp} {E : XK} {x m : Str} {p pos apos kpos : Pos} {e o : Expr} {es : List Expr} {kws : List Keyword} {te ta : TE} {t tk : TA} {nm : Option Str}
structure KBinds (K : PySem.W.Frag) (fd : FuncData) (ps ks : List Str) (g : List Value → List Value → List Value) (gV : List V → List V → List V) : Prop where
  to : ∀ (s : Shared) (us ws : List Value), K.In s.heap → (g us ws).length = ps.length → BindsTo s fd ⟨us, ks.zip ws⟩ (ps.zip (g us ws))
  rel : ∀ {vs : List V} {us : List Value} {zs : List V} {ws : List Value}, Vals vs us → Vals zs ws → Vals (gV vs zs) (g us ws)
variable {g : List Value → List Value → List Value} {gV : List V → List V → List V}
end
structure FnScope (N P : List Str) (sc : Scope) : Prop where
  kind : sc.kind = .function
  co : sc.isCoroutine = false
  gen : sc.isGenerator = false
  nd : N.Nodup
  pre : N.take P.length = P
  par : ∀ x ∈ P, sc.names.lookup x = some .local ∨ sc.names.lookup x = some .cell
  nofree : ∀ y ∈ sc.names, y.2 ≠ .free
theorem bindL_out {kindOf : Str → Option NameKind} {x : Str} : ∀ {binds : List (Str × Value)} {m : Str → Option Value}, (∀ v, (x, v) ∉ binds) → bindL kindOf binds m x = m x
  | [], _, _ => rfl
  | (n, v) :: r, m, h => by
    unfold bindL
    rw [bindL_out fun w hw => h w (List.mem_cons_of_mem _ hw)]
    split
    · have : x ≠ n := by rintro rfl; exact h v List.mem_cons_self
      simp [this]
    · rfl
theorem bindC_out {kindOf : Str → Option NameKind} {x : Str} : ∀ {binds : List (Str × Value)} {m : Str → Option Value}, (∀ v, (x, v) ∉ binds) → bindC kindOf binds m x = m x
  | [], _, _ => rfl
  | (n, v) :: r, m, h => by
    unfold bindC
    rw [bindC_out fun w hw => h w (List.mem_cons_of_mem _ hw)]
    split
    · rfl
    · have : x ≠ n := by rintro rfl; exact h v List.mem_cons_self
      simp [this]
theorem bindL_get {kindOf : Str → Option NameKind} {x : Str} {v : Value} : ∀ {P : List Str} {vs : List Value} {i : Nat} {m : Str → Option Value}, P.Nodup → P[i]? = some x → vs[i]? = some v → kindOf x = some .local →
    bindL kindOf (P.zip vs) m x = some v
  | [], _, _, _, _, h, _, _ => by simp at h
  | _ :: _, [], _, _, _, _, h, _ => by simp at h
  | p :: P, w :: vs, 0, m, nd, h1, h2, hk => by
    simp at h1 h2; subst h1; subst h2
    show bindL kindOf ((p, w) :: P.zip vs) m p = _
    unfold bindL
    rw [bindL_out fun v hv => (List.nodup_cons.mp nd).1 (List.of_mem_zip hv).1, if_pos hk]
    simp
  | p :: P, w :: vs, i + 1, m, nd, h1, h2, hk => by
    show bindL kindOf ((p, w) :: P.zip vs) m x = _
    unfold bindL
    exact bindL_get (i := i) (List.nodup_cons.mp nd).2 (by simpa using h1) (by simpa using h2) hk
theorem bindC_get {kindOf : Str → Option NameKind} {x : Str} {v : Value} : ∀ {P : List Str} {vs : List Value} {i : Nat} {m : Str → Option Value}, P.Nodup → P[i]? = some x → vs[i]? = some v → kindOf x ≠ some .local →
    bindC kindOf (P.zip vs) m x = some v
  | [], _, _, _, _, h, _, _ => by simp at h
  | _ :: _, [], _, _, _, _, h, _ => by simp at h
  | p :: P, w :: vs, 0, m, nd, h1, h2, hk => by
    simp at h1 h2; subst h1; subst h2
    show bindC kindOf ((p, w) :: P.zip vs) m p = _
    unfold bindC
    rw [bindC_out fun v hv => (List.nodup_cons.mp nd).1 (List.of_mem_zip hv).1, if_neg hk]
    simp
  | p :: P, w :: vs, i + 1, m, nd, h1, h2, hk => by
    show bindC kindOf ((p, w) :: P.zip vs) m x = _
    unfold bindC
    exact bindC_get (i := i) (List.nodup_cons.mp nd).2 (by simpa using h1) (by simpa using h2) hk
noncomputable def start (N : List Str) (vs : List V) : St := vs.map some ++ List.replicate (N.length - vs.length) none
noncomputable def cxOf (CX : CXT) (P : Program) (w : World) (K : PySem.W.Frag) (mg : Str → Option Value) (base : Heap) (N : List Str) (qual : Str) (scope : Scope) (f : Addr) (cd : Value) (A : Around) (outer : List Env) (s : Shared) (H : Hp) (E : XK) : Cx where
  prog := P
  w := w
  K := K
  mg := mg
  base := base
  A := A.deeper (envOfC qual scope s.heap.objs.size f cd)
  N := N
  s₀ := s
  H₀ := H
  env := envOfC qual scope s.heap.objs.size f cd
  outer := outer
  stack := envOfC qual scope s.heap.objs.size f cd :: outer
  ex := []
  calm := true
  fn := fun _ => true
  pn := []
  xe := fun e s' => wpAny (model P w) (A.deeper (envOfC qual scope s.heap.objs.size f cd)) (leaving (envOfC qual scope s.heap.objs.size f cd) e) (fun _ s'' => CX outer H s E e s'') (fun e' s'' => CX outer H s E e' s'') s'
theorem cell_has {sc : Scope} {n : Nat} {x : Str} (h : sc.names.lookup x = some .cell) : ∃ c, (cellsFrom n sc.names []).lookup x = some c := by
  have q := PySem.W.cellsFrom_some sc.names n [] (.inl h)
  exact Option.isSome_iff_exists.mp q
theorem inv_start {CX : CXT} {P : Program} {w : World} {K : PySem.W.Frag} {mg : Str → Option Value} {base : Heap} {N ps : List Str} {qual : Str} {scope : Scope} {f : Addr} {cd : Value} {A : Around} {outer : List Env} {s s1 : Shared} {H : Hp} {E : XK} {us : List Value} {vs : List V}
    (S : FnScope N ps scope) (hd : A.handled = none) (e0 : Env0 P w K mg base A outer s H) (hl : vs.length = ps.length) (r : Vals vs us)
    (x : InCallC s s.heap.objs.size (bindL (envOfC qual scope s.heap.objs.size f cd).kindOf (ps.zip us) fun _ => none) (cellsFrom (s.heap.objs.size + 1) scope.names []) (bindC (envOfC qual scope s.heap.objs.size f cd).kindOf (ps.zip us) fun _ => none) s1) :
    Inv (cxOf CX P w K mg base N qual scope f cd A outer s H E) [] (start N vs) H s1 := by
  have hpl : ps.length ≤ N.length := by have := congrArg List.length S.pre; rw [List.length_take] at this; omega
  obtain ⟨h1, tk, rfl, hk⟩ := x.done
  have noA : ∀ b : Addr, b ∉ (cxOf CX P w K mg base N qual scope f cd A outer s H E).ex := fun b z => absurd (show b ∈ ([] : List Addr) from z) (by simp)
  refine ⟨⟨e0.mod, S.kind, rfl, rfl, Nat.le_refl _, fun y z c h1 h2 => ?_, fun y hy => ?_, fun y c _ h => ?_, fun _ => hd, Around.frames_deeper e0.frames, .inr ⟨rfl, rfl⟩, fun b z => absurd z (noA b), e0.bs, e0.bsz, fun b _ _ => noA b, fun b z => absurd z (noA b), e0.funs, e0.frf⟩,
    rfl, e0.bare, Un.kept hk, ⟨_, x.toInCall.ns, fun i y v h1 h2 h3 => ?_⟩, fun y c h => ⟨_, x.cell y c h⟩, e0.hok.fresh (Nat.le_refl _), fun y c h => ?_, fun p hp => absurd (show p ∈ ([] : List (Addr × Obj)) from hp) (by simp), e0.hok.kept hk, ?_⟩
  · exact name_of_addr x.apart (PySem.mem_of_lookup h1) (PySem.mem_of_lookup h2)
  · have hy : scope.names.lookup y = some .cell ∨ scope.names.lookup y = some .free := hy
    rcases hy with hy | hy
    · exact cell_has hy
    · exact absurd rfl (S.nofree _ (PySem.mem_of_lookup hy))
  · exact Nat.le_of_lt (x.above y c (PySem.mem_of_lookup h))
  · have hi : i < vs.length := by
      unfold start at h2
      by_cases hi : i < vs.length
      · exact hi
      · rw [List.getElem?_append_right (by simpa using hi)] at h2
        rw [List.getElem?_replicate] at h2
        split at h2 <;> cases h2
    have ha : vs[i]? = some v := by
      unfold start at h2
      rw [List.getElem?_append_left (by simpa using hi), List.getElem?_map] at h2
      cases e : vs[i]? with
      | none => rw [e] at h2; cases h2
      | some a => rw [e] at h2; cases h2; rfl
    obtain ⟨u, hu, rv⟩ := r.get ha
    have hp : ps[i]? = some y := by
      rw [← S.pre, List.getElem?_take_of_lt (by omega)]; exact h1
    have ndP : ps.Nodup := by rw [← S.pre]; exact S.nd.sublist (List.take_sublist _ _)
    refine ⟨u, rv, ?_⟩
    rcases S.par y (List.mem_of_getElem? hp) with k | k
    · exact .inl ⟨k, bindL_get ndP hp hu k⟩
    · obtain ⟨c, e⟩ := cell_has (n := s.heap.objs.size + 1) k
      refine .inr ⟨.inl k, c, e, ?_⟩
      have q := x.cell y c e
      rw [bindC_get ndP hp hu (by show scope.names.lookup y ≠ _; rw [k]; decide)] at q
      exact q
  · exact e0.hok.fresh (Nat.le_of_lt (x.above y c (PySem.mem_of_lookup h)))
  · unfold start
    show _ = N.length
    rw [List.length_append, List.length_map, List.length_replicate]
    omega
theorem fn_of {CX : CXT} {P : Program} {w : World} {K : PySem.W.Frag} {mg : Str → Option Value} {base : Heap} {k : Nat} {f : Addr} {name qual : Str} {params : Arguments} {body : List Stmt} {scope : Scope} {dV kV doc pm cdv ct oc : Value} {an od : Option Addr}
    {osl : Array (Option Value)} {N ps : List Str} {sp : Sp} (lk : K.lookup f = some ⟨oc, od, .func (PySem.W.fnOf name qual params body scope dV kV doc pm an cdv ct), osl⟩) (hcd : PySem.W.codeIn K cdv qual = true) (S : FnScope N ps scope)
    (len : ∀ vs H Q E, sp vs H Q E → vs.length = ps.length)
    (hbody : ∀ (A : Around) (outer : List Env) (s : Shared) (H : Hp) (vs : List V) (Q : VK) (E : XK), Room k (A.deeper (envOfC qual scope s.heap.objs.size f cdv)) → sp vs H Q E →
      ∃ t, PSs (cxOf CX P w K mg base N qual scope f cdv A outer s H E) body t ∧ t { nx := fun _ H' => Q .non H', rt := Q } (start N vs) H) :
    FnOk P w K mg base CX (k + 1) f (PySem.W.fnOf name qual params body scope dV kV doc pm an cdv ct) ps sp := by
  refine ⟨len, fun A outer s H args us vs Q E hr e0 hb r hsp => ?_⟩
  have hl := len _ _ _ _ hsp
  have KX : K.In s.heap := e0.mod.kin.keeps fun b o e => (e0.bs b o e).1
  have lim : s.heap.NoLimit := e0.mod.nolimit.keeps fun b o e => (e0.bs b o e).1
  have hkind : ∀ y ∈ ps.zip us, scope.names.lookup y.1 = some .local ∨ (scope.names.lookup y.1 = some .cell ∧ ((cellsFrom (s.heap.objs.size + 1) scope.names []).lookup y.1).isSome = true) := fun ⟨n, v⟩ hy => by
    rcases S.par n (List.of_mem_zip hy).1 with q | q
    · exact .inl q
    · exact .inr ⟨q, PySem.W.cellsFrom_some _ _ _ (.inl q)⟩
  refine codeAny_call_function hr.depth (KX _ _ lk) rfl S.co S.gen rfl (PySem.W.codeRec_of KX hcd) (hb _ _ _ _ ?_)
  refine wpAny_newFunctionEnv_cells S.kind hkind fun env he s1 x => ?_
  subst he
  refine ⟨lim.keeps x.toInCall.keep, codeAny_func ?_⟩
  obtain ⟨t, ht, hq⟩ := hbody A outer s H vs Q E (hr.deeper _) hsp
  have I : Inv (cxOf CX P w K mg base N qual scope f cdv A outer s H E) [] (start N vs) H s1 := inv_start S hr.hd e0 hl r x
  refine wpAny_mono (ht [] s1 (start N vs) H _ I hq) (fun fl s' hs => ?_) fun e s' hs => hs
  have fin : ∀ {σ' : St} {H' : Hp} {v : V} {u : Value}, Inv (cxOf CX P w K mg base N qual scope f cdv A outer s H E) [] σ' H' s' → RelV v u → Q v H' → CE outer P w H s Q u s' :=
    fun {σ' H' v u} J rv q => ⟨v, H', J.os, J.bare, J.base, J.hok, rv, q⟩
  cases fl with
  | ret u =>
    obtain ⟨v, σ', H', J, rv, q⟩ := hs
    exact fin J rv q
  | next =>
    obtain ⟨σ', H', J, q⟩ := hs
    exact fin (v := V.non) (u := Value.none) J rfl q
  | brk =>
    obtain ⟨_, _, _, q⟩ := hs
    exact False.elim q
  | cont =>
    obtain ⟨_, _, _, q⟩ := hs
    exact False.elim q
end L2
namespace L2
open PySem PySem.Spec PyProof.Rows
section
variable {X : Cx} {x : Str} {p pos : Pos} {e : Expr} {es : List Expr} {t : TA} {id T : String} {r : List V → Hp → VK → Prop}
noncomputable def tCB (r : List V → Hp → VK → Prop) (t : TA) : TE := fun σ H Q => t σ H fun vs H1 => r vs H1 Q
theorem pe_callB (hc : CallR X (.builtin id) r) (hg : Gl X x) (hm : X.mg x = none) (hv : bootBuiltins x = some (.builtin id)) (ha : PA X (e :: es) t) (hn : x ≠ "__name__" := by decide) (hdb : (x == ("__debug__" : Str)) = false := by decide)
    (he : starEach (e :: es) X.env = (false, eval e X.env) :: starEach es X.env := by rfl) (hpl : (backTo pos (starEach es X.env)).any (·.1) = false := by rfl) : PE X (.Call (.Name x p) (e :: es) [] pos) (tCB r t) := by
  intro pins s σ H Q I h
  refine wpAny_Call_Name_kw (ld_blt I hg hm hv ?_ hn hdb)
  exact PyProof.Rows.callWith_builtin1 (thn (ha pos pins s σ H _ I h) fun us s1 ⟨vs, H1, I1, r1, q1⟩ => hc pins s1 σ H1 vs us Q I1 r1 q1) he hpl
theorem pe_callTy (hc : CallR X (.type T) r) (hg : Gl X x) (hm : X.mg x = none) (hv : bootBuiltins x = some (.type T)) (ha : PA X (e :: es) t) (hn : x ≠ "__name__" := by decide) (hdb : (x == ("__debug__" : Str)) = false := by decide)
    (he : starEach (e :: es) X.env = (false, eval e X.env) :: starEach es X.env := by rfl) (hpl : (backTo pos (starEach es X.env)).any (·.1) = false := by rfl) : PE X (.Call (.Name x p) (e :: es) [] pos) (tCB r t) := by
  intro pins s σ H Q I h
  refine wpAny_Call_Name_kw (ld_blt I hg hm hv ?_ hn hdb)
  exact PyProof.Rows.callWith_type1 (thn (ha pos pins s σ H _ I h) fun us s1 ⟨vs, H1, I1, r1, q1⟩ => hc pins s1 σ H1 vs us Q I1 r1 q1) he hpl
end
end L2
namespace HT
open PySem PyProof.Rows
section
open PySem.SeqAt
open PySem.AutoSeq1 (wpAny_loadPart')
open PySem.MeetsSeq PySem.MeetsSeq2 PySem.MeetsSeq3
end
section
variable {prog : Program} {w : World} {A : Around} {E : Value → Shared → Prop} {s : Shared}
noncomputable def sIx (n d : Nat) : Option Int → Nat
  | none => d
  | some v => if v < 0 then (v + (n : Int)).toNat else min v.toNat n
theorem sIx_none (n d : Nat) : sIx n d none = d := rfl
theorem sIx_nat (n d k : Nat) : sIx n d (some (k : Int)) = min k n := by
  show (if (k : Int) < 0 then ((k : Int) + (n : Int)).toNat else min (k : Int).toNat n) = min k n
  rw [if_neg (by omega), Int.toNat_natCast]
end
end HT
namespace L2
open PySem PySem.Spec PyProof.Rows
noncomputable abbrev TO := St → Hp → (Option Int → Hp → Prop) → Prop
noncomputable def PO (X : Cx) (e : Option Expr) (t : TO) : Prop :=
  ∀ (pins : List (Addr × Obj)) (s : Shared) (σ : St) (H : Hp) (Q : Option Int → Hp → Prop), Inv X pins σ H s → t σ H Q →
    wpAny (model X.prog X.w) X.A (evalPart e X.env) (fun u s' => ∃ o H', Inv X pins σ H' s' ∧ IsPart u o ∧ Q o H') X.xe s
noncomputable def tNoPart : TO := fun _ H Q => Q none H
noncomputable def tPart (t : TE) : TO := fun σ H Q => t σ H fun x H1 => ∃ i, x = .int i ∧ Q (some i) H1
section
variable {X : Cx} {e : Expr} {te : TE} {lo hi : Option Expr} {tl th : TO} {pos p2 : Pos}
theorem po_none : PO X none tNoPart := by
  intro pins s σ H Q I h
  rw [evalPart_none]
  exact wpAny_pure ⟨none, H, I, .none, h⟩
theorem po_some (h : PE X e te) : PO X (some e) (tPart te) := by
  intro pins s σ H Q I hw
  rw [evalPart_some]
  refine thn (h pins s σ H _ I hw) fun u s1 ⟨x, H1, I1, r1, q1⟩ => ?_
  obtain ⟨i, rfl, q⟩ := q1
  obtain ⟨t, rfl⟩ := r1
  exact ⟨some i, H1, I1, .int i t, q⟩
noncomputable def SlR (X : Cx) (r : V → Option Int → Option Int → Hp → VK → Prop) : Prop :=
  ∀ (pins : List (Addr × Obj)) (s : Shared) (σ : St) (H : Hp) (x : V) (v vl vu : Value) (lo hi : Option Int) (sl : Addr) (Q : VK), Inv X pins σ H s → RelV x v → s.heap.IsSliceOf sl vl vu .none → IsPart vl lo → IsPart vu hi → r x lo hi H Q →
    ∃ T id, typeLookup (.type T) "__getitem__" = pure (some (.builtin id)) ∧ s.TypeIs v T ∧ wpAny (model X.prog X.w) X.A (getItem v (.ref sl)) (EP X pins σ Q) X.xe s
theorem SlR.or {r r' : V → Option Int → Option Int → Hp → VK → Prop} (h : SlR X r) (h' : SlR X r') : SlR X (fun x lo hi H Q => r x lo hi H Q ∨ r' x lo hi H Q) := by
  intro pins s σ H x v vl vu lo hi sl Q I rx hs pl pu q
  rcases q with q | q
  · exact h pins s σ H x v vl vu lo hi sl Q I rx hs pl pu q
  · exact h' pins s σ H x v vl vu lo hi sl Q I rx hs pl pu q
noncomputable def tSl (r : V → Option Int → Option Int → Hp → VK → Prop) (te : TE) (tl th : TO) : TE := fun σ H Q => te σ H fun x H1 => tl σ H1 fun l H2 => th σ H2 fun u H3 => r x l u H3 Q
theorem pe_slice {r : V → Option Int → Option Int → Hp → VK → Prop} (hr : SlR X r) (he : PE X e te) (hl : PO X lo tl) (hu : PO X hi th) : PE X (.Subscript e (.Slice lo hi none p2) pos) (tSl r te tl th) := by
  intro pins s σ H Q I h
  refine Subscript_ (thn (he pins s σ H _ I h) fun v s1 ⟨x, H1, I1, r1, q1⟩ => ?_)
  refine wpAny_Slice (thn (hl pins s1 σ H1 _ I1 q1) fun vl s2 ⟨l, H2, I2, pl, q2⟩ => thn (hu pins s2 σ H2 _ I2 q2) fun vu s3 ⟨u, H3, I3, pu, q3⟩ => ?_)
  rw [evalPart_none]
  refine wpAny_pure ?_
  have I4 : Inv X pins σ H3 { s3 with heap := s3.heap.push { cls := .type "slice", data := .fields #[vl, vu, .none] } } := I3.kept (t' := s3.toks) fun b ob q => Heap.get?_push_of_some _ q
  obtain ⟨T, id, hT, ht, hg⟩ := hr pins { s3 with heap := s3.heap.push { cls := .type "slice", data := .fields #[vl, vu, .none] } } σ H3 x v vl vu l u s3.heap.objs.size Q I4 r1 (Heap.IsSliceOf.new ..) pl pu q3
  show wpAny (model X.prog X.w) X.A (subscriptTail e (.Slice lo hi none p2) v (.ref s3.heap.objs.size)) (EP X pins σ Q) X.xe { s3 with heap := s3.heap.push { cls := .type "slice", data := .fields #[vl, vu, .none] } }
  exact tail_any (ops := [.ref s3.heap.objs.size, v]) ht hT hg (by with_unfolding_all rfl)
noncomputable def cutV (xs : List V) (lo hi : Option Int) : List V := (xs.drop (HT.sIx xs.length 0 lo)).take (HT.sIx xs.length xs.length hi - HT.sIx xs.length 0 lo)
theorem cutV_length (xs : List V) (lo hi : Option Int) : (cutV xs lo hi).length ≤ xs.length := by
  unfold cutV
  rw [List.length_take, List.length_drop]
  omega
end
end L2
namespace L2
open PySem PySem.Spec PyProof.Rows
noncomputable def ixN (n : Nat) (i : Int) : Option Nat := if 0 ≤ i then (if i < n then some i.toNat else none) else if -(n : Int) ≤ i then some (i + n).toNat else none
noncomputable def atI {α : Type} (xs : List α) (i : Int) : Option α := (ixN xs.length i).bind fun j => xs[j]?
theorem ixN_seq {n : Nat} {i : Int} {j : Nat} (h : ixN n i = some j) : seqIndex? i n = some j ∧ j < n ∧ -(n : Int) ≤ i ∧ i < n := by
  unfold ixN at h
  by_cases h0 : 0 ≤ i
  · rw [if_pos h0] at h
    by_cases h1 : i < n
    · rw [if_pos h1] at h
      have e : i.toNat = j := Option.some.inj h
      exact ⟨by rw [seqIndex_of h0 h1, e], by omega, by omega, h1⟩
    · rw [if_neg h1] at h; cases h
  · rw [if_neg h0] at h
    by_cases h1 : -(n : Int) ≤ i
    · rw [if_pos h1] at h
      have e : (i + n).toNat = j := Option.some.inj h
      exact ⟨by rw [seqIndex_neg (by omega) h1, e], by omega, h1, by omega⟩
    · rw [if_neg h1] at h; cases h
theorem atI_get {α : Type} {xs : List α} {i : Int} {v : α} (h : atI xs i = some v) : ∃ j, seqIndex? i xs.length = some j ∧ xs[j]? = some v ∧ j < xs.length ∧ -(xs.length : Int) ≤ i ∧ i < xs.length := by
  unfold atI at h
  cases e : ixN xs.length i with
  | none => rw [e] at h; cases h
  | some j =>
    rw [e] at h
    obtain ⟨h1, h2, h3, h4⟩ := ixN_seq e
    exact ⟨j, h1, h, h2, h3, h4⟩
theorem atI_nat {α : Type} {xs : List α} {j : Nat} {v : α} (h : xs[j]? = some v) : atI xs (j : Int) = some v := by
  have hj : j < xs.length := (List.getElem?_eq_some_iff.mp h).1
  have e : ixN xs.length (j : Int) = some j := by
    unfold ixN
    rw [if_pos (by omega), if_pos (by omega)]; simp
  unfold atI; rw [e]; exact h
noncomputable def PlainIx (b : Expr) : Prop := ∀ o i, subscripted b false o i = operate [o, i] (getItem o i)
noncomputable def IxR (X : Cx) (r : R2) : Prop :=
  ∀ (value slice : Expr) (pins : List (Addr × Obj)) (s : Shared) (σ : St) (H : Hp) (x y : V) (v u : Value) (Q : VK), Inv X pins σ H s → RelV x v → RelV y u → r x y H Q →
    subscripted slice false v u = operate [v, u] (getItem v u) → wpAny (model X.prog X.w) X.A (subscriptTail value slice v u) (EP X pins σ Q) X.xe s
noncomputable def MtR (X : Cx) (id : String) (r : V → List V → Hp → VK → Prop) : Prop :=
  ∀ (pins : List (Addr × Obj)) (s : Shared) (σ : St) (H : Hp) (x : V) (xs : List V) (v : Value) (us : List Value) (Q : VK), Inv X pins σ H s → RelV x v → Vals xs us → r x xs H Q →
    wpAny (model X.prog X.w) X.A (call (.builtin id) (v :: us)) (EP X pins σ Q) X.xe s
section
variable {X : Cx} {a b : Expr} {ta tb : TE} {pos : Pos}
theorem IxR.or {r r' : R2} (h : IxR X r) (h' : IxR X r') : IxR X (fun x y H Q => r x y H Q ∨ r' x y H Q) := by
  intro value slice pins s σ H x y v u Q I rx ry q hs
  rcases q with q | q
  · exact h value slice pins s σ H x y v u Q I rx ry q hs
  · exact h' value slice pins s σ H x y v u Q I rx ry q hs
theorem MtR.or {id : String} {r r' : V → List V → Hp → VK → Prop} (h : MtR X id r) (h' : MtR X id r') : MtR X id (fun x xs H Q => r x xs H Q ∨ r' x xs H Q) := by
  intro pins s σ H x xs v us Q I rx rs q
  rcases q with q | q
  · exact h pins s σ H x xs v us Q I rx rs q
  · exact h' pins s σ H x xs v us Q I rx rs q
theorem pe_ix {r : R2} (hr : IxR X r) (ha : PE X a ta) (hb : PE X b tb) (hs : PlainIx b) : PE X (.Subscript a b pos) (tOp r ta tb) := by
  intro pins s σ H Q I h
  exact Subscript_ (binT ha hb I h fun v u s2 x y H2 I2 rx ry q => hr a b pins s2 σ H2 x y v u Q I2 rx ry q (hs _ _))
noncomputable def rIxL (K : PySem.W.Frag) : R2 := fun x y H Q => ∃ p xs i v, x = .ref p ∧ y = .int i ∧ SqL K H p xs ∧ atI xs i = some v ∧ Q v H
noncomputable def rIxT (K : PySem.W.Frag) : R2 := fun x y H Q => ∃ p xs i v, x = .ref p ∧ y = .int i ∧ SqT K H p xs ∧ atI xs i = some v ∧ Q v H
noncomputable def rIxS : R2 := fun x y H Q => ∃ z i c, x = .str z ∧ y = .int i ∧ z.length ≤ sizeLine ∧ atI z.cps.toList i = some c ∧ Q (.str ⟨#[c]⟩) H
theorem ix_list : IxR X (rIxL X.K) := by
  intro value slice pins s σ H x y v u Q I rx ry h hs
  obtain ⟨p, xs, i, z, rfl, rfl, hq, he, q⟩ := h
  cases rx
  obtain ⟨t, rfl⟩ := ry
  obtain ⟨its, r, pl, hz⟩ := I.list hq
  obtain ⟨j, h1, h2, h3, h4, h5⟩ := atI_get he
  obtain ⟨w, ew, rw'⟩ := r.get h2
  have hl := r.length
  have hn := line63
  have fin : EP X pins σ Q w s := ⟨z, H, I, rw', q⟩
  by_cases h0 : 0 ≤ i
  · have hj : i.toNat = j := by
      rw [seqIndex_of h0 h5] at h1
      exact Option.some.inj h1
    exact item_listR pl.isList h0 (by omega) (by rw [hj]; simpa using ew) fin hs
  · have hj : (i + (its.toArray.size : Int)).toNat = j := by
      rw [seqIndex_neg (by omega) h4] at h1
      rw [List.size_toArray, ← hl]
      exact Option.some.inj h1
    exact subscriptTail_builtinR (x := w) pl.isList.typeIs slot_list_getitem.lookup
      (wpAny_getItem_list_neg (Q := fun r s' => r = w ∧ EP X pins σ Q r s') pl.isList (by omega) (by rw [List.size_toArray] <;> omega) (by omega) (by rw [hj]; simpa using ew) ⟨rfl, fin⟩) hs
theorem ix_tup : IxR X (rIxT X.K) := by
  intro value slice pins s σ H x y v u Q I rx ry h hs
  obtain ⟨p, xs, i, z, rfl, rfl, hq, he, q⟩ := h
  cases rx
  obtain ⟨t, rfl⟩ := ry
  obtain ⟨its, r, pl, hz⟩ := I.tuple hq
  obtain ⟨j, h1, h2, h3, h4, h5⟩ := atI_get he
  obtain ⟨w, ew, rw'⟩ := r.get h2
  have hl := r.length
  have hn := line63
  have fin : EP X pins σ Q w s := ⟨z, H, I, rw', q⟩
  exact subscriptTail_builtinR (x := w) pl.typeIs slot_tuple_getitem.lookup
    (getItem_tuple (j := j) (Q := fun r s' => r = w ∧ EP X pins σ Q r s') pl (by omega) (by omega) (by rw [List.size_toArray, ← hl]; exact h1) (by simpa using ew) ⟨rfl, fin⟩) hs
theorem ix_str : IxR X rIxS := by
  intro value slice pins s σ H x y v u Q I rx ry h hs
  obtain ⟨z, i, c, rfl, rfl, hz, he, q⟩ := h
  obtain ⟨t, rfl⟩ := rx
  obtain ⟨t', rfl⟩ := ry
  obtain ⟨j, h1, h2, h3, h4, h5⟩ := atI_get he
  have hl : z.cps.toList.length = z.length := by simp [Str.length]
  rw [hl] at h1 h4 h5
  have hn := line63
  exact tail_any (typeIs_str s z t) slot_str_getitem.lookup (getItem_str (c := c) (by
    have e1 : decide (i < -(2 ^ 63 : Int)) = false := decide_eq_false (by omega)
    have e2 : decide (i ≥ 2 ^ 63) = false := decide_eq_false (by omega)
    rw [e1, e2, Bool.or_false]) (by rw [h1]; simpa using h2) ⟨.str ⟨#[c]⟩, H, I.tok _, ⟨_, rfl⟩, q⟩) hs
theorem slice_bounds (lo hi : Option Int) (n : Nat) : (sliceBounds lo hi none n).1 = ((HT.sIx n 0 lo : Nat) : Int) ∧ (sliceBounds lo hi none n).2.1 = ((HT.sIx n n hi : Nat) : Int) ∧ (sliceBounds lo hi none n).2.2 = 1 := by
  refine ⟨?_, ?_, rfl⟩
  · cases lo with
    | none => simp [sliceBounds, HT.sIx]
    | some i =>
      simp only [sliceBounds, HT.sIx, Option.getD_none, show (1 : Int) > 0 by decide, if_true]
      by_cases h : i < 0
      · simp only [h, if_true] <;> omega
      · simp only [h, if_false] <;> omega
  · cases hi with
    | none => simp [sliceBounds, HT.sIx]
    | some i =>
      simp only [sliceBounds, HT.sIx, Option.getD_none, show (1 : Int) > 0 by decide, if_true]
      by_cases h : i < 0
      · simp only [h, if_true] <;> omega
      · simp only [h, if_false] <;> omega
theorem slicePick_cut (its : List Value) (lo hi : Option Int) : slicePick its.toArray lo hi none = ((its.drop (HT.sIx its.length 0 lo)).take (HT.sIx its.length its.length hi - HT.sIx its.length 0 lo)).toArray := by
  obtain ⟨h1, h2, h3⟩ := slice_bounds lo hi its.toArray.size
  unfold slicePick
  rw [h1, h2, h3]
  simp only [sliceRange_one, pick_run, List.size_toArray] <;> rfl
noncomputable def rSlL (K : PySem.W.Frag) : V → Option Int → Option Int → Hp → VK → Prop := fun x lo hi H Q => ∃ a xs, x = .ref a ∧ SqL K H a xs ∧ ∀ p, H p = none → Q (.ref p) (upd H p (.lst (cutV xs lo hi)))
theorem sl_list : SlR X (rSlL X.K) := by
  intro pins s σ H x v vl vu lo hi sl Q I rx hs pl pu h
  obtain ⟨a, xs, rfl, hx, q⟩ := h
  cases rx
  obtain ⟨its, r, ht, hz⟩ := I.list hx
  have hlen := r.length
  refine ⟨"list", _, slot_list_getitem.lookup, ht.isList.typeIs, ?_⟩
  refine wpAny_getItem_list_slice ht.isList hs pl pu .none (by simp) ?_ (by rw [List.size_toArray] <;> omega)
  rw [slicePick_cut, ← hlen]
  refine ⟨.ref s.heap.objs.size, _, I.laid (t' := s.toks) (o := .lst (cutV xs lo hi)) (fun b ob q => Heap.get?_push_of_some _ q) (Nat.le_refl _) ?_, rfl, q _ (I.hok.fresh (Nat.le_refl _))⟩
  exact ⟨Nat.le_trans (cutV_length xs lo hi) hz, _, 0, (r.drop (HT.sIx xs.length 0 lo)).take (HT.sIx xs.length xs.length hi - HT.sIx xs.length 0 lo), Heap.get?_push_size _ rfl⟩
theorem call_len_seq : CallR X (.builtin "len") (fun xs H Q => ∃ p ys, xs = [.ref p] ∧ (SqL X.K H p ys ∨ SqT X.K H p ys) ∧ Q (.int ys.length) H) := by
  intro pins s σ H xs us Q I r h
  obtain ⟨p, ys, rfl, hq, q⟩ := h
  obtain ⟨u, rfl, rx⟩ := vals1 r
  cases rx
  have hn := line63
  rcases hq with hq | hq
  · obtain ⟨its, r', pl, hz⟩ := I.list hq
    have hlen := r'.length
    exact Calls.call_len_list pl.isList (by simp only [List.size_toArray] <;> omega) ⟨.int ys.length, H, I.tok _, ⟨s.toks + 1, by rw [List.size_toArray, hlen]⟩, q⟩
  · obtain ⟨its, r', pl, hz⟩ := I.tuple hq
    have hlen := r'.length
    exact len_tuple pl (by simp only [List.size_toArray] <;> omega) ⟨.int ys.length, H, I.tok _, ⟨s.toks + 1, by rw [List.size_toArray, hlen]⟩, q⟩
theorem call_len_str : CallR X (.builtin "len") (fun xs H Q => ∃ z, xs = [.str z] ∧ z.length ≤ sizeLine ∧ Q (.int z.length) H) := by
  intro pins s σ H xs us Q I r h
  obtain ⟨z, rfl, hz, q⟩ := h
  obtain ⟨u, rfl, t, rfl⟩ := vals1 r
  have hn := line63
  exact len_str (by omega) ⟨.int z.length, H, I.tok _, ⟨_, rfl⟩, q⟩
theorem CallR.or {f : Value} {r r' : List V → Hp → VK → Prop} (h : CallR X f r) (h' : CallR X f r') : CallR X f (fun xs H Q => r xs H Q ∨ r' xs H Q) := by
  intro pins s σ H xs us Q I rs q
  rcases q with q | q
  · exact h pins s σ H xs us Q I rs q
  · exact h' pins s σ H xs us Q I rs q
theorem call_tuple_of : CallR X (.type "tuple") (fun xs H Q => ∃ p ys, xs = [.ref p] ∧ ((SqL X.K H p ys ∧ ∀ l, H l = none → Q (.ref l) (upd H l (.tup ys))) ∨ (SqT X.K H p ys ∧ Q (.ref p) H))) := by
  intro pins s σ H xs us Q I r h
  obtain ⟨p, ys, rfl, h⟩ := h
  obtain ⟨u, rfl, rx⟩ := vals1 r
  cases rx
  rcases h with ⟨hq, q⟩ | ⟨hq, q⟩
  · obtain ⟨its, r', pl, hz⟩ := I.list hq
    have hlen := r'.length
    refine call_tuple_list pl.isList (fun h' kp => ?_) (by simp only [List.size_toArray] <;> omega)
    have I1 : Inv X pins σ H { s with heap := h' } := I.kept (t' := s.toks) kp
    have I2 : Inv X pins σ (upd H h'.objs.size (.tup ys)) { s with heap := h'.push { cls := .type "tuple", data := .seq its.toArray } } :=
      I1.laid (t' := s.toks) (fun b o e => Heap.get?_push_of_some _ e) (Nat.le_refl _) (show ObjOk X.prog X.w _ _ _ (.tup ys) from ⟨hz, its, r', IsTup.new _ _⟩)
    exact ⟨.ref h'.objs.size, _, I2, rfl, q _ (I1.hok.fresh (Nat.le_refl _))⟩
  · obtain ⟨its, r', pl, hz⟩ := I.tuple hq
    exact call_tuple_same pl ⟨.ref p, H, I, rfl, q⟩
noncomputable def tyV (K : PySem.W.Frag) (T : String) (x : V) (H : Hp) : Prop := match x with
  | .str _ => T = "str"
  | .int _ => T = "int"
  | .ref p => (T = "list" ∧ ∃ xs, SqL K H p xs) ∨ (T = "tuple" ∧ ∃ o, K.lookup p = some o ∧ o.cls = .type "tuple" ∧ o.dict = none)
  | _ => False
theorem tyV_is {pins : List (Addr × Obj)} {σ : St} {H : Hp} {s : Shared} {T : String} {x : V} {v : Value} (I : Inv X pins σ H s) (r : RelV x v) (ty : tyV X.K T x H) :
    s.TypeIs v T ∧ ∀ a, v = .ref a → ∃ ob, s.heap.get? a = some ob ∧ ob.dict = none := by
  cases x with
  | str z =>
    obtain ⟨t, rfl⟩ := r
    cases (show T = "str" from ty)
    exact ⟨typeIs_str s z t, fun _ e => nomatch e⟩
  | int i =>
    obtain ⟨t, rfl⟩ := r
    cases (show T = "int" from ty)
    exact ⟨typeIs_int s i t, fun _ e => nomatch e⟩
  | ref p =>
    cases r
    rcases ty with ⟨rfl, xs, hq⟩ | ⟨rfl, o, hk, hc, hd⟩
    · obtain ⟨its, _, pl, _⟩ := I.list hq
      refine ⟨pl.isList.typeIs, fun a e => ?_⟩
      cases e
      obtain ⟨o, n, e, c, hd, _⟩ := pl
      exact ⟨o, e, hd⟩
    · refine ⟨⟨o, I.kIn p o hk, hc⟩, fun a e => ?_⟩
      cases e
      exact ⟨o, I.kIn _ o hk, hd⟩
  | _ => exact False.elim ty
noncomputable def tBM0 (K : PySem.W.Frag) (T : String) (r : V → List V → Hp → VK → Prop) (to : TE) : TE := fun σ H Q => to σ H fun x H1 => tyV K T x H1 ∧ r x [] H1 Q
noncomputable def tBM (K : PySem.W.Frag) (T : String) (r : V → List V → Hp → VK → Prop) (to : TE) (t : TA) : TE := fun σ H Q => to σ H fun x H1 => tyV K T x H1 ∧ t σ H1 fun xs H2 => r x xs H2 Q
variable {o e : Expr} {es : List Expr} {to : TE} {t : TA} {name : Str} {apos cpos : Pos} {T id : String} {r : V → List V → Hp → VK → Prop}
theorem pe_bm0 (pa : PlainAttrs T) (slot : Slot T name id) (hty : typeOf (.builtin id) = pure (.type "method_descriptor")) (hm : MtR X id r) (ho : PE X o to)
    (hbase : attributeBase o name X.env (eval o X.env) = eval o X.env := by rfl) (hline : (apos.endLine == cpos.line) = true := by rfl) : PE X (.Call (.Attribute o name apos) [] [] cpos) (tBM0 X.K T r to) := by
  intro pins s σ H Q I h
  refine wpAny_Call_method0_late hbase hline (thn (ho pins s σ H _ I h) fun v s1 ⟨x, H1, I1, r1, ty, q1⟩ => ?_)
  obtain ⟨h1, h2⟩ := tyV_is I1 r1 ty
  exact ⟨T, id, pa, slot, hty, h1, h2, Calls.callWith_builtin rfl (PySem.evalArgs_none (hm pins s1 σ H1 x [] v [] Q I1 r1 .nil q1))⟩
theorem pe_bm (pa : PlainAttrs T) (slot : Slot T name id) (hty : typeOf (.builtin id) = pure (.type "method_descriptor")) (hm : MtR X id r) (ho : PE X o to) (ha : PA X (e :: es) t)
    (hbase : attributeBase o name X.env (eval o X.env) = eval o X.env := by rfl)
    (hfew : ((backTo cpos (starEach (e :: es) X.env)).all (fun x => !x.1) && (backToKw cpos (keywordEach [] X.env)).all (fun x => x.1.isSome)
      && decide ((e :: es).length + ([] : List Keyword).length + (if ([] : List Keyword).isEmpty then 0 else 1) < 30)) = true := by rfl)
    (hline : (apos.endLine == cpos.line) = true := by rfl) (hs : starEach (e :: es) X.env = (false, eval e X.env) :: starEach es X.env := by rfl) (hplain : (backTo cpos (starEach es X.env)).any (·.1) = false := by rfl) :
    PE X (.Call (.Attribute o name apos) (e :: es) [] cpos) (tBM X.K T r to t) := by
  intro pins s σ H Q I h
  refine wpAny_Call_method_late hbase hfew hline rfl (thn (ho pins s σ H _ I h) fun v s1 ⟨x, H1, I1, r1, ty, q1⟩ => ?_)
  obtain ⟨h1, h2⟩ := tyV_is I1 r1 ty
  refine ⟨T, id, pa, slot, hty, h1, h2, ?_⟩
  have hA := ha cpos pins s1 σ H1 _ I1 q1
  rw [hs] at hA ⊢
  refine Calls.callWith_builtin (by show (false || (backTo cpos (starEach es X.env)).any (·.1)) = false; rw [hplain] <;> rfl) (Calls.evalArgs_plain ?_)
  exact thn hA fun us s2 ⟨vs, H2, I2, r2, q2⟩ => hm pins s2 σ H2 x vs v us Q I2 r1 r2 q2
end
end L2
namespace L2
open PySem PySem.Spec PyProof.Rows
noncomputable def MtM (X : Cx) (id : String) (r : V → List V → Hp → VK → Prop) : Prop :=
  ∀ (pins : List (Addr × Obj)) (s : Shared) (σ : St) (H : Hp) (x : V) (xs : List V) (v : Value) (us : List Value) (Q : VK), Inv X pins σ H s → RelV x v → Vals xs us → r x xs H Q →
    wpAny (model X.prog X.w) X.A (call (.builtin id) (v :: us)) (EP X pins σ Q) X.xe s
theorem Vals.one : ∀ {x : V} {us : List Value}, Vals [x] us → ∃ u, us = [u] ∧ RelV x u
  | _, _, .cons r .nil => ⟨_, rfl, r⟩
theorem Vals.zero : ∀ {us : List Value}, Vals [] us → us = []
  | _, .nil => rfl
theorem Vals.dropLast {xs : List V} {us : List Value} (h : Vals xs us) : Vals xs.dropLast us.dropLast := by
  induction h with
  | nil => exact .nil
  | cons r t ih =>
    cases t with
    | nil => exact .nil
    | cons q t' => exact .cons r ih
theorem Vals.eraseIdx : ∀ {xs : List V} {us : List Value} (i : Nat), Vals xs us → Vals (xs.eraseIdx i) (us.eraseIdx i)
  | _, _, _, .nil => .nil
  | _, _, 0, .cons _ t => t
  | _, _, i + 1, .cons r t => .cons r (Vals.eraseIdx i t)
theorem Vals.reverse {xs : List V} {us : List Value} (h : Vals xs us) : Vals xs.reverse us.reverse := by
  induction h with
  | nil => exact .nil
  | cons r t ih => rw [List.reverse_cons, List.reverse_cons]; exact Vals.append ih (.cons r .nil)
theorem Vals.rep {xs : List V} {us : List Value} (h : Vals xs us) : ∀ k : Nat, Vals (List.replicate k xs).flatten (List.replicate k us).flatten
  | 0 => .nil
  | k + 1 => by
    rw [List.replicate_succ, List.replicate_succ, List.flatten_cons, List.flatten_cons]
    exact Vals.append h (Vals.rep h k)
theorem erase_last {α : Type} (l : List α) : l.eraseIdx (l.length - 1) = l.dropLast := by
  induction l with
  | nil => rfl
  | cons a r ih =>
    cases r with
    | nil => rfl
    | cons b r =>
      have e : (a :: b :: r).length - 1 = ((b :: r).length - 1) + 1 := by
        have h1 : (a :: b :: r).length = r.length + 2 := rfl
        have h2 : (b :: r).length = r.length + 1 := rfl
        omega
      rw [e, List.eraseIdx_cons_succ, ih]
      all_goals rfl
section
variable {X : Cx} {pins : List (Addr × Obj)} {σ : St} {H : Hp} {s : Shared} {l b : Addr} {xs ys zs : List V}
theorem Inv.lset {its its' : List Value} {n : Nat} {f : Array Value → Array Value} {t' : Nat} (I : Inv X pins σ H s) (hH : H l = some (.lst xs))
    (e : s.heap.get? l = some { cls := .type "list", data := .seq its.toArray n }) (hf : f its.toArray = its'.toArray) (hv : Vals ys its') (hz : ys.length ≤ sizeLine) :
    Inv X pins σ (upd H l (.lst ys)) { s with heap := s.heap.update l (Obj.mapSeq f), toks := t' } := by
  have q := PySem.IsL.update e f
  rw [hf] at q
  refine I.write (x := l) (e := l) (by rw [hH]; exact trivial) (.inl rfl) (fun b' u hb hu => (Heap.get?_update_other s.heap (Obj.mapSeq f) (Ne.symm hb)).trans hu) ⟨_, q⟩ ?_
  exact ⟨hz, its', _, hv, q⟩
theorem Inv.lnew {its : List Value} {t' : Nat} (I : Inv X pins σ H s) (hv : Vals ys its) (hz : ys.length ≤ sizeLine) :
    Inv X pins σ (upd H s.heap.objs.size (.lst ys)) { s with heap := s.heap.push { cls := .type "list", data := .seq its.toArray }, toks := t' } :=
  I.laid (fun _ _ q => Heap.get?_push_of_some _ q) (Nat.le_refl _) ⟨hz, its, 0, hv, Heap.get?_push_size _ rfl⟩
theorem Inv.fresh (I : Inv X pins σ H s) : H s.heap.objs.size = none := I.hok.fresh (Nat.le_refl _)
theorem Inv.lstM (I : Inv X pins σ H s) (hH : H l = some (.lst xs)) : xs.length ≤ sizeLine ∧ ∃ (its : List Value) (n : Nat), Vals xs its ∧ xs.length = its.length ∧ s.heap.get? l = some { cls := .type "list", data := .seq its.toArray n } := by
  obtain ⟨z, its, n, r, e⟩ := I.hok l _ hH
  exact ⟨z, its, n, r, r.length, e⟩
end
section
variable {X : Cx}
noncomputable def rAppend : V → List V → Hp → VK → Prop := fun x vs H Q => ∃ l xs y, x = .ref l ∧ vs = [y] ∧ H l = some (.lst xs) ∧ xs.length < sizeLine ∧ Q .non (upd H l (.lst (xs ++ [y])))
theorem mt_append : MtM X "list.append" rAppend := by
  intro pins s σ H x vs v us Q I rx rv h
  obtain ⟨l, xs, y, rfl, rfl, hH, hz, q⟩ := h
  cases rx
  obtain ⟨u, rfl, ru⟩ := rv.one
  obtain ⟨z, its, n, r, hl, e⟩ := I.lstM hH
  refine call_meets F.slot_list_append ⟨_, e, rfl⟩ F.entry_list_append (F.args_list_append_2 _ _) (PySem.list_append l its.toArray n u (by rw [List.size_toArray]; omega)) ⟨e, ?_⟩
  refine ⟨.non, _, I.lset (its' := its ++ [u]) hH e (by simp) (r.append (.cons ru .nil)) ?_, rfl, q⟩
  rw [List.length_append, List.length_singleton]
  omega
noncomputable def rPop : V → List V → Hp → VK → Prop := fun x vs H Q => ∃ l xs y, x = .ref l ∧ vs = [] ∧ H l = some (.lst xs) ∧ xs[xs.length - 1]? = some y ∧ Q y (upd H l (.lst xs.dropLast))
theorem mt_pop : MtM X "list.pop" rPop := by
  intro pins s σ H x vs v us Q I rx rv h
  obtain ⟨l, xs, y, rfl, rfl, hH, hy, q⟩ := h
  cases rx
  have hus := rv.zero
  subst hus
  obtain ⟨z, its, n, r, hl, e⟩ := I.lstM hH
  obtain ⟨u, hu, ru⟩ := r.get hy
  have hy' : its.toArray[its.toArray.size - 1]? = some u := by
    show its.toArray[its.length - 1]? = some u
    rw [← Array.getElem?_toList, ← hl]
    exact hu
  refine call_meets F.slot_list_pop ⟨_, e, rfl⟩ F.entry_list_pop (F.args_list_pop_1 _) (MeetsSeq.list_pop_last l its.toArray n u hy' (by rw [List.size_toArray]; omega)) ⟨e, ?_⟩
  refine ⟨y, _, I.lset (its' := its.dropLast) hH e ?_ r.dropLast ?_, ru, q⟩
  · show its.toArray.eraseIdxIfInBounds (its.toArray.size - 1) = its.dropLast.toArray
    rw [List.size_toArray, List.eraseIdxIfInBounds_toArray, erase_last]
  · rw [List.length_dropLast]
    omega
noncomputable def rCat : R2 := fun x y H Q => ∃ l b xs zs, x = .ref l ∧ y = .ref b ∧ H l = some (.lst xs) ∧ H b = some (.lst zs) ∧ xs.length + zs.length ≤ sizeLine ∧ ∀ p, H p = none → Q (.ref p) (upd H p (.lst (xs ++ zs)))
theorem op_cat : OpR X (binaryOp .Add) rCat := by
  intro pins s σ H x y v u Q I rx ry h
  obtain ⟨l, b, xs, zs, rfl, rfl, hH, hB, hz, q⟩ := h
  cases rx
  cases ry
  obtain ⟨z, its, n, r, hl, e⟩ := I.lstM hH
  obtain ⟨z2, its2, n2, r2, hl2, e2⟩ := I.lstM hB
  refine PySem.P.add_list e e2 ?_ (by rw [List.size_toArray, List.size_toArray]; omega)
  have ea : its.toArray ++ its2.toArray = (its ++ its2).toArray := by simp
  rw [ea]
  exact ⟨.ref _, _, I.lnew (t' := s.toks) (r.append r2) (by rw [List.length_append]; omega), rfl, q _ I.fresh⟩
end
section
variable {prog : Program} {w : World} {A : Around} {E : Value → Shared → Prop} {s : Shared}
end
section
variable {X : Cx}
end
end L2
namespace Att
open PySem PySem.W PySem.Calls PyProof.Rows
theorem ints_of_wellAll {P : Params} {h : Heap} : ∀ (ns : List Int) (vs : List Value), WellAll P h vs (ns.map WData.int) → IntsAre vs ns := by
  intro ns
  induction ns with
  | nil =>
    intro vs w
    rw [List.map_nil] at w
    cases w
    exact .nil
  | cons n ns ih =>
    intro vs w
    rw [List.map_cons] at w
    cases w with
    | cons a b =>
      cases a
      exact .cons _ _ (ih _ b)
theorem script_of {l : OpenLaw} {n : Nat} (hn : l.most = some n) {P : Params} {h : Heap} {args : List WData} {vals : List Value}
    (hpre : l.row.toRowW.claim.pre args = true) (hwl : WellAll P h vals args) :
    ∃ a vs ns, vals = [Value.ref a] ∧ args = [WData.list (ns.map WData.int)] ∧ h.get? a = some { cls := .type "list", data := .seq vs.toArray } ∧ IntsAre vs ns ∧ ns.length ≤ n := by
  have hsh : WShape.hasAll [] args [.list .int] = true := (pre_splitW hpre).1
  have hc : l.pre.holds [] { args := args } = true := (pre_splitW hpre).2
  obtain ⟨d, r, rfl, h1, h2⟩ := hasAllW_cons hsh
  obtain rfl := hasAllW_nil h2
  obtain ⟨xs, rfl, h3⟩ := hasW_list h1
  obtain ⟨ns, rfl⟩ := items_int h3
  have hlen : ns.length ≤ n := by
    unfold OpenLaw.pre at hc
    have h4 : (WTm.not (.lt (.lit (.int (n : Int))) (.len (.arg 0)))).holds [] { args := [.list (ns.map .int)] } = true := by
      have h4 := (holds_andW hc).1
      rw [hn] at h4
      exact h4
    have h5 := condW_of h4 (w_not (w_lt w_lit (w_len_list (w_arg rfl))))
    rw [List.length_map] at h5
    refine Nat.le_of_not_lt fun q => ?_
    have q' : (n : Int) < ((ns.length : Nat) : Int) := by omega
    first
      | (rw [decide_eq_true q'] at h5; exact absurd h5 (by decide))
      | (simp at h5; omega)
  cases hwl with
  | cons w1 w2 =>
    cases w2
    cases w1 with
    | list ho hall => exact ⟨_, _, ns, rfl, rfl, ho, ints_of_wellAll ns _ hall, hlen⟩
theorem post_true (l : OpenLaw) (args : List WData) : l.row.toRowW.claim.post args (.bool true) args = true :=
  postW_of (r := l.row.toRowW) (X := (true == true))
    (show WShape.has [] (.bool true) .bool = true by first | rfl | decide | simp [WShape.has, WShape.arms, WShape.armsAll])
    (show (WTm.eq .res (.lit (.bool true))).value [] { args := args, res := some (.bool true), after := args } = some (.bool (true == true)) from w_eq_bool (w_res rfl) w_lit) rfl
theorem attach_call {l : OpenLaw} {n : Nat} {q : Program} {loose : List Str} {XP : (Str → Option Value) → Heap → Prop} {YP : World → Heap → Prop} {d : DefRec}
    (hn : l.most = some n) (hdf : d.params.defaults = [])
    (call : ∀ (w : World) (s₀ s₁ : Shared) (mg mb : Str → Option Value) (fa : Addr) (o : Obj) (pm cd doc : Value) (a : Addr) (vs : List Value) (ns : List Int),
      Ground q loose [] XP w s₀ mg mb s₁.heap → YP w s₁.heap →
      s₁.heap.get? fa = some o → o.data = .func (docDef d.name d.params d.body d.scope pm cd doc) → s₁.heap.CodeRec cd d.name → mg d.name = some (.ref fa) →
      s₁.heap.get? a = some { cls := .type "list", data := .seq vs.toArray } → IntsAre vs ns → ns.length ≤ n → s₁.gens = #[] →
      codeAny (model l.prog w) callerA (.call (.ref fa) ⟨[.ref a], []⟩) (fun r s' => r = .ok (.ret (.bool true)) ∧ OldK s₁.heap s'.heap ∧ s'.os = s₁.os ∧ AllBare s'.gens) s₁) :
    WalkO q loose XP YP l.row.toRowW d [] (fun f vs => PySem.call f vs) := by
  intro w s₀ s₁ mg mb G Y fa o pm cd doc dV kV ho hd hcd hD hmg hg args vals as hpre hlay hrd hwl hlo
  obtain rfl : dV = .none := Dflts.none hD hdf
  obtain rfl : kV = .none := Dflts.noKw hD
  obtain ⟨a, vs, ns, rfl, rfl, hobj, hints, hlen⟩ := script_of hn hpre hwl
  refine enter_call (codeAny_mono (call w s₀ s₁ mg mb fa o pm cd doc a vs ns G Y ho (fd_plain hd) hcd hmg hobj hints hlen hg) fun r s' hq => ?_)
  obtain ⟨rfl, h2, h3, h4⟩ := hq
  exact ⟨.inl ⟨.bool true, .bool true, [], rfl, fun _ => rfl, .bool true, post_true l _, fun _ => ⟨List.Pairwise.nil, fun _ hm => (nomatch hm)⟩⟩, h2, h3, h4⟩
section
variable {prog : Program} {w : World} {A : Around} {E : Value → Shared → Prop} {s : Shared} {K : Frag}
end
end Att
namespace L2
open PySem PySem.Spec PyProof.Rows
theorem vals_ints : ∀ {vs : List Value} {ns : List Int}, IntsAre vs ns → Vals (ns.map V.int) vs
  | _, _, .nil => .nil
  | _, _, .cons n t h => .cons ⟨t, rfl⟩ (vals_ints h)
noncomputable def Only (H : Hp) : Prop := ∀ b, H b = none ∨ ∃ o xs, H b = some (.frz o (.lst xs))
theorem law_call {P : Program} {w : World} {K : PySem.W.Frag} {mg mb : Str → Option Value} {CX : CXT} {k : Nat} {fa a : Addr} {fd : FuncData} {x : Str} {sp : Sp} {s₁ : Shared} {vs : List Value} {ns : List Int}
    (KX : K.In s₁.heap) (hns : s₁.heap.Ns mainGlobals mg) (hb : s₁.heap.Ns builtinsNs mb) (hbb : ∀ x : Str, x ≠ "__name__" → mb x = bootBuiltins x) (hlim : s₁.heap.NoLimit) (hg : s₁.gens = #[])
    (ha : s₁.heap.get? a = some { cls := .type "list", data := .seq vs.toArray }) (hi : IntsAre vs ns) (hl : ns.length ≤ sizeLine) (hr : Room k callerA)
    (F : ∀ base : Heap, K.In base → base.Ns mainGlobals mg → FnOk P w K mg base CX k fa fd [x] sp) (hbind : ∀ (s : Shared) (u : Value), BindsTo s fd ⟨[u], []⟩ [(x, u)])
    (hsp : ∀ H : Hp, Only H → SqL K H a (ns.map V.int) → sp [.ref a] H (fun v _ => v = .bl true) fun _ _ _ => False)
    (hCX : ∀ H e s', CX [] H s₁ (fun _ _ _ => False) e s' → False) :
    codeAny (model P w) callerA (.call (.ref fa) ⟨[.ref a], []⟩) (fun r s' => r = .ok (.ret (.bool true)) ∧ OldK s₁.heap s'.heap ∧ s'.os = s₁.os ∧ AllBare s'.gens) s₁ := by
  have rv := vals_ints hi
  have lenV := hi.length
  have core : ∀ H : Hp, Only H → SqL K H a (ns.map V.int) → HOk P w H s₁.heap → (∀ b, H b ≠ none → b = a) → (H a ≠ none → K.lookup a = none) →
      codeAny (model P w) callerA (.call (.ref fa) ⟨[.ref a], []⟩) (fun r s' => r = .ok (.ret (.bool true)) ∧ OldK s₁.heap s'.heap ∧ s'.os = s₁.os ∧ AllBare s'.gens) s₁ := by
    intro H hO hS hok hA hK
    have base_of : ∀ {b : Addr} {o : Obj}, s₁.heap.get? b = some o → H b = none → (hidT s₁.heap H).get? b = some o := fun e n => hidT_get e n
    have noA : ∀ {b : Addr} {o : Obj} {es : Array DictEntry} {ep : Nat}, s₁.heap.get? b = some o → o.data = .dict es ep → H b = none := fun {b o es ep} e d => by
      cases q : H b with
      | none => rfl
      | some u =>
        have e' : b = a := hA b (by rw [q]; simp)
        subst e'
        rw [ha] at e; cases e
        have d' : Data.seq vs.toArray _ = Data.dict es ep := d
        cases d'
    have nsK : ∀ {b : Addr} {m : Str → Option Value}, s₁.heap.Ns b m → (hidT s₁.heap H).Ns b m := fun {b m} ⟨o, es, ep, e, d, r⟩ => ⟨o, es, ep, base_of e (noA e d), d, r⟩
    have hKb : K.In (hidT s₁.heap H) := fun b o e => base_of (KX b o e) (by
      cases q : H b with
      | none => rfl
      | some u =>
        have e' : b = a := hA b (by rw [q]; simp)
        subst e'
        rw [hK (by rw [q]; simp)] at e; cases e)
    have hM : Mod K mg (hidT s₁.heap H) := ⟨hKb, nsK hns, ⟨mb, nsK hb, hbb⟩, let ⟨mc, h1, h2⟩ := hlim; ⟨mc, nsK h1, h2⟩⟩
    have e0 : Env0 P w K mg (hidT s₁.heap H) callerA [] s₁ H := ⟨rfl, hM, fun b o e => of_hidT e, Nat.le_of_eq (hidT_size _ _), trivial, fun b hb => absurd (show b ∈ ([] : List Addr) from hb) (by simp), hok, .of_eq hg⟩
    refine codeAny_mono ((F _ hKb (nsK hns)).run callerA [] s₁ H ⟨[.ref a], []⟩ [.ref a] [.ref a] _ _ hr e0 (hbind s₁ (.ref a)) (.cons rfl .nil) (hsp H hO hS)) fun r s' h => ?_
    cases r with
    | error e => exact (hCX H e s' h).elim
    | ok fl =>
      cases fl with
      | next => exact False.elim h
      | brk => exact False.elim h
      | cont => exact False.elim h
      | ret u =>
        obtain ⟨v, H', os, bare, un, hok', r', q⟩ := h
        have q' : v = .bl true := q
        subst q'
        obtain rfl : u = Value.bool true := r'
        refine ⟨rfl, OldK.of_keep fun b o e => ?_, os, bare⟩
        cases q : H b with
        | none => exact un.keep b o e q (by intro z; exact absurd (show b ∈ ([] : List Addr) from z) (by simp)) (by simp)
        | some u =>
          rcases hO b with z | ⟨ob, xs, z⟩
          · rw [q] at z; cases z
          · have z2 := un.frzs b ob _ z
            obtain ⟨e1, _⟩ := hok b _ z
            obtain ⟨e2, _⟩ := hok' b _ z2
            rw [e] at e1; cases e1
            exact e2
  cases hk : K.lookup a with
  | some o =>
    have e := KX a o hk
    rw [ha] at e
    cases e
    refine core (fun _ => none) (fun _ => .inl rfl) (.inr ⟨_, vs.toArray, _, hk, rfl, rfl, rfl, by rw [List.size_toArray, lenV]; exact hl, by simpa using rv⟩) (fun b u z => by have z' : (none : Option HO) = some u := z; cases z') (fun b z => absurd rfl z) fun z => absurd rfl z
  | none =>
    refine core (fun b => if b = a then some (.frz { cls := .type "list", data := .seq vs.toArray } (.lst (ns.map V.int))) else none) (fun b => ?_) (.inl (.inr ⟨{ cls := .type "list", data := .seq vs.toArray }, if_pos rfl⟩)) (fun b u z => ?_) (fun b z => ?_) fun _ => hk
    · by_cases hb : b = a
      · exact .inr ⟨_, _, if_pos hb⟩
      · exact .inl (if_neg hb)
    · by_cases hb : b = a
      · have z' := (if_pos hb).symm.trans z
        cases z'
        subst hb
        exact ⟨ha, by rw [List.length_map]; exact hl, vs, _, rv, ha⟩
      · have z' := (if_neg hb).symm.trans z
        cases z'
    · by_cases hb : b = a
      · exact hb
      · exact absurd (if_neg hb) z
end L2
namespace L2
open PySem PySem.Spec PyProof.Rows
noncomputable abbrev KOf {K : PySem.W.Frag} {h : Heap} (_ : K.In h) : PySem.W.Frag := K
theorem walk_of {l : PySem.W.OpenLaw} {n k : Nat} {q : Program} {loose : List Str} {XP : (Str → Option Value) → Heap → Prop} {YP : World → Heap → Prop} {d : DefRec} {K : Params → PySem.W.Frag} {CX : World → CXT} {sp : World → Sp} {x : Str}
    (hn : l.most = some n) (hn2 : n ≤ sizeLine) (hdf : d.params.defaults = []) (hr : Room k callerA)
    (hY : ∀ (w : World) (h : Heap), YP w h → (K w.params).In h)
    (F : ∀ (w : World) (mg : Str → Option Value) (fa : Addr) (h : Heap), (K w.params).In h → h.Ns mainGlobals mg → mg d.name = some (.ref fa) →
      ∃ fd : FuncData, (∀ (s : Shared) (u : Value), BindsTo s fd ⟨[u], []⟩ [(x, u)]) ∧
        ∀ base : Heap, (K w.params).In base → base.Ns mainGlobals mg → FnOk l.prog w (K w.params) mg base (CX w) k fa fd [x] (sp w))
    (hsp : ∀ (w : World) (H : Hp) (a : Addr) (ns : List Int), ns.length ≤ n → Only H → SqL (K w.params) H a (ns.map V.int) → sp w [.ref a] H (fun v _ => v = .bl true) fun _ _ _ => False)
    (hCX : ∀ (w : World) (H : Hp) (s : Shared) (e : Value) (s' : Shared), CX w [] H s (fun _ _ _ => False) e s' → False) :
    PySem.W.WalkO q loose XP YP l.row.toRowW d [] (fun f vs => PySem.call f vs) := by
  refine Att.attach_call hn hdf fun w s₀ s₁ mg mb fa o pm cd doc a vs ns G Y ho hd hcd hmg hobj hints hlen hg => ?_
  have KX := hY w _ Y
  obtain ⟨fd, hb, hF⟩ := F w mg fa _ KX G.T.g hmg
  exact law_call KX G.T.g G.T.b G.T.builtins G.T.nolimit hg hobj hints (Nat.le_trans hlen hn2) hr hF hb (fun H hO hS => hsp w H a ns hlen hO hS) fun H e s' => hCX w H s₁ e s'
end L2
namespace L2
open PySem PySem.Spec PyProof.Rows
noncomputable def defArgs (s : Stmt) : Arguments := match s with
  | .FunctionDef _ a _ _ _ _ _ _ _ _ => a
  | _ => { posonlyargs := [], args := [], vararg := none, kwonlyargs := [], kw_defaults := [], kwarg := none, defaults := [] }
noncomputable def defBody (s : Stmt) : List Stmt := match s with
  | .FunctionDef _ _ b _ _ _ _ _ _ _ => b
  | _ => []
noncomputable def defScope (s : Stmt) : Scope := match s with
  | .FunctionDef _ _ _ _ _ _ sc _ _ _ => sc
  | _ => { kind := .function, names := [], isGenerator := false, isCoroutine := false }
structure Fun (K : PySem.W.Frag) (x qual : Str) (st : Stmt) (f : Addr) (fd : FuncData) : Prop where
  ex : ∃ (oc : Value) (od : Option Addr) (kV doc pm : Value) (an : Option Addr) (cdv ct : Value) (osl : Array (Option Value)),
    fd = PySem.W.fnOf x qual (defArgs st) (defBody st) (defScope st) .none kV doc pm an cdv ct ∧ K.lookup f = some ⟨oc, od, .func fd, osl⟩ ∧ PySem.W.codeIn K cdv qual = true
  kp : PySem.W.keepIn K (.ref f) = true
section
variable {P : Program} {w : World} {K : PySem.W.Frag} {mg : Str → Option Value} {base : Heap}
theorem Fun.binds {x qual : Str} {st : Stmt} {f : Addr} {fd : FuncData} {ps : List Str} (F : Fun K x qual st f fd)
    (h : ∀ (kV doc pm : Value) (an : Option Addr) (cdv ct : Value) (us : List Value), us.length = ps.length → bindArgs (PySem.W.fnOf x qual (defArgs st) (defBody st) (defScope st) .none kV doc pm an cdv ct) ⟨us, []⟩ = pure (ps.zip us)) : Binds K fd ps [] := by
  obtain ⟨oc, od, kV, doc, pm, an, cdv, ct, osl, rfl, lk, hcd⟩ := F.ex
  exact .all (h kV doc pm an cdv ct)
theorem fun_mk {x qual : Str} {st : Stmt} {f : Addr} {oc : Value} {od an : Option Addr} {osl : Array (Option Value)} {kV doc pm cdv ct : Value} (l : K.lookup f = some ⟨oc, od, .func (PySem.W.fnOf x qual (defArgs st) (defBody st) (defScope st) .none kV doc pm an cdv ct), osl⟩)
    (c : PySem.W.codeIn K cdv qual = true) (k : PySem.W.keepIn K (.ref f) = true) : Fun K x qual st f (PySem.W.fnOf x qual (defArgs st) (defBody st) (defScope st) .none kV doc pm an cdv ct) := ⟨⟨oc, od, kV, doc, pm, an, cdv, ct, osl, rfl, l, c⟩, k⟩
end
section
variable {X : Cx}
end
noncomputable def Same (H H' : Hp) : Prop := ∀ b o, H b = some o → H' b = some o
theorem Same.free {H H' : Hp} (e : Same H H') {l : Addr} (h : H' l = Option.none) : H l = Option.none := by
  cases q : H l with
  | none => rfl
  | some o =>
    rw [e l o q] at h
    cases h
end L2
end
section
set_option Elab.async false
set_option linter.all false
set_option maxRecDepth 100000
namespace L3
open PySem PySem.Spec L2
inductive D where
  | non | bl (b : Bool) | int (i : Int) | str (x : Str) | tup (xs : List D) | con (xs : List D) | obj (n : Nat) | fn (x : Str) | exo (cls : Str) (args : List D)
inductive DO where
  | lst (xs : List D)
noncomputable abbrev DH := List DO
noncomputable abbrev DS := List (Option D)
inductive XD where
  | mk (cls : Str) (args : List D)
inductive Out (α : Type) where
  | stuck
  | ok (a : α) (G : DH)
  | exn (c : XD) (G : DH)
noncomputable abbrev M (α : Type) := DH → Out α
noncomputable def M.bind {α β : Type} (m : M α) (k : α → M β) : M β := fun G => match m G with
  | .stuck => .stuck
  | .ok a G' => k a G'
  | .exn c G' => .exn c G'
noncomputable def M.ret {α : Type} (a : α) : M α := fun G => .ok a G
noncomputable def M.stop {α : Type} : M α := fun _ => .stuck
noncomputable def SqC (K : PySem.W.Frag) (H : Hp) (a : Addr) (xs : List V) : Prop :=
  (∃ o, H a = some (.frz o (.lst xs))) ∨
    ∃ (o : Obj) (its : Array Value) (n : Nat), K.lookup a = some o ∧ o.cls = .type "list" ∧ o.dict = none ∧ o.data = .seq its n ∧ its.size ≤ sizeLine ∧ Vals xs its.toList
theorem SqC.seq {K : PySem.W.Frag} {H : Hp} {a : Addr} {xs : List V} (h : SqC K H a xs) : SqL K H a xs := by
  rcases h with ⟨o, h⟩ | h
  · exact .inl (.inr ⟨o, h⟩)
  · exact .inr h
noncomputable def excIs (a : Addr) (cv : Value) : Heap → Prop := fun h => ∃ o, h.get? a = some o ∧ o.cls = cv
mutual
noncomputable def Rep (K : PySem.W.Frag) (mg : Str → Option Value) (ρ : List Addr) (H : Hp) : D → V → Prop
  | .non, v => v = .non
  | .bl b, v => v = .bl b
  | .int i, v => v = .int i
  | .str x, v => v = .str x
  | .tup ds, v => ∃ a xs, v = .ref a ∧ SqT K H a xs ∧ Reps K mg ρ H ds xs
  | .con ds, v => ∃ a xs, v = .ref a ∧ SqC K H a xs ∧ Reps K mg ρ H ds xs
  | .obj n, v => ∃ a, v = .ref a ∧ ρ[n]? = some a
  | .fn x, v => ∃ a, v = .ref a ∧ mg x = some (.ref a)
  | .exo c _, v => ∃ a cv, v = .ref a ∧ mg c = some cv ∧ H a = some (.ext (excIs a cv))
noncomputable def Reps (K : PySem.W.Frag) (mg : Str → Option Value) (ρ : List Addr) (H : Hp) : List D → List V → Prop
  | [], vs => vs = []
  | d :: ds, vs => ∃ v r, vs = v :: r ∧ Rep K mg ρ H d v ∧ Reps K mg ρ H ds r
end
structure Fut (K : PySem.W.Frag) (H H' : Hp) (ρ ρ' : List Addr) : Prop where
  tup : ∀ a xs, SqT K H a xs → SqT K H' a xs
  con : ∀ a xs, SqC K H a xs → SqC K H' a xs
  pre : ∃ r, ρ' = ρ ++ r
  ext : ∀ a φ, H a = some (.ext φ) → H' a = some (.ext φ)
section
variable {K : PySem.W.Frag} {mg : Str → Option Value} {H H' H1 H2 : Hp} {ρ ρ' ρ1 ρ2 : List Addr}
theorem Fut.refl : Fut K H H ρ ρ := ⟨fun _ _ h => h, fun _ _ h => h, ⟨[], by simp⟩, fun _ _ h => h⟩
theorem Fut.trans (a : Fut K H H1 ρ ρ1) (b : Fut K H1 H2 ρ1 ρ2) : Fut K H H2 ρ ρ2 := by
  obtain ⟨r1, e1⟩ := a.pre
  obtain ⟨r2, e2⟩ := b.pre
  exact ⟨fun x xs h => b.tup x xs (a.tup x xs h), fun x xs h => b.con x xs (a.con x xs h), ⟨r1 ++ r2, by rw [e2, e1, List.append_assoc]⟩, fun x φ h => b.ext x φ (a.ext x φ h)⟩
theorem Fut.get (f : Fut K H H' ρ ρ') {n : Nat} {a : Addr} (h : ρ[n]? = some a) : ρ'[n]? = some a := by
  obtain ⟨r, e⟩ := f.pre
  rw [e, List.getElem?_append_left (List.getElem?_eq_some_iff.mp h).1]; exact h
mutual
theorem Rep.mono (f : Fut K H H' ρ ρ') : ∀ (d : D) (v : V), Rep K mg ρ H d v → Rep K mg ρ' H' d v
  | .non, v, h => by unfold Rep at h ⊢; exact h
  | .bl b, v, h => by unfold Rep at h ⊢; exact h
  | .int i, v, h => by unfold Rep at h ⊢; exact h
  | .str x, v, h => by unfold Rep at h ⊢; exact h
  | .tup ds, v, h => by
    unfold Rep at h ⊢
    obtain ⟨a, xs, e, s, r⟩ := h
    exact ⟨a, xs, e, f.tup _ _ s, Reps.mono f ds xs r⟩
  | .con ds, v, h => by
    unfold Rep at h ⊢
    obtain ⟨a, xs, e, s, r⟩ := h
    exact ⟨a, xs, e, f.con _ _ s, Reps.mono f ds xs r⟩
  | .obj n, v, h => by
    unfold Rep at h ⊢
    obtain ⟨a, e, r⟩ := h
    exact ⟨a, e, f.get r⟩
  | .fn x, v, h => by unfold Rep at h ⊢; exact h
  | .exo c as, v, h => by
    unfold Rep at h ⊢
    obtain ⟨a, cv, e, m, r⟩ := h
    exact ⟨a, cv, e, m, f.ext _ _ r⟩
theorem Reps.mono (f : Fut K H H' ρ ρ') : ∀ (ds : List D) (vs : List V), Reps K mg ρ H ds vs → Reps K mg ρ' H' ds vs
  | [], vs, h => by unfold Reps at h ⊢; exact h
  | d :: ds, vs, h => by
    unfold Reps at h ⊢
    obtain ⟨v, r, e, h1, h2⟩ := h
    exact ⟨v, r, e, Rep.mono f d v h1, Reps.mono f ds r h2⟩
end
theorem Reps.length : ∀ {ds : List D} {vs : List V}, Reps K mg ρ H ds vs → ds.length = vs.length
  | [], vs, h => by unfold Reps at h; subst h; rfl
  | d :: ds, vs, h => by
    unfold Reps at h
    obtain ⟨v, r, rfl, _, h2⟩ := h
    simp [Reps.length h2]
theorem Reps.nil : Reps K mg ρ H [] [] := by unfold Reps; rfl
theorem Reps.cons {d : D} {v : V} {ds : List D} {vs : List V} (h : Rep K mg ρ H d v) (t : Reps K mg ρ H ds vs) : Reps K mg ρ H (d :: ds) (v :: vs) := by
  unfold Reps; exact ⟨v, vs, rfl, h, t⟩
theorem Reps.get : ∀ {ds : List D} {vs : List V} {i : Nat} {d : D}, Reps K mg ρ H ds vs → ds[i]? = some d → ∃ v, vs[i]? = some v ∧ Rep K mg ρ H d v
  | [], vs, i, d, h, e => by simp at e
  | x :: ds, vs, 0, d, h, e => by
    unfold Reps at h
    obtain ⟨v, r, rfl, h1, _⟩ := h
    simp at e; subst e
    exact ⟨v, rfl, h1⟩
  | x :: ds, vs, i + 1, d, h, e => by
    unfold Reps at h
    obtain ⟨v, r, rfl, _, h2⟩ := h
    obtain ⟨u, e1, e2⟩ := Reps.get (i := i) (d := d) h2 (by simpa using e)
    exact ⟨u, by simpa using e1, e2⟩
theorem Reps.append : ∀ {ds es : List D} {vs us : List V}, Reps K mg ρ H ds vs → Reps K mg ρ H es us → Reps K mg ρ H (ds ++ es) (vs ++ us)
  | [], es, vs, us, h, h' => by unfold Reps at h; subst h; exact h'
  | d :: ds, es, vs, us, h, h' => by
    unfold Reps at h
    obtain ⟨v, r, rfl, h1, h2⟩ := h
    exact .cons h1 (Reps.append h2 h')
theorem Reps.take : ∀ (n : Nat) {ds : List D} {vs : List V}, Reps K mg ρ H ds vs → Reps K mg ρ H (ds.take n) (vs.take n)
  | 0, _, _, _ => by simpa using Reps.nil
  | n + 1, [], vs, h => by unfold Reps at h; subst h; simpa using Reps.nil
  | n + 1, d :: ds, vs, h => by
    unfold Reps at h
    obtain ⟨v, r, rfl, h1, h2⟩ := h
    exact .cons h1 (Reps.take n h2)
theorem Reps.drop : ∀ (n : Nat) {ds : List D} {vs : List V}, Reps K mg ρ H ds vs → Reps K mg ρ H (ds.drop n) (vs.drop n)
  | 0, _, _, h => by simpa using h
  | n + 1, [], vs, h => by unfold Reps at h; subst h; simpa using Reps.nil
  | n + 1, d :: ds, vs, h => by
    unfold Reps at h
    obtain ⟨v, r, rfl, h1, h2⟩ := h
    simpa using Reps.drop n h2
theorem Reps.ints : ∀ (ns : List Int), Reps K mg ρ H (ns.map D.int) (ns.map V.int)
  | [] => .nil
  | n :: ns => .cons (by unfold Rep; rfl) (Reps.ints ns)
end
noncomputable def ORep (K : PySem.W.Frag) (mg : Str → Option Value) (ρ : List Addr) (H : Hp) (a : Addr) : DO → Prop
  | .lst ds => ∃ xs, H a = some (.lst xs) ∧ Reps K mg ρ H ds xs
structure HAb (K : PySem.W.Frag) (mg : Str → Option Value) (H : Hp) (ρ : List Addr) (G : DH) : Prop where
  hl : ρ.length = G.length
  nd : ρ.Nodup
  ob : ∀ (n : Nat) (o : DO), G[n]? = some o → ∃ a, ρ[n]? = some a ∧ ORep K mg ρ H a o
noncomputable def SRep (K : PySem.W.Frag) (mg : Str → Option Value) (H : Hp) (ρ : List Addr) (σ : St) (τ : DS) : Prop :=
  σ.length = τ.length ∧ ∀ (i : Nat) (d : D), τ[i]? = some (some d) → ∃ v, σ[i]? = some (some v) ∧ Rep K mg ρ H d v
structure Ab (K : PySem.W.Frag) (mg : Str → Option Value) (σ : St) (H : Hp) (τ : DS) (ρ : List Addr) (G : DH) : Prop where
  st : SRep K mg H ρ σ τ
  hp : HAb K mg H ρ G
section
variable {K : PySem.W.Frag} {mg : Str → Option Value} {H H' H1 H2 : Hp} {ρ ρ' ρ1 ρ2 : List Addr} {G G' : DH} {σ : L2.St} {τ : DS}
theorem SRep.mono (f : Fut K H H' ρ ρ') (h : SRep K mg H ρ σ τ) : SRep K mg H' ρ' σ τ := ⟨h.1, fun i d e => by
  obtain ⟨v, e1, r⟩ := h.2 i d e
  exact ⟨v, e1, r.mono f⟩⟩
theorem SRep.set {i : Nat} {d : D} {v : V} (h : SRep K mg H ρ σ τ) (r : Rep K mg ρ H d v) : SRep K mg H ρ (σ.set i (some v)) (τ.set i (some d)) := by
  refine ⟨by simp [h.1], fun j e he => ?_⟩
  by_cases hj : i = j
  · subst hj
    rw [List.getElem?_set] at he
    by_cases hi : i < τ.length
    · rw [if_pos rfl, if_pos hi] at he
      cases he
      exact ⟨v, by rw [List.getElem?_set, if_pos rfl, if_pos (by rw [h.1]; exact hi)], r⟩
    · rw [if_pos rfl, if_neg hi] at he
      cases he
  · rw [List.getElem?_set_ne hj] at he
    obtain ⟨u, e1, r1⟩ := h.2 j e he
    exact ⟨u, by rw [List.getElem?_set_ne hj]; exact e1, r1⟩
theorem Ab.fut (ab : Ab K mg σ H τ ρ G) (f : Fut K H H' ρ ρ') (hp : HAb K mg H' ρ' G') : Ab K mg σ H' τ ρ' G' := ⟨ab.st.mono f, hp⟩
theorem HAb.lst {n : Nat} {ds : List D} (h : HAb K mg H ρ G) (e : G[n]? = some (.lst ds)) : ∃ a xs, ρ[n]? = some a ∧ H a = some (.lst xs) ∧ Reps K mg ρ H ds xs := by
  obtain ⟨a, e1, xs, e2, r⟩ := h.ob n _ e
  exact ⟨a, xs, e1, e2, r⟩
theorem HAb.there {n : Nat} {a : Addr} (h : HAb K mg H ρ G) (e : ρ[n]? = some a) : ∃ o, H a = some o := by
  have hn : n < G.length := by rw [← h.hl]; exact (List.getElem?_eq_some_iff.mp e).1
  obtain ⟨a', e1, r⟩ := h.ob n G[n] (List.getElem?_eq_getElem hn)
  rw [e] at e1; cases e1
  cases hg : G[n] with
  | lst xs => rw [hg] at r; obtain ⟨ys, e2, _⟩ := r; exact ⟨_, e2⟩
theorem HAb.not_mem {p : Addr} (h : HAb K mg H ρ G) (hp : H p = none) : p ∉ ρ := fun hm => by
  obtain ⟨n, hn, e⟩ := List.getElem_of_mem hm
  obtain ⟨o, q⟩ := h.there (n := n) (a := p) (by rw [List.getElem?_eq_getElem hn, e])
  rw [hp] at q; cases q
theorem ORep.mono {a : Addr} {o : DO} (f : Fut K H H' ρ ρ') (he : ∀ u, H a = some u → H' a = some u) (h : ORep K mg ρ H a o) : ORep K mg ρ' H' a o := by
  cases o with
  | lst ds =>
    obtain ⟨xs, e, r⟩ := h
    exact ⟨xs, he _ e, r.mono f⟩
theorem fut_new {p : Addr} {o : HO} (hp : H p = none) (ρ : List Addr) : Fut K H (upd H p o) ρ ρ := by
  refine ⟨fun a xs h => ?_, fun a xs h => ?_, ⟨[], by simp⟩, fun a φ h => by rw [upd_ne (ne_of_none h hp)]; exact h⟩
  · rcases h with (h | ⟨q, h⟩) | h
    · exact .inl (.inl (by rw [upd_ne (ne_of_none h hp)]; exact h))
    · exact .inl (.inr ⟨q, by rw [upd_ne (ne_of_none h hp)]; exact h⟩)
    · exact .inr h
  · rcases h with ⟨q, h⟩ | h
    · exact .inl ⟨q, by rw [upd_ne (ne_of_none h hp)]; exact h⟩
    · exact .inr h
theorem fut_set {p : Addr} {xs ys : List V} (hp : H p = some (.lst xs)) (ρ : List Addr) : Fut K H (upd H p (.lst ys)) ρ ρ := by
  refine ⟨fun a zs h => ?_, fun a zs h => ?_, ⟨[], by simp⟩, fun a φ h => by rw [upd_ne (ne_of h hp (by intro z; cases z))]; exact h⟩
  · rcases h with (h | ⟨q, h⟩) | h
    · exact .inl (.inl (by rw [upd_ne (ne_of h hp (by intro z; cases z))]; exact h))
    · exact .inl (.inr ⟨q, by rw [upd_ne (ne_of h hp (by intro z; cases z))]; exact h⟩)
    · exact .inr h
  · rcases h with ⟨q, h⟩ | h
    · exact .inl ⟨q, by rw [upd_ne (ne_of h hp (by intro z; cases z))]; exact h⟩
    · exact .inr h
theorem HAb.new {p : Addr} {o : HO} (h : HAb K mg H ρ G) (hp : H p = none) : HAb K mg (upd H p o) ρ G :=
  ⟨h.hl, h.nd, fun n ob e => by
    obtain ⟨a, e1, r⟩ := h.ob n ob e
    exact ⟨a, e1, r.mono (fut_new hp ρ) fun u q => by rw [upd_ne (ne_of_none q hp)]; exact q⟩⟩
theorem getElem?_concat_self {α : Type} (l : List α) (a : α) : (l ++ [a])[l.length]? = some a := by simp
theorem fut_more (ρ : List Addr) (p : Addr) : Fut K H H ρ (ρ ++ [p]) := ⟨fun _ _ h => h, fun _ _ h => h, ⟨[p], rfl⟩, fun _ _ h => h⟩
theorem HAb.more {p : Addr} {ds : List D} {xs : List V} (h : HAb K mg H ρ G) (hp : H p = none) (r : Reps K mg ρ H ds xs) : HAb K mg (upd H p (.lst xs)) (ρ ++ [p]) (G ++ [.lst ds]) := by
  have f : Fut K H (upd H p (.lst xs)) ρ (ρ ++ [p]) := (fut_new hp ρ).trans (fut_more ρ p)
  refine ⟨by simp [h.hl], ?_, fun n ob e => ?_⟩
  · rw [List.nodup_append]
    refine ⟨h.nd, by simp, fun a ha b hb => ?_⟩
    have e : b = p := by simpa using hb
    subst e
    rintro rfl
    exact h.not_mem hp ha
  · by_cases hn : n < G.length
    · rw [List.getElem?_append_left hn] at e
      obtain ⟨a, e1, r'⟩ := h.ob n ob e
      exact ⟨a, f.get e1, r'.mono f fun u q => by rw [upd_ne (ne_of_none q hp)]; exact q⟩
    · have hl : n < (G ++ [DO.lst ds]).length := (List.getElem?_eq_some_iff.mp e).1
      have hn' : n = G.length := by simp at hl; omega
      subst hn'
      rw [getElem?_concat_self] at e
      cases e
      refine ⟨p, by rw [← h.hl, getElem?_concat_self], xs, upd_same, r.mono f⟩
theorem HAb.put {n : Nat} {a : Addr} {ds es : List D} {xs ys : List V} (h : HAb K mg H ρ G) (hn : ρ[n]? = some a) (ha : H a = some (.lst xs)) (r : Reps K mg ρ H es ys) : HAb K mg (upd H a (.lst ys)) ρ (G.set n (.lst es)) := by
  have f : Fut K H (upd H a (.lst ys)) ρ ρ := fut_set ha ρ
  refine ⟨by simp [h.hl], h.nd, fun m ob e => ?_⟩
  by_cases hm : n = m
  · subst hm
    rw [List.getElem?_set, if_pos rfl] at e
    split at e
    · cases e
      exact ⟨a, hn, ys, upd_same, r.mono f⟩
    · cases e
  · rw [List.getElem?_set_ne hm] at e
    obtain ⟨b, e1, r'⟩ := h.ob m ob e
    have hb : b ≠ a := by
      rintro rfl
      obtain ⟨h1, e1'⟩ := List.getElem?_eq_some_iff.mp hn
      obtain ⟨h2, e2'⟩ := List.getElem?_eq_some_iff.mp e1
      exact hm ((List.getElem_inj h.nd).mp (e1'.trans e2'.symm))
    exact ⟨b, e1, r'.mono f fun u q => by rw [upd_ne hb]; exact q⟩
end
noncomputable abbrev EXK := XD → St → Hp → Prop
section
variable (K : PySem.W.Frag) (mg : Str → Option Value) (EE : EXK)
noncomputable def OkE (H : Hp) (σ : St) (τ : DS) (ρ : List Addr) : Out D → VK → Prop
  | .stuck, _ => False
  | .ok d G', Q => ∀ v H' ρ', Fut K H H' ρ ρ' → Ab K mg σ H' τ ρ' G' → Rep K mg ρ' H' d v → Q v H'
  | .exn c G', _ => ∀ H' ρ', Fut K H H' ρ ρ' → Ab K mg σ H' τ ρ' G' → EE c σ H'
noncomputable def OkT (H : Hp) (σ : St) (τ : DS) (ρ : List Addr) : Out Bool → (Bool → Hp → Prop) → Prop
  | .stuck, _ => False
  | .ok b G', Q => ∀ H' ρ', Fut K H H' ρ ρ' → Ab K mg σ H' τ ρ' G' → Q b H'
  | .exn c G', _ => ∀ H' ρ', Fut K H H' ρ ρ' → Ab K mg σ H' τ ρ' G' → EE c σ H'
noncomputable def OkA (H : Hp) (σ : St) (τ : DS) (ρ : List Addr) : Out (List D) → (List V → Hp → Prop) → Prop
  | .stuck, _ => False
  | .ok ds G', Q => ∀ vs H' ρ', Fut K H H' ρ ρ' → Ab K mg σ H' τ ρ' G' → Reps K mg ρ' H' ds vs → Q vs H'
  | .exn c G', _ => ∀ H' ρ', Fut K H H' ρ ρ' → Ab K mg σ H' τ ρ' G' → EE c σ H'
noncomputable def liftE (m : DS → M D) : TE := fun σ H Q => ∃ τ ρ G, Ab K mg σ H τ ρ G ∧ OkE K mg EE H σ τ ρ (m τ G) Q
noncomputable def liftT (m : DS → M Bool) : TT := fun σ H Q => ∃ τ ρ G, Ab K mg σ H τ ρ G ∧ OkT K mg EE H σ τ ρ (m τ G) Q
noncomputable def liftA (m : DS → M (List D)) : TA := fun σ H Q => ∃ τ ρ G, Ab K mg σ H τ ρ G ∧ OkA K mg EE H σ τ ρ (m τ G) Q
inductive Res where
  | stuck
  | nx (τ : DS) (G : DH)
  | rt (d : D) (G : DH)
  | bk (τ : DS) (G : DH)
  | ct (τ : DS) (G : DH)
  | xn (c : XD) (τ : DS) (G : DH)
noncomputable def OkS (H : Hp) (ρ : List Addr) (Dd : Ends) : Res → Prop
  | .stuck => False
  | .nx τ G => ∀ σ' H' ρ', Fut K H H' ρ ρ' → Ab K mg σ' H' τ ρ' G → Dd.nx σ' H'
  | .bk τ G => ∀ σ' H' ρ', Fut K H H' ρ ρ' → Ab K mg σ' H' τ ρ' G → Dd.bk σ' H'
  | .ct τ G => ∀ σ' H' ρ', Fut K H H' ρ ρ' → Ab K mg σ' H' τ ρ' G → Dd.ct σ' H'
  | .rt d G => ∀ v H' ρ', Fut K H H' ρ ρ' → HAb K mg H' ρ' G → Rep K mg ρ' H' d v → Dd.rt v H'
  | .xn c τ G => ∀ σ' H' ρ', Fut K H H' ρ ρ' → Ab K mg σ' H' τ ρ' G → EE c σ' H'
noncomputable abbrev MS := DS → DH → Res
noncomputable def liftS (m : MS) : TS := fun Dd σ H => ∃ τ ρ G, Ab K mg σ H τ ρ G ∧ OkS K mg EE H ρ Dd (m τ G)
end
section
variable {K : PySem.W.Frag} {mg : Str → Option Value} {EE : EXK} {H H1 : Hp} {σ : L2.St} {τ : DS} {ρ ρ1 : List Addr}
theorem OkE.fut {r : Out D} {Q : VK} (f : Fut K H H1 ρ ρ1) (h : OkE K mg EE H σ τ ρ r Q) : OkE K mg EE H1 σ τ ρ1 r Q := by
  cases r with
  | stuck => exact h
  | ok d G' => exact fun v H' ρ' f' => h v H' ρ' (f.trans f')
  | exn c G' => exact fun H' ρ' f' => h H' ρ' (f.trans f')
theorem OkT.fut {r : Out Bool} {Q : Bool → Hp → Prop} (f : Fut K H H1 ρ ρ1) (h : OkT K mg EE H σ τ ρ r Q) : OkT K mg EE H1 σ τ ρ1 r Q := by
  cases r with
  | stuck => exact h
  | ok d G' => exact fun H' ρ' f' => h H' ρ' (f.trans f')
  | exn c G' => exact fun H' ρ' f' => h H' ρ' (f.trans f')
theorem OkA.fut {r : Out (List D)} {Q : List V → Hp → Prop} (f : Fut K H H1 ρ ρ1) (h : OkA K mg EE H σ τ ρ r Q) : OkA K mg EE H1 σ τ ρ1 r Q := by
  cases r with
  | stuck => exact h
  | ok d G' => exact fun v H' ρ' f' => h v H' ρ' (f.trans f')
  | exn c G' => exact fun H' ρ' f' => h H' ρ' (f.trans f')
theorem OkS.fut {r : Res} {Dd : Ends} (f : Fut K H H1 ρ ρ1) (h : OkS K mg EE H ρ Dd r) : OkS K mg EE H1 ρ1 Dd r := by
  cases r with
  | stuck => exact h
  | nx τ G => exact fun s H' ρ' f' => h s H' ρ' (f.trans f')
  | bk τ G => exact fun s H' ρ' f' => h s H' ρ' (f.trans f')
  | ct τ G => exact fun s H' ρ' f' => h s H' ρ' (f.trans f')
  | rt d G => exact fun s H' ρ' f' => h s H' ρ' (f.trans f')
  | xn c τ G => exact fun s H' ρ' f' => h s H' ρ' (f.trans f')
theorem bindEE {m : DS → M D} {k : DS → D → M D} {Q : VK} (h : liftE K mg EE (fun τ => (m τ).bind (k τ)) σ H Q) :
    liftE K mg EE m σ H fun x H1 => ∃ τ ρ G d, Ab K mg σ H1 τ ρ G ∧ Rep K mg ρ H1 d x ∧ OkE K mg EE H1 σ τ ρ (k τ d G) Q := by
  obtain ⟨τ, ρ, G, ab, ok⟩ := h
  refine ⟨τ, ρ, G, ab, ?_⟩
  dsimp only [M.bind] at ok
  cases e : m τ G with
  | stuck => rw [e] at ok; exact ok
  | exn c G' => rw [e] at ok; exact ok
  | ok d G' => rw [e] at ok; exact fun v H' ρ' f ab' r => ⟨τ, ρ', G', d, ab', r, ok.fut f⟩
theorem bindET {m : DS → M D} {k : DS → D → M Bool} {Q : Bool → Hp → Prop} (h : liftT K mg EE (fun τ => (m τ).bind (k τ)) σ H Q) :
    liftE K mg EE m σ H fun x H1 => ∃ τ ρ G d, Ab K mg σ H1 τ ρ G ∧ Rep K mg ρ H1 d x ∧ OkT K mg EE H1 σ τ ρ (k τ d G) Q := by
  obtain ⟨τ, ρ, G, ab, ok⟩ := h
  refine ⟨τ, ρ, G, ab, ?_⟩
  dsimp only [M.bind] at ok
  cases e : m τ G with
  | stuck => rw [e] at ok; exact ok
  | exn c G' => rw [e] at ok; exact ok
  | ok d G' => rw [e] at ok; exact fun v H' ρ' f ab' r => ⟨τ, ρ', G', d, ab', r, ok.fut f⟩
theorem bindTT {m : DS → M Bool} {k : DS → Bool → M Bool} {Q : Bool → Hp → Prop} (h : liftT K mg EE (fun τ => (m τ).bind (k τ)) σ H Q) :
    liftT K mg EE m σ H fun b H1 => ∃ τ ρ G, Ab K mg σ H1 τ ρ G ∧ OkT K mg EE H1 σ τ ρ (k τ b G) Q := by
  obtain ⟨τ, ρ, G, ab, ok⟩ := h
  refine ⟨τ, ρ, G, ab, ?_⟩
  dsimp only [M.bind] at ok
  cases e : m τ G with
  | stuck => rw [e] at ok; exact ok
  | exn c G' => rw [e] at ok; exact ok
  | ok d G' => rw [e] at ok; exact fun H' ρ' f ab' => ⟨τ, ρ', G', ab', ok.fut f⟩
theorem bindEA {m : DS → M D} {k : DS → D → M (List D)} {Q : List V → Hp → Prop} (h : liftA K mg EE (fun τ => (m τ).bind (k τ)) σ H Q) :
    liftE K mg EE m σ H fun x H1 => ∃ τ ρ G d, Ab K mg σ H1 τ ρ G ∧ Rep K mg ρ H1 d x ∧ OkA K mg EE H1 σ τ ρ (k τ d G) Q := by
  obtain ⟨τ, ρ, G, ab, ok⟩ := h
  refine ⟨τ, ρ, G, ab, ?_⟩
  dsimp only [M.bind] at ok
  cases e : m τ G with
  | stuck => rw [e] at ok; exact ok
  | exn c G' => rw [e] at ok; exact ok
  | ok d G' => rw [e] at ok; exact fun v H' ρ' f ab' r => ⟨τ, ρ', G', d, ab', r, ok.fut f⟩
theorem bindAE {m : DS → M (List D)} {k : DS → List D → M D} {Q : VK} (h : liftE K mg EE (fun τ => (m τ).bind (k τ)) σ H Q) :
    liftA K mg EE m σ H fun x H1 => ∃ τ ρ G d, Ab K mg σ H1 τ ρ G ∧ Reps K mg ρ H1 d x ∧ OkE K mg EE H1 σ τ ρ (k τ d G) Q := by
  obtain ⟨τ, ρ, G, ab, ok⟩ := h
  refine ⟨τ, ρ, G, ab, ?_⟩
  dsimp only [M.bind] at ok
  cases e : m τ G with
  | stuck => rw [e] at ok; exact ok
  | exn c G' => rw [e] at ok; exact ok
  | ok d G' => rw [e] at ok; exact fun v H' ρ' f ab' r => ⟨τ, ρ', G', d, ab', r, ok.fut f⟩
noncomputable def sBind {α : Type} (m : M α) (k : α → DH → Res) (x : XD → DH → Res) : DH → Res := fun G => match m G with
  | .stuck => .stuck
  | .ok a G' => k a G'
  | .exn c G' => x c G'
theorem bindES {m : DS → M D} {k : DS → D → DH → Res} {Dd : Ends} (h : liftS K mg EE (fun τ => sBind (m τ) (k τ) fun c G => .xn c τ G) Dd σ H) :
    liftE K mg EE m σ H fun x H1 => ∃ τ ρ G d, Ab K mg σ H1 τ ρ G ∧ Rep K mg ρ H1 d x ∧ OkS K mg EE H1 ρ Dd (k τ d G) := by
  obtain ⟨τ, ρ, G, ab, ok⟩ := h
  refine ⟨τ, ρ, G, ab, ?_⟩
  dsimp only [sBind] at ok
  cases e : m τ G with
  | stuck => rw [e] at ok; exact ok
  | exn c G' => rw [e] at ok; exact fun H' ρ' f ab' => ok σ H' ρ' f ab'
  | ok d G' => rw [e] at ok; exact fun v H' ρ' f ab' r => ⟨τ, ρ', G', d, ab', r, ok.fut f⟩
theorem bindTS {m : DS → M Bool} {k : DS → Bool → DH → Res} {Dd : Ends} (h : liftS K mg EE (fun τ => sBind (m τ) (k τ) fun c G => .xn c τ G) Dd σ H) :
    liftT K mg EE m σ H fun b H1 => ∃ τ ρ G, Ab K mg σ H1 τ ρ G ∧ OkS K mg EE H1 ρ Dd (k τ b G) := by
  obtain ⟨τ, ρ, G, ab, ok⟩ := h
  refine ⟨τ, ρ, G, ab, ?_⟩
  dsimp only [sBind] at ok
  cases e : m τ G with
  | stuck => rw [e] at ok; exact ok
  | exn c G' => rw [e] at ok; exact fun H' ρ' f ab' => ok σ H' ρ' f ab'
  | ok d G' => rw [e] at ok; exact fun H' ρ' f ab' => ⟨τ, ρ', G', ab', ok.fut f⟩
end
noncomputable def QE (X : Cx) (EE : EXK) (e : Expr) (m : DS → M D) : Prop := PE X e (liftE X.K X.mg EE m)
noncomputable def QT (X : Cx) (EE : EXK) (e : Expr) (m : DS → M Bool) : Prop := PT X e (liftT X.K X.mg EE m)
noncomputable def QW (X : Cx) (EE : EXK) (e : Expr) (m : DS → M Bool) : Prop := PW X e (liftT X.K X.mg EE m)
noncomputable def QA (X : Cx) (EE : EXK) (es : List Expr) (m : DS → M (List D)) : Prop := PA X es (liftA X.K X.mg EE m)
noncomputable def QS (X : Cx) (EE : EXK) (st : Stmt) (m : MS) : Prop := PS X st (liftS X.K X.mg EE m)
noncomputable def QSs (X : Cx) (EE : EXK) (st : List Stmt) (m : MS) : Prop := PSs X st (liftS X.K X.mg EE m)
section
variable {X : Cx}
theorem PE.mono {e : Expr} {t t' : TE} (h : PE X e t) (i : ∀ σ H Q, t' σ H Q → t σ H Q) : PE X e t' := fun pins s σ H Q I q => h pins s σ H Q I (i _ _ _ q)
theorem PT.mono {e : Expr} {t t' : TT} (h : PT X e t) (i : ∀ σ H Q, t' σ H Q → t σ H Q) : PT X e t' := fun pins s σ H Q I q => h pins s σ H Q I (i _ _ _ q)
theorem PA.mono {e : List Expr} {t t' : TA} (h : PA X e t) (i : ∀ σ H Q, t' σ H Q → t σ H Q) : PA X e t' := fun pos pins s σ H Q I q => h pos pins s σ H Q I (i _ _ _ q)
theorem PS.mono {e : Stmt} {t t' : TS} (h : PS X e t) (i : ∀ D σ H, t' D σ H → t D σ H) : PS X e t' := fun pins s σ H D I q => h pins s σ H D I (i _ _ _ q)
theorem PSs.mono {e : List Stmt} {t t' : TS} (h : PSs X e t) (i : ∀ D σ H, t' D σ H → t D σ H) : PSs X e t' := fun pins s σ H D I q => h pins s σ H D I (i _ _ _ q)
end
end L3
end
section
set_option Elab.async false
set_option linter.all false
set_option maxRecDepth 100000
namespace L3
open PySem PySem.Spec L2
section
variable {X : Cx} {EE : EXK} {a b c : Expr} {ma mb mc : DS → M D} {pos : Pos}
noncomputable def eVar (i : Nat) : DS → M D := fun τ G => match τ[i]? with
  | some (some d) => .ok d G
  | _ => .stuck
noncomputable def eC (d : D) : DS → M D := fun _ => M.ret d
theorem qe_var (i : Nat) {x : Str} {pos : Pos} (hN : X.N[i]? = some x := by rfl) (hv : Vis X.env.scope x := by first | exact Or.inl rfl | exact Or.inr (Or.inl rfl) | exact Or.inr (Or.inr rfl)) (hd : (x == ("__debug__" : Str)) = false := by decide)
    (hcd : (x == ("__classdict__" : Str)) = false := by decide) : QE X EE (.Name x pos) (eVar i) := PE.mono (pe_var hN hv hd hcd) fun σ H Q ⟨τ, ρ, G, ab, ok⟩ => by
  unfold eVar at ok
  cases e : τ[i]? with
  | none => rw [e] at ok; exact ok.elim
  | some o =>
    cases o with
    | none => rw [e] at ok; exact ok.elim
    | some d =>
      rw [e] at ok
      obtain ⟨v, e1, r⟩ := ab.st.2 i d e
      exact ⟨v, e1, ok v H ρ .refl ab r⟩
theorem qe_C {d : D} {v : V} {e : Expr} (h : PE X e (tC v)) (r : ∀ ρ H, Rep X.K X.mg ρ H d v) : QE X EE e (eC d) := PE.mono h fun σ H Q ⟨τ, ρ, G, ab, ok⟩ => ok v H ρ .refl ab (r ρ H)
theorem qe_int {i : Int} {j pos} : QE X EE (.Constant (.int i) j pos) (eC (.int i)) := qe_C pe_int fun _ _ => by unfold Rep; rfl
theorem qe_bl {i : Bool} {j pos} : QE X EE (.Constant (.bool i) j pos) (eC (.bl i)) := qe_C pe_bl fun _ _ => by unfold Rep; rfl
theorem qe_non {j pos} : QE X EE (.Constant .none j pos) (eC .non) := qe_C pe_non fun _ _ => by unfold Rep; rfl
theorem qe_str {x j pos} : QE X EE (.Constant (.str x) j pos) (eC (.str x)) := qe_C pe_str fun _ _ => by unfold Rep; rfl
noncomputable def GlobD (K : PySem.W.Frag) (mg : Str → Option Value) (x : Str) (d : D) : Prop := ∃ u v, mg x = some u ∧ RelV v u ∧ ∀ ρ H, Rep K mg ρ H d v
theorem qe_glob {x : Str} {d : D} {pos : Pos} (h : GlobD X.K X.mg x d) (hg : Gl X x := by rfl) (hd : (x == ("__debug__" : Str)) = false := by decide) : QE X EE (.Name x pos) (eC d) := by
  obtain ⟨u, v, hm, r, hr⟩ := h
  exact qe_C (pe_glob hg hm r hd) hr
noncomputable def eOp (f : D → D → M D) (ma mb : DS → M D) : DS → M D := fun τ => (ma τ).bind fun x => (mb τ).bind fun y => f x y
noncomputable def OpD (X : Cx) (EE : EXK) (r : R2) (f : D → D → M D) : Prop := ∀ (σ : L2.St) (H : Hp) (τ : DS) (ρ : List Addr) (G : DH) (x y : V) (d e : D) (Q : VK),
  Ab X.K X.mg σ H τ ρ G → Rep X.K X.mg ρ H d x → Rep X.K X.mg ρ H e y → OkE X.K X.mg EE H σ τ ρ (f d e G) Q → r x y H Q
theorem op_lift {f : D → D → M D} {r : R2} (hd : OpD X EE r f) {σ : L2.St} {H : Hp} {Q : VK} (h : liftE X.K X.mg EE (eOp f ma mb) σ H Q) :
    tOp r (liftE X.K X.mg EE ma) (liftE X.K X.mg EE mb) σ H Q := by
  obtain ⟨τ, ρ, G, ab, ok⟩ := bindEE (k := fun τ x => (mb τ).bind fun y => f x y) h
  refine ⟨τ, ρ, G, ab, ?_⟩
  cases e : ma τ G with
  | stuck => rw [e] at ok; exact ok
  | exn c G' => rw [e] at ok; exact ok
  | ok d G' =>
    rw [e] at ok
    intro v H' ρ' f' ab' r'
    obtain ⟨τ2, ρ2, G2, d2, ab2, r2, ok2⟩ := ok v H' ρ' f' ab' r'
    refine ⟨τ2, ρ2, G2, ab2, ?_⟩
    dsimp only [M.bind] at ok2
    cases e2 : mb τ2 G2 with
    | stuck => rw [e2] at ok2; exact ok2
    | exn c G' => rw [e2] at ok2; exact ok2
    | ok d3 G3 =>
      rw [e2] at ok2
      exact fun v3 H3 ρ3 f3 ab3 r3 => hd σ H3 τ2 ρ3 G3 v v3 d2 d3 Q ab3 (r2.mono f3) r3 (ok2.fut f3)
theorem qe_op {op : Operator} {r : R2} {f : D → D → M D} (ho : OpR X (binaryOp op) r) (hd : OpD X EE r f) (ha : QE X EE a ma) (hb : QE X EE b mb) : QE X EE (.BinOp a op b pos) (eOp f ma mb) :=
  PE.mono (pe_op ho ha hb) fun _ _ _ h => op_lift hd h
theorem qe_cmp {op : CmpOp} {r : R2} {f : D → D → M D} (ho : OpR X (compareOp op) r) (hd : OpD X EE r f) (ha : QE X EE a ma) (hb : QE X EE b mb) (hm : behindInMarks op b = false) : QE X EE (.Compare a [op] [b] pos) (eOp f ma mb) :=
  PE.mono (pe_cmpR ho ha hb hm) fun _ _ _ h => op_lift hd h
theorem qe_ix {r : R2} {f : D → D → M D} (ho : IxR X r) (hd : OpD X EE r f) (ha : QE X EE a ma) (hb : QE X EE b mb) (hs : PlainIx b := by intro _ _; rfl) : QE X EE (.Subscript a b pos) (eOp f ma mb) :=
  PE.mono (pe_ix ho ha hb hs) fun _ _ _ h => op_lift hd h
theorem OpD.or {r r' : R2} {f : D → D → M D} (h : ∀ (σ : L2.St) (H : Hp) (τ : DS) (ρ : List Addr) (G : DH) (x y : V) (d e : D) (Q : VK),
  Ab X.K X.mg σ H τ ρ G → Rep X.K X.mg ρ H d x → Rep X.K X.mg ρ H e y → OkE X.K X.mg EE H σ τ ρ (f d e G) Q → r x y H Q ∨ r' x y H Q) : OpD X EE (fun x y H Q => r x y H Q ∨ r' x y H Q) f := h
noncomputable def dInt2 (C : Int → Int → Bool) (g : Int → Int → D) : D → D → M D
  | .int i, .int j => if C i j then M.ret (g i j) else M.stop
  | _, _ => M.stop
theorem int2_of {C : Int → Int → Bool} {g : Int → Int → D} {d e : D} {G : DH} {σ : L2.St} {H : Hp} {τ : DS} {ρ : List Addr} {Q : VK} (ok : OkE X.K X.mg EE H σ τ ρ (dInt2 C g d e G) Q) :
    ∃ i j, d = .int i ∧ e = .int j ∧ C i j = true ∧ OkE X.K X.mg EE H σ τ ρ (.ok (g i j) G) Q := by
  cases d <;> cases e <;> try exact ok.elim
  rename_i i j
  dsimp only [dInt2] at ok
  cases hc : C i j with
  | false => rw [hc] at ok; exact ok.elim
  | true => rw [hc] at ok; exact ⟨i, j, rfl, rfl, hc, ok⟩
theorem opD_int {C : Int → Int → Bool} {P : Int → Int → Prop} {g : Int → Int → D} {gv : Int → Int → V} (hC : ∀ i j, C i j = true → P i j) (hg : ∀ i j ρ H, Rep X.K X.mg ρ H (g i j) (gv i j)) : OpD X EE (rI P gv) (dInt2 C g) :=
  fun σ H τ ρ G x y d e Q ab r1 r2 ok => by
    obtain ⟨i, j, rfl, rfl, hc, ok⟩ := int2_of ok
    unfold Rep at r1 r2
    exact ⟨i, j, r1, r2, hC i j hc, ok _ H ρ .refl ab (hg i j ρ H)⟩
theorem opD_int0 {g : Int → Int → D} {gv : Int → Int → V} (hg : ∀ i j ρ H, Rep X.K X.mg ρ H (g i j) (gv i j)) : OpD X EE (rI0 gv) (dInt2 (fun _ _ => true) g) :=
  fun σ H τ ρ G x y d e Q ab r1 r2 ok => by
    obtain ⟨i, j, rfl, rfl, hc, ok⟩ := int2_of ok
    unfold Rep at r1 r2
    exact ⟨i, j, r1, r2, ok _ H ρ .refl ab (hg i j ρ H)⟩
noncomputable abbrev dMul := dInt2 (fun i j => (decide (-(2 ^ 64) < i) && decide (i < 2 ^ 64)) || (decide (-(2 ^ 64) < j) && decide (j < 2 ^ 64))) fun i j => .int (i * j)
noncomputable abbrev dFdiv := dInt2 (fun _ j => decide (0 < j) && decide (j < 1073741824)) fun i j => .int (i / j)
noncomputable abbrev dMod := dInt2 (fun _ j => decide (0 < j)) fun i j => .int (i % j)
noncomputable abbrev dPow := dInt2 (fun i j => decide (0 ≤ j) && (decide (j ≤ 1000000) && decide (i.natAbs < 2 ^ 64))) fun i j => .int (i ^ j.toNat)
noncomputable abbrev dLt := dInt2 (fun _ _ => true) fun i j => .bl (decide (i < j))
noncomputable abbrev dGt := dInt2 (fun _ _ => true) fun i j => .bl (decide (j < i))
theorem qe_mul (ha : QE X EE a ma) (hb : QE X EE b mb) : QE X EE (.BinOp a .Mult b pos) (eOp dMul ma mb) := qe_op op_mul (opD_int (fun i j h => by
  simp only [Bool.or_eq_true, Bool.and_eq_true, decide_eq_true_eq] at h; exact h) fun _ _ _ _ => by unfold Rep; rfl) ha hb
theorem qe_fdiv (ha : QE X EE a ma) (hb : QE X EE b mb) : QE X EE (.BinOp a .FloorDiv b pos) (eOp dFdiv ma mb) := qe_op op_fdiv (opD_int (fun i j h => by
  simp only [Bool.and_eq_true, decide_eq_true_eq] at h; exact h) fun _ _ _ _ => by unfold Rep; rfl) ha hb
theorem qe_mod (ha : QE X EE a ma) (hb : QE X EE b mb) : QE X EE (.BinOp a .Mod b pos) (eOp dMod ma mb) := qe_op op_mod (opD_int (fun i j h => of_decide_eq_true h) fun _ _ _ _ => by unfold Rep; rfl) ha hb
theorem qe_pow (ha : QE X EE a ma) (hb : QE X EE b mb) : QE X EE (.BinOp a .Pow b pos) (eOp dPow ma mb) := qe_op op_pow (opD_int (fun i j h => by
  simp only [Bool.and_eq_true, decide_eq_true_eq] at h; exact h) fun _ _ _ _ => by unfold Rep; rfl) ha hb
noncomputable def dNew (ds : List D) : M D := fun G => if ds.length ≤ sizeLine then .ok (.obj G.length) (G ++ [.lst ds]) else .stuck
noncomputable def dTup (ds : List D) : M D := fun G => if ds.length ≤ sizeLine then .ok (.tup ds) G else .stuck
theorem new_ok {σ : L2.St} {H : Hp} {τ : DS} {ρ : List Addr} {G : DH} {ds : List D} {vs : List V} {Q : VK} (ab : Ab X.K X.mg σ H τ ρ G) (r : Reps X.K X.mg ρ H ds vs) (ok : OkE X.K X.mg EE H σ τ ρ (dNew ds G) Q) :
    vs.length ≤ sizeLine ∧ ∀ p, H p = none → Q (.ref p) (upd H p (.lst vs)) := by
  unfold dNew at ok
  split at ok
  · rename_i hl
    rw [r.length] at hl
    refine ⟨hl, fun p hp => ?_⟩
    have f : Fut X.K H (upd H p (.lst vs)) ρ (ρ ++ [p]) := (fut_new hp ρ).trans (fut_more ρ p)
    refine ok (.ref p) _ (ρ ++ [p]) f (ab.fut f (ab.hp.more hp r)) ?_
    unfold Rep
    exact ⟨p, rfl, by rw [← ab.hp.hl, getElem?_concat_self]⟩
  · exact ok.elim
theorem tup_ok {σ : L2.St} {H : Hp} {τ : DS} {ρ : List Addr} {G : DH} {ds : List D} {vs : List V} {Q : VK} (ab : Ab X.K X.mg σ H τ ρ G) (r : Reps X.K X.mg ρ H ds vs) (ok : OkE X.K X.mg EE H σ τ ρ (dTup ds G) Q) :
    vs.length ≤ sizeLine ∧ ∀ p, H p = none → Q (.ref p) (upd H p (.tup vs)) := by
  unfold dTup at ok
  split at ok
  · rename_i hl
    rw [r.length] at hl
    refine ⟨hl, fun p hp => ?_⟩
    have f : Fut X.K H (upd H p (.tup vs)) ρ ρ := fut_new hp ρ
    refine ok (.ref p) _ ρ f (ab.fut f (ab.hp.new hp)) ?_
    unfold Rep
    exact ⟨p, vs, rfl, .of upd_same, r.mono f⟩
  · exact ok.elim
noncomputable def aNil : DS → M (List D) := fun _ => M.ret []
noncomputable def aCons (m : DS → M D) (r : DS → M (List D)) : DS → M (List D) := fun τ => (m τ).bind fun x => (r τ).bind fun xs => M.ret (x :: xs)
theorem qa_nil : QA X EE [] aNil := PA.mono pa_nil fun σ H Q ⟨τ, ρ, G, ab, ok⟩ => ok [] H ρ .refl ab .nil
theorem qa_cons {e : Expr} {es : List Expr} {m : DS → M D} {r : DS → M (List D)} (ha : QE X EE e m) (hr : QA X EE es r) (hs : starEach (e :: es) X.env = (false, eval e X.env) :: starEach es X.env := by rfl) : QA X EE (e :: es) (aCons m r) :=
  PA.mono (pa_cons ha hr hs) fun σ H Q h => by
    obtain ⟨τ, ρ, G, ab, ok⟩ := bindEA (k := fun τ x => (r τ).bind fun xs => M.ret (x :: xs)) h
    refine ⟨τ, ρ, G, ab, ?_⟩
    cases e : m τ G with
    | stuck => rw [e] at ok; exact ok
    | exn c G' => rw [e] at ok; exact ok
    | ok d G' =>
      rw [e] at ok
      intro v H' ρ' f' ab' r'
      obtain ⟨τ2, ρ2, G2, d2, ab2, r2, ok2⟩ := ok v H' ρ' f' ab' r'
      refine ⟨τ2, ρ2, G2, ab2, ?_⟩
      dsimp only [M.bind] at ok2
      cases e2 : r τ2 G2 with
      | stuck => rw [e2] at ok2; exact ok2
      | exn c G' => rw [e2] at ok2; exact ok2
      | ok d3 G3 =>
        rw [e2] at ok2
        exact fun v3 H3 ρ3 f3 ab3 r3 => ok2 (v :: v3) H3 ρ3 f3 ab3 (.cons (r2.mono f3) r3)
noncomputable def eArgs (f : List D → M D) (m : DS → M (List D)) : DS → M D := fun τ => (m τ).bind f
theorem args_lift {m : DS → M (List D)} {f : List D → M D} {r : List V → Hp → VK → Prop} {σ : L2.St} {H : Hp} {Q : VK}
    (hd : ∀ (H : Hp) (τ : DS) (ρ : List Addr) (G : DH) (xs : List V) (ds : List D), Ab X.K X.mg σ H τ ρ G → Reps X.K X.mg ρ H ds xs → OkE X.K X.mg EE H σ τ ρ (f ds G) Q → r xs H Q)
    (h : liftE X.K X.mg EE (eArgs f m) σ H Q) : liftA X.K X.mg EE m σ H fun xs H1 => r xs H1 Q := by
  obtain ⟨τ, ρ, G, ab, ok⟩ := bindAE (k := fun _ => f) h
  refine ⟨τ, ρ, G, ab, ?_⟩
  cases e : m τ G with
  | stuck => rw [e] at ok; exact ok
  | exn c G' => rw [e] at ok; exact ok
  | ok d G' =>
    rw [e] at ok
    intro v H' ρ' f' ab' r'
    obtain ⟨τ2, ρ2, G2, d2, ab2, r2, ok2⟩ := ok v H' ρ' f' ab' r'
    exact hd H' τ2 ρ2 G2 v d2 ab2 r2 ok2
theorem qe_tup {es : List Expr} {m : DS → M (List D)} {x1} (h : QA X EE es m) : QE X EE (.Tuple es x1 pos) (eArgs dTup m) :=
  PE.mono (pe_tup h) fun σ H Q h => args_lift (r := fun xs H1 Q => xs.length ≤ sizeLine ∧ ∀ p, H1 p = none → Q (.ref p) (upd H1 p (.tup xs))) (fun H τ ρ G xs ds ab r ok => tup_ok ab r ok) h
theorem qe_lst {es : List Expr} {m : DS → M (List D)} (h : QA X EE es m) : QE X EE (.List es pos) (eArgs dNew m) :=
  PE.mono (pe_lst h) fun σ H Q h => args_lift (r := fun xs H1 Q => xs.length ≤ sizeLine ∧ ∀ p, H1 p = none → Q (.ref p) (upd H1 p (.lst xs))) (fun H τ ρ G xs ds ab r ok => new_ok ab r ok) h
noncomputable def CallD (X : Cx) (EE : EXK) (r : List V → Hp → VK → Prop) (f : List D → M D) : Prop := ∀ (σ : L2.St) (H : Hp) (τ : DS) (ρ : List Addr) (G : DH) (xs : List V) (ds : List D) (Q : VK),
  Ab X.K X.mg σ H τ ρ G → Reps X.K X.mg ρ H ds xs → OkE X.K X.mg EE H σ τ ρ (f ds G) Q → r xs H Q
theorem qe_callB {x : Str} {p : Pos} {e : Expr} {es : List Expr} {m : DS → M (List D)} {id : String} {r : List V → Hp → VK → Prop} {f : List D → M D} (hc : CallR X (.builtin id) r) (hd : CallD X EE r f) (hm : X.mg x = none) (ha : QA X EE (e :: es) m)
    (hg : Gl X x := by rfl) (hv : bootBuiltins x = some (.builtin id) := by first | rfl | decide) (hn : x ≠ "__name__" := by decide) (hdb : (x == ("__debug__" : Str)) = false := by decide)
    (he : starEach (e :: es) X.env = (false, eval e X.env) :: starEach es X.env := by rfl) (hpl : (backTo pos (starEach es X.env)).any (·.1) = false := by rfl) : QE X EE (.Call (.Name x p) (e :: es) [] pos) (eArgs f m) :=
  PE.mono (pe_callB hc hg hm hv ha hn hdb he hpl) fun σ H Q h => args_lift (r := r) (fun H τ ρ G xs ds ab r ok => hd σ H τ ρ G xs ds Q ab r ok) h
theorem qe_callTy {x : Str} {p : Pos} {e : Expr} {es : List Expr} {m : DS → M (List D)} {T : String} {r : List V → Hp → VK → Prop} {f : List D → M D} (hc : CallR X (.type T) r) (hd : CallD X EE r f) (hm : X.mg x = none) (ha : QA X EE (e :: es) m)
    (hg : Gl X x := by rfl) (hv : bootBuiltins x = some (.type T) := by first | rfl | decide) (hn : x ≠ "__name__" := by decide) (hdb : (x == ("__debug__" : Str)) = false := by decide)
    (he : starEach (e :: es) X.env = (false, eval e X.env) :: starEach es X.env := by rfl) (hpl : (backTo pos (starEach es X.env)).any (·.1) = false := by rfl) : QE X EE (.Call (.Name x p) (e :: es) [] pos) (eArgs f m) :=
  PE.mono (pe_callTy hc hg hm hv ha hn hdb he hpl) fun σ H Q h => args_lift (r := r) (fun H τ ρ G xs ds ab r ok => hd σ H τ ρ G xs ds Q ab r ok) h
noncomputable def tTruth (f : D → M Bool) (m : DS → M D) : DS → M Bool := fun τ => (m τ).bind f
noncomputable def dTru : D → M Bool
  | .non => M.ret false
  | .bl b => M.ret b
  | .int i => M.ret (i != 0)
  | .str y => if y.length ≤ sizeLine then M.ret ((y.length : Int) != 0) else M.stop
  | .tup xs => M.ret (!xs.isEmpty)
  | .con xs => M.ret (!xs.isEmpty)
  | .obj n => fun G => match G[n]? with
    | some (.lst xs) => .ok (!xs.isEmpty) G
    | _ => .stuck
  | .fn _ => M.stop
  | .exo _ _ => M.stop
theorem isEmpty_reps {K : PySem.W.Frag} {mg : Str → Option Value} {ρ : List Addr} {H : Hp} {ds : List D} {vs : List V} (r : Reps K mg ρ H ds vs) : (!vs.isEmpty) = !ds.isEmpty := by
  have := r.length
  cases ds <;> cases vs <;> first | rfl | (simp at this)
theorem tru_lift {m : DS → M D} {σ : L2.St} {H : Hp} {Q : Bool → Hp → Prop} (h : liftT X.K X.mg EE (tTruth dTru m) σ H Q) :
    liftE X.K X.mg EE m σ H fun x H1 => ∃ k, TruV X.K x H1 k ∧ Q k H1 := by
  obtain ⟨τ, ρ, G, ab, ok⟩ := bindET (k := fun _ => dTru) h
  refine ⟨τ, ρ, G, ab, ?_⟩
  cases e : m τ G with
  | stuck => rw [e] at ok; exact ok
  | exn c G' => rw [e] at ok; exact ok
  | ok d G' =>
    rw [e] at ok
    intro v H' ρ' f' ab' r'
    obtain ⟨τ2, ρ2, G2, d2, ab2, r2, ok2⟩ := ok v H' ρ' f' ab' r'
    cases d2 with
    | non => unfold Rep at r2; subst r2; exact ⟨false, rfl, ok2 H' ρ2 .refl ab2⟩
    | bl b => unfold Rep at r2; subst r2; exact ⟨b, rfl, ok2 H' ρ2 .refl ab2⟩
    | int i => unfold Rep at r2; subst r2; exact ⟨_, rfl, ok2 H' ρ2 .refl ab2⟩
    | str y =>
      unfold Rep at r2; subst r2
      dsimp only [dTru] at ok2
      split at ok2
      · rename_i hl; exact ⟨_, ⟨hl, rfl⟩, ok2 H' ρ2 .refl ab2⟩
      · exact ok2.elim
    | tup xs =>
      unfold Rep at r2
      obtain ⟨p, vs, rfl, sq, rs⟩ := r2
      exact ⟨!vs.isEmpty, .inr ⟨vs, sq, rfl⟩, by rw [isEmpty_reps rs]; exact ok2 H' ρ2 .refl ab2⟩
    | con xs =>
      unfold Rep at r2
      obtain ⟨p, vs, rfl, sq, rs⟩ := r2
      exact ⟨!vs.isEmpty, .inl ⟨vs, sq.seq, rfl⟩, by rw [isEmpty_reps rs]; exact ok2 H' ρ2 .refl ab2⟩
    | obj n =>
      unfold Rep at r2
      obtain ⟨p, rfl, e1⟩ := r2
      dsimp only [dTru] at ok2
      cases q : G2[n]? with
      | none => rw [q] at ok2; exact ok2.elim
      | some o =>
        cases o with
        | lst xs =>
          rw [q] at ok2
          obtain ⟨p', vs, e2, hp, rs⟩ := ab2.hp.lst q
          rw [e1] at e2; cases e2
          exact ⟨!vs.isEmpty, .inl ⟨vs, .of hp, rfl⟩, by rw [isEmpty_reps rs]; exact ok2 H' ρ2 .refl ab2⟩
    | fn x => exact ok2.elim
    | exo c as => exact ok2.elim
theorem qt_tru (ha : QE X EE a ma) (he : ∀ whole, isTrue a X.env whole = (do let v ← whole; standAt a.pos; holding [v] (truthy v)) := by intro _; rfl) : QT X EE a (tTruth dTru ma) :=
  PT.mono (pt_truth ha he) fun σ H Q h => tru_lift h
end
end L3
end
section
set_option Elab.async false
set_option linter.all false
set_option maxRecDepth 100000
namespace L3
open PySem PySem.Spec L2
noncomputable def optMap {α β : Type} (f : α → Option β) : List α → Option (List β)
  | [] => some []
  | a :: r => match f a, optMap f r with
    | some b, some bs => some (b :: bs)
    | _, _ => none
noncomputable def toP (G : DH) : Nat → D → Option PyData
  | 0, _ => none
  | _ + 1, .non => some .none
  | _ + 1, .bl b => some (.bool b)
  | _ + 1, .int i => some (.int i)
  | _ + 1, .str x => some (.str x)
  | n + 1, .tup ds => (optMap (toP G n) ds).map .tuple
  | n + 1, .con ds => (optMap (toP G n) ds).map .list
  | n + 1, .obj k => match G[k]? with
    | some (.lst ds) => (optMap (toP G n) ds).map .list
    | _ => none
  | _ + 1, .fn _ => none
  | _ + 1, .exo _ _ => none
section
variable {X : Cx} {EE : EXK} {pins : List (Addr × Obj)} {σ : L2.St} {H : Hp} {s : Shared} {ρ : List Addr} {G : DH}
theorem readsAll {f : D → Option PyData} (hf : ∀ (d : D) (x : V) (u : Value) (p : PyData), Rep X.K X.mg ρ H d x → RelV x u → f d = some p → ∃ as, Reads s.heap u p as) :
    ∀ (ds : List D) (xs : List V) (us : List Value) (ps : List PyData), Reps X.K X.mg ρ H ds xs → Vals xs us → optMap f ds = some ps → ∃ as, ReadsAll s.heap us ps as
  | [], xs, us, ps, r, v, e => by
    unfold Reps at r; subst r
    cases v; cases e
    exact ⟨[], .nil⟩
  | d :: ds, xs, us, ps, r, v, e => by
    unfold Reps at r
    obtain ⟨x, r', rfl, h1, h2⟩ := r
    cases v with
    | cons v1 v2 =>
    unfold optMap at e
    cases e1 : f d with
    | none => rw [e1] at e; cases e
    | some p =>
      cases e2 : optMap f ds with
      | none => rw [e1, e2] at e; cases e
      | some qs =>
        rw [e1, e2] at e
        cases e
        obtain ⟨as, a1⟩ := hf d x _ p h1 v1 e1
        obtain ⟨bs, a2⟩ := readsAll hf ds r' _ qs h2 v2 e2
        exact ⟨as ++ bs, .cons a1 a2⟩
theorem reads_of (I : Inv X pins σ H s) (hp : HAb X.K X.mg H ρ G) : ∀ (n : Nat) (d : D) (x : V) (u : Value) (p : PyData), Rep X.K X.mg ρ H d x → RelV x u → toP G n d = some p → ∃ as, Reads s.heap u p as
  | 0, _, _, _, _, _, _, e => nomatch e
  | n + 1, .non, x, u, p, r, v, e => by unfold Rep at r; subst r; cases v; cases e; exact ⟨_, .none⟩
  | n + 1, .bl b, x, u, p, r, v, e => by unfold Rep at r; subst r; cases v; cases e; exact ⟨_, .bool b⟩
  | n + 1, .int i, x, u, p, r, v, e => by unfold Rep at r; subst r; obtain ⟨t, rfl⟩ := v; cases e; exact ⟨_, .int i t⟩
  | n + 1, .str y, x, u, p, r, v, e => by unfold Rep at r; subst r; obtain ⟨t, rfl⟩ := v; cases e; exact ⟨_, .str y t⟩
  | n + 1, .tup ds, x, u, p, r, v, e => by
    unfold Rep at r
    obtain ⟨a, xs, rfl, sq, rs⟩ := r
    cases v
    obtain ⟨its, vs, ⟨o, e1, e2, k, e3⟩, _⟩ := I.tuple sq
    unfold toP at e
    cases q : optMap (toP G n) ds with
    | none => rw [q] at e; cases e
    | some ps =>
      rw [q] at e; cases e
      obtain ⟨as, ra⟩ := readsAll (fun d x u p => reads_of I hp n d x u p) ds xs its ps rs vs q
      exact ⟨as, .tuple e1 e2 e3 (by simpa using ra)⟩
  | n + 1, .con ds, x, u, p, r, v, e => by
    unfold Rep at r
    obtain ⟨a, xs, rfl, sq, rs⟩ := r
    cases v
    obtain ⟨its, vs, ⟨o, k, e1, e2, e3, e4⟩, _⟩ := I.list sq.seq
    unfold toP at e
    cases q : optMap (toP G n) ds with
    | none => rw [q] at e; cases e
    | some ps =>
      rw [q] at e; cases e
      obtain ⟨as, ra⟩ := readsAll (fun d x u p => reads_of I hp n d x u p) ds xs its ps rs vs q
      exact ⟨_, .list e1 e2 e4 (by simpa using ra)⟩
  | n + 1, .obj k, x, u, p, r, v, e => by
    unfold Rep at r
    obtain ⟨a, rfl, e0⟩ := r
    cases v
    dsimp only [toP] at e
    cases q : G[k]? with
    | none => rw [q] at e; cases e
    | some o =>
      cases o with
      | lst ds =>
        rw [q] at e
        obtain ⟨a', xs, e1, e2, rs⟩ := hp.lst q
        rw [e0] at e1; cases e1
        obtain ⟨its, vs, ⟨o, k, e1, e2, e3, e4⟩, _⟩ := I.list (.of e2)
        dsimp only at e
        cases q : optMap (toP G n) ds with
        | none => rw [q] at e; cases e
        | some ps =>
          rw [q] at e; cases e
          obtain ⟨as, ra⟩ := readsAll (fun d x u p => reads_of I hp n d x u p) ds xs its ps rs vs q
          exact ⟨_, .list e1 e2 e4 (by simpa using ra)⟩
  | n + 1, .fn y, x, u, p, r, v, e => nomatch e
  | n + 1, .exo y _, x, u, p, r, v, e => nomatch e
end
section
variable {X : Cx} {EE : EXK} {a b c : Expr} {ma mb mc : DS → M D} {pos : Pos}
noncomputable def rD (X : Cx) (EE : EXK) (f : D → D → M D) : R2 := fun x y H Q => ∃ σ τ ρ G d e, Ab X.K X.mg σ H τ ρ G ∧ Rep X.K X.mg ρ H d x ∧ Rep X.K X.mg ρ H e y ∧ OkE X.K X.mg EE H σ τ ρ (f d e G) Q
theorem opD_self {f : D → D → M D} : OpD X EE (rD X EE f) f := fun σ H τ ρ G x y d e Q ab r1 r2 ok => ⟨σ, τ, ρ, G, d, e, ab, r1, r2, ok⟩
theorem rD_of {f : D → D → M D} {r : R2} (h : OpD X EE r f) {x y : V} {H : Hp} {Q : VK} (q : rD X EE f x y H Q) : r x y H Q := by
  obtain ⟨σ, τ, ρ, G, d, e, ab, r1, r2, ok⟩ := q
  exact h σ H τ ρ G x y d e Q ab r1 r2 ok
noncomputable abbrev deep : Nat := 200
noncomputable def dEqB (d e : D) (G : DH) : Option Bool := match toP G deep d, toP G deep e with
  | some p, some q => if p.canLay0 && (q.canLay0 && decide (min p.depth q.depth ≤ 180)) then some (PyData.eqv p q) else none
  | _, _ => none
noncomputable def dEq (neg : Bool) (d e : D) : M D := fun G => match dEqB d e G with
  | some b => .ok (.bl (neg ^^ b)) G
  | none => .stuck
theorem op_eqD (hu : X.A.units + 200 < cLine) : OpR X (compareOp .Eq) (rD X EE (dEq false)) := by
  intro pins s σ0 H x y v u Q I rx ry ⟨σ, τ, ρ, G, d, e, ab, r1, r2, ok⟩
  dsimp only [dEq, dEqB] at ok
  cases e1 : toP G deep d with
  | none => rw [e1] at ok; exact ok.elim
  | some p =>
    cases e2 : toP G deep e with
    | none => rw [e1, e2] at ok; exact ok.elim
    | some q =>
      rw [e1, e2] at ok
      dsimp only at ok
      by_cases hc : (p.canLay0 && (q.canLay0 && decide (min p.depth q.depth ≤ 180))) = true
      · rw [if_pos hc] at ok
        simp only [Bool.and_eq_true, decide_eq_true_eq] at hc
        obtain ⟨as, ra⟩ := reads_of I ab.hp deep d x v p r1 rx e1
        obtain ⟨bs, rb⟩ := reads_of I ab.hp deep e y u q r2 ry e2
        refine SeqAt.compareEq_reads ra rb hc.1 hc.2.1 (by omega) ⟨.bl _, H, I, rfl, ?_⟩
        have := ok (.bl _) H ρ .refl ab (by unfold Rep; rfl)
        simpa using this
      · rw [if_neg hc] at ok; exact ok.elim
theorem op_neD (hu : X.A.units + 200 < cLine) : OpR X (compareOp .NotEq) (rD X EE (dEq true)) := by
  intro pins s σ0 H x y v u Q I rx ry ⟨σ, τ, ρ, G, d, e, ab, r1, r2, ok⟩
  dsimp only [dEq, dEqB] at ok
  cases e1 : toP G deep d with
  | none => rw [e1] at ok; exact ok.elim
  | some p =>
    cases e2 : toP G deep e with
    | none => rw [e1, e2] at ok; exact ok.elim
    | some q =>
      rw [e1, e2] at ok
      dsimp only at ok
      by_cases hc : (p.canLay0 && (q.canLay0 && decide (min p.depth q.depth ≤ 180))) = true
      · rw [if_pos hc] at ok
        simp only [Bool.and_eq_true, decide_eq_true_eq] at hc
        obtain ⟨as, ra⟩ := reads_of I ab.hp deep d x v p r1 rx e1
        obtain ⟨bs, rb⟩ := reads_of I ab.hp deep e y u q r2 ry e2
        refine SeqAt.compareNe_reads ra rb hc.1 hc.2.1 (by omega) ⟨.bl _, H, I, rfl, ?_⟩
        have := ok (.bl _) H ρ .refl ab (by unfold Rep; rfl)
        simpa using this
      · rw [if_neg hc] at ok; exact ok.elim
theorem qe_eq (hu : X.A.units + 200 < cLine) (ha : QE X EE a ma) (hb : QE X EE b mb) : QE X EE (.Compare a [.Eq] [b] pos) (eOp (dEq false) ma mb) := qe_cmp (op_eqD hu) opD_self ha hb (nomark _)
inductive SeqK where
  | lst (xs : List D) | tup (xs : List D) | str (x : Str)
noncomputable def seqOf (G : DH) : D → Option SeqK
  | .tup xs => some (.tup xs)
  | .con xs => some (.lst xs)
  | .obj n => match G[n]? with
    | some (.lst xs) => some (.lst xs)
    | _ => none
  | .str x => some (.str x)
  | _ => none
noncomputable def inB (d : D) (ds : List D) (G : DH) : Option Bool := match toP G deep d, optMap (toP G deep) ds with
  | some p, some qs => if p.canLay0 && (PyData.canLayAll0 qs && decide (min (PyData.depthAll qs) p.depth ≤ 180)) then some (qs.any fun y => PyData.eqv y p) else none
  | _, _ => none
noncomputable def dIn (neg : Bool) (d e : D) : M D := fun G => match seqOf G e with
  | some (.lst ds) => match inB d ds G with
    | some b => .ok (.bl (neg ^^ b)) G
    | none => .stuck
  | some (.tup ds) => match inB d ds G with
    | some b => .ok (.bl (neg ^^ b)) G
    | none => .stuck
  | some (.str j) => match d with
    | .str i => .ok (.bl (neg ^^ !(Builtin.Str.occurrences j i 0 j.length 1).isEmpty)) G
    | _ => .stuck
  | none => .stuck
theorem seqOf_lst {pins : List (Addr × Obj)} {σ0 : L2.St} {H : Hp} {s : Shared} {ρ : List Addr} {G : DH} {d : D} {ds : List D} {x : V} (h : HAb X.K X.mg H ρ G) (r : Rep X.K X.mg ρ H d x) (e : seqOf G d = some (.lst ds)) :
    ∃ p xs, x = .ref p ∧ SqL X.K H p xs ∧ Reps X.K X.mg ρ H ds xs := by
  cases d with
  | con xs =>
    cases e
    unfold Rep at r
    obtain ⟨a, xs, rfl, sq, rs⟩ := r
    exact ⟨a, xs, rfl, sq.seq, rs⟩
  | obj n =>
    unfold Rep at r
    obtain ⟨a, rfl, e0⟩ := r
    dsimp only [seqOf] at e
    cases q : G[n]? with
    | none => rw [q] at e; cases e
    | some o =>
      cases o with
      | lst ys =>
        rw [q] at e; cases e
        obtain ⟨a', xs, e1, e2, rs⟩ := h.lst q
        rw [e0] at e1; cases e1
        exact ⟨a, xs, rfl, .of e2, rs⟩
  | _ => cases e
theorem seqOf_tup {H : Hp} {ρ : List Addr} {G : DH} {d : D} {ds : List D} {x : V} (r : Rep X.K X.mg ρ H d x) (e : seqOf G d = some (.tup ds)) :
    ∃ p xs, x = .ref p ∧ SqT X.K H p xs ∧ Reps X.K X.mg ρ H ds xs := by
  cases d with
  | tup xs =>
    cases e
    unfold Rep at r
    obtain ⟨a, xs, rfl, sq, rs⟩ := r
    exact ⟨a, xs, rfl, sq, rs⟩
  | obj n =>
    dsimp only [seqOf] at e
    cases q : G[n]? with
    | none => rw [q] at e; cases e
    | some o => cases o; rw [q] at e; cases e
  | _ => cases e
theorem seqOf_str {H : Hp} {ρ : List Addr} {G : DH} {d : D} {y : Str} {x : V} (r : Rep X.K X.mg ρ H d x) (e : seqOf G d = some (.str y)) : d = .str y ∧ x = .str y := by
  cases d with
  | str z => cases e; unfold Rep at r; exact ⟨rfl, r⟩
  | obj n =>
    dsimp only [seqOf] at e
    cases q : G[n]? with
    | none => rw [q] at e; cases e
    | some o => cases o; rw [q] at e; cases e
  | _ => cases e
theorem readsL {pins : List (Addr × Obj)} {σ0 : L2.St} {H : Hp} {s : Shared} {ρ : List Addr} {G : DH} {p : Addr} {xs : List V} {ds : List D} {qs : List PyData} (I : Inv X pins σ0 H s) (hp : HAb X.K X.mg H ρ G) (sq : SqL X.K H p xs) (rs : Reps X.K X.mg ρ H ds xs)
    (e : optMap (toP G deep) ds = some qs) : ∃ as, Reads s.heap (.ref p) (.list qs) as := by
  obtain ⟨its, vs, ⟨o, k, e1, e2, e3, e4⟩, _⟩ := I.list sq
  obtain ⟨as, ra⟩ := readsAll (fun d x u p => reads_of I hp deep d x u p) ds xs its qs rs vs e
  exact ⟨_, .list e1 e2 e4 (by simpa using ra)⟩
theorem readsT {pins : List (Addr × Obj)} {σ0 : L2.St} {H : Hp} {s : Shared} {ρ : List Addr} {G : DH} {p : Addr} {xs : List V} {ds : List D} {qs : List PyData} (I : Inv X pins σ0 H s) (hp : HAb X.K X.mg H ρ G) (sq : SqT X.K H p xs) (rs : Reps X.K X.mg ρ H ds xs)
    (e : optMap (toP G deep) ds = some qs) : ∃ as, Reads s.heap (.ref p) (.tuple qs) as := by
  obtain ⟨its, vs, ⟨o, e1, e2, k, e3⟩, _⟩ := I.tuple sq
  obtain ⟨as, ra⟩ := readsAll (fun d x u p => reads_of I hp deep d x u p) ds xs its qs rs vs e
  exact ⟨_, .tuple e1 e2 e3 (by simpa using ra)⟩
theorem inB_some {d : D} {ds : List D} {G : DH} {b : Bool} (h : inB d ds G = some b) : ∃ p qs, toP G deep d = some p ∧ optMap (toP G deep) ds = some qs ∧ p.canLay0 = true ∧ PyData.canLayAll0 qs = true ∧ min (PyData.depthAll qs) p.depth ≤ 180 ∧ b = qs.any fun y => PyData.eqv y p := by
  unfold inB at h
  cases e1 : toP G deep d with
  | none => rw [e1] at h; cases h
  | some p =>
    cases e2 : optMap (toP G deep) ds with
    | none => rw [e1, e2] at h; cases h
    | some qs =>
      rw [e1, e2] at h
      dsimp only at h
      by_cases hc : (p.canLay0 && (PyData.canLayAll0 qs && decide (min (PyData.depthAll qs) p.depth ≤ 180))) = true
      · rw [if_pos hc] at h
        simp only [Bool.and_eq_true, decide_eq_true_eq] at hc
        exact ⟨p, qs, rfl, rfl, hc.1, hc.2.1, hc.2.2, (Option.some.inj h).symm⟩
      · rw [if_neg hc] at h; cases h
theorem op_inD (hu : X.A.units + 200 < cLine) : OpR X (compareOp .In) (rD X EE (dIn false)) := by
  intro pins s σ0 H x y v u Q I rx ry ⟨σ, τ, ρ, G, d, e, ab, r1, r2, ok⟩
  dsimp only [dIn] at ok
  cases q : seqOf G e with
  | none => rw [q] at ok; exact ok.elim
  | some sk =>
    rw [q] at ok
    cases sk with
    | lst ds =>
      dsimp only at ok
      cases qb : inB d ds G with
      | none => rw [qb] at ok; exact ok.elim
      | some b =>
        rw [qb] at ok
        obtain ⟨p, qs, e1, e2, h1, h2, h3, rfl⟩ := inB_some qb
        obtain ⟨l, xs, rfl, sq, rs⟩ := seqOf_lst (pins := pins) (σ0 := σ0) (s := s) ab.hp r2 q
        cases ry
        obtain ⟨as, ra⟩ := reads_of I ab.hp deep d x v p r1 rx e1
        obtain ⟨bs, rb⟩ := readsL I ab.hp sq rs e2
        refine SeqAt.in_list_reads rb ra h2 h1 (by omega) ⟨.bl _, H, I, rfl, ?_⟩
        have := ok (.bl _) H ρ .refl ab (by unfold Rep; rfl)
        simpa using this
    | tup ds =>
      dsimp only at ok
      cases qb : inB d ds G with
      | none => rw [qb] at ok; exact ok.elim
      | some b =>
        rw [qb] at ok
        obtain ⟨p, qs, e1, e2, h1, h2, h3, rfl⟩ := inB_some qb
        obtain ⟨l, xs, rfl, sq, rs⟩ := seqOf_tup r2 q
        cases ry
        obtain ⟨as, ra⟩ := reads_of I ab.hp deep d x v p r1 rx e1
        obtain ⟨bs, rb⟩ := readsT I ab.hp sq rs e2
        refine SeqAt.in_tuple_reads rb ra h2 h1 (by omega) ⟨.bl _, H, I, rfl, ?_⟩
        have := ok (.bl _) H ρ .refl ab (by unfold Rep; rfl)
        simpa using this
    | str j =>
      obtain ⟨rfl, rfl⟩ := seqOf_str r2 q
      cases d with
      | str i =>
        unfold Rep at r1; subst r1
        refine op_in_str pins s σ0 H _ _ v u Q I rx ry ⟨i, j, rfl, rfl, ?_⟩
        have := ok (.bl _) H ρ .refl ab (by unfold Rep; rfl)
        simpa using this
      | _ => exact ok.elim
theorem op_notInD (hu : X.A.units + 200 < cLine) : OpR X (compareOp .NotIn) (rD X EE (dIn true)) := by
  intro pins s σ0 H x y v u Q I rx ry ⟨σ, τ, ρ, G, d, e, ab, r1, r2, ok⟩
  dsimp only [dIn] at ok
  cases q : seqOf G e with
  | none => rw [q] at ok; exact ok.elim
  | some sk =>
    rw [q] at ok
    cases sk with
    | lst ds =>
      dsimp only at ok
      cases qb : inB d ds G with
      | none => rw [qb] at ok; exact ok.elim
      | some b =>
        rw [qb] at ok
        obtain ⟨p, qs, e1, e2, h1, h2, h3, rfl⟩ := inB_some qb
        obtain ⟨l, xs, rfl, sq, rs⟩ := seqOf_lst (pins := pins) (σ0 := σ0) (s := s) ab.hp r2 q
        cases ry
        obtain ⟨as, ra⟩ := reads_of I ab.hp deep d x v p r1 rx e1
        obtain ⟨bs, rb⟩ := readsL I ab.hp sq rs e2
        refine SeqAt.notIn_list_reads rb ra h2 h1 (by omega) ⟨.bl _, H, I, rfl, ?_⟩
        have := ok (.bl _) H ρ .refl ab (by unfold Rep; rfl)
        simpa using this
    | tup ds =>
      dsimp only at ok
      cases qb : inB d ds G with
      | none => rw [qb] at ok; exact ok.elim
      | some b =>
        rw [qb] at ok
        obtain ⟨p, qs, e1, e2, h1, h2, h3, rfl⟩ := inB_some qb
        obtain ⟨l, xs, rfl, sq, rs⟩ := seqOf_tup r2 q
        cases ry
        obtain ⟨as, ra⟩ := reads_of I ab.hp deep d x v p r1 rx e1
        obtain ⟨bs, rb⟩ := readsT I ab.hp sq rs e2
        refine SeqAt.notIn_tuple_reads rb ra h2 h1 (by omega) ⟨.bl _, H, I, rfl, ?_⟩
        have := ok (.bl _) H ρ .refl ab (by unfold Rep; rfl)
        simpa using this
    | str j =>
      obtain ⟨rfl, rfl⟩ := seqOf_str r2 q
      cases d with
      | str i =>
        unfold Rep at r1; subst r1
        refine op_notin_str pins s σ0 H _ _ v u Q I rx ry ⟨i, j, rfl, rfl, ?_⟩
        have := ok (.bl _) H ρ .refl ab (by unfold Rep; rfl)
        simpa using this
      | _ => exact ok.elim
theorem qe_in (hu : X.A.units + 200 < cLine) (ha : QE X EE a ma) (hb : QE X EE b mb) (hm : behindInMarks .In b = false := by first | rfl | (with_unfolding_all rfl)) : QE X EE (.Compare a [.In] [b] pos) (eOp (dIn false) ma mb) := qe_cmp (op_inD hu) opD_self ha hb hm
end
end L3
end
section
set_option Elab.async false
set_option linter.all false
set_option maxRecDepth 100000
namespace L3
open PySem PySem.Spec L2
section
variable {X : Cx} {EE : EXK} {a b c : Expr} {ma mb mc : DS → M D} {pos : Pos}
noncomputable def dAdd : D → D → M D
  | .int i, .int j => M.ret (.int (i + j))
  | .str i, .str j => if i.length + j.length ≤ sizeLine then M.ret (.str (i ++ j)) else M.stop
  | .obj n, .obj k => fun G => match G[n]?, G[k]? with
    | some (.lst xs), some (.lst ys) => dNew (xs ++ ys) G
    | _, _ => .stuck
  | _, _ => M.stop
theorem op_addD : OpR X (binaryOp .Add) (rD X EE dAdd) := by
  intro pins s σ0 H x y v u Q I rx ry ⟨σ, τ, ρ, G, d, e, ab, r1, r2, ok⟩
  cases d <;> cases e <;> try exact ok.elim
  case int.int i j =>
    unfold Rep at r1 r2; subst r1 r2
    exact op_add pins s σ0 H _ _ v u Q I rx ry ⟨i, j, rfl, rfl, ok _ H ρ .refl ab (by unfold Rep; rfl)⟩
  case str.str i j =>
    unfold Rep at r1 r2; subst r1 r2
    dsimp only [dAdd] at ok
    by_cases h : i.length + j.length ≤ sizeLine
    · rw [if_pos h] at ok
      exact op_add_str pins s σ0 H _ _ v u Q I rx ry ⟨i, j, rfl, rfl, h, ok _ H ρ .refl ab (by unfold Rep; rfl)⟩
    · rw [if_neg h] at ok; exact ok.elim
  case obj.obj n k =>
    unfold Rep at r1 r2
    obtain ⟨p, rfl, e1⟩ := r1
    obtain ⟨q, rfl, e2⟩ := r2
    dsimp only [dAdd] at ok
    cases g1 : G[n]? with
    | none => rw [g1] at ok; exact ok.elim
    | some o1 =>
      cases g2 : G[k]? with
      | none => rw [g1, g2] at ok; cases o1 <;> exact ok.elim
      | some o2 =>
        cases o1 with
        | lst xs =>
          cases o2 with
          | lst ys =>
            rw [g1, g2] at ok
            obtain ⟨p', vs, e1', h1, t1⟩ := ab.hp.lst g1
            obtain ⟨q', ws, e2', h2, t2⟩ := ab.hp.lst g2
            rw [e1] at e1'; cases e1'
            rw [e2] at e2'; cases e2'
            obtain ⟨hl, q1⟩ := new_ok ab (t1.append t2) ok
            rw [List.length_append] at hl
            exact op_cat pins s σ0 H _ _ v u Q I rx ry ⟨p, q, vs, ws, rfl, rfl, h1, h2, hl, q1⟩
theorem qe_add (ha : QE X EE a ma) (hb : QE X EE b mb) : QE X EE (.BinOp a .Add b pos) (eOp dAdd ma mb) := qe_op op_addD opD_self ha hb
noncomputable def dIx (d e : D) : M D := fun G => match e with
  | .int i => match seqOf G d with
    | some (.lst xs) => match atI xs i with
      | some v => .ok v G
      | none => .stuck
    | some (.tup xs) => match atI xs i with
      | some v => .ok v G
      | none => .stuck
    | some (.str z) => if z.length ≤ sizeLine then (match atI z.cps.toList i with
      | some c => .ok (.str ⟨#[c]⟩) G
      | none => .stuck) else .stuck
    | none => .stuck
  | _ => .stuck
theorem atI_reps {K : PySem.W.Frag} {mg : Str → Option Value} {ρ : List Addr} {H : Hp} {ds : List D} {vs : List V} {i : Int} {d : D} (r : Reps K mg ρ H ds vs) (h : atI ds i = some d) : ∃ v, atI vs i = some v ∧ Rep K mg ρ H d v := by
  unfold atI at h ⊢
  rw [← r.length]
  cases e : ixN ds.length i with
  | none => rw [e] at h; cases h
  | some j =>
    rw [e] at h
    obtain ⟨v, e1, e2⟩ := r.get (show ds[j]? = some d from h)
    exact ⟨v, e1, e2⟩
theorem ix_D : IxR X (rD X EE dIx) := by
  intro value slice pins s σ0 H x y v u Q I rx ry ⟨σ, τ, ρ, G, d, e, ab, r1, r2, ok⟩ hs
  cases e <;> try exact ok.elim
  rename_i i
  unfold Rep at r2; subst r2
  dsimp only [dIx] at ok
  cases q : seqOf G d with
  | none => rw [q] at ok; exact ok.elim
  | some sk =>
    rw [q] at ok
    cases sk with
    | lst ds =>
      dsimp only at ok
      cases qa : atI ds i with
      | none => rw [qa] at ok; exact ok.elim
      | some z =>
        rw [qa] at ok
        obtain ⟨l, xs, rfl, sq, rs⟩ := seqOf_lst (pins := pins) (σ0 := σ0) (s := s) ab.hp r1 q
        obtain ⟨w, e1, e2⟩ := atI_reps rs qa
        exact ix_list value slice pins s σ0 H _ _ v u Q I rx ry ⟨l, xs, i, w, rfl, rfl, sq, e1, ok w H ρ .refl ab e2⟩ hs
    | tup ds =>
      dsimp only at ok
      cases qa : atI ds i with
      | none => rw [qa] at ok; exact ok.elim
      | some z =>
        rw [qa] at ok
        obtain ⟨l, xs, rfl, sq, rs⟩ := seqOf_tup r1 q
        obtain ⟨w, e1, e2⟩ := atI_reps rs qa
        exact ix_tup value slice pins s σ0 H _ _ v u Q I rx ry ⟨l, xs, i, w, rfl, rfl, sq, e1, ok w H ρ .refl ab e2⟩ hs
    | str z =>
      dsimp only at ok
      obtain ⟨rfl, rfl⟩ := seqOf_str r1 q
      by_cases hz : z.length ≤ sizeLine
      · rw [if_pos hz] at ok
        cases qa : atI z.cps.toList i with
        | none => rw [qa] at ok; exact ok.elim
        | some c =>
          rw [qa] at ok
          exact ix_str value slice pins s σ0 H _ _ v u Q I rx ry ⟨z, i, c, rfl, rfl, hz, qa, ok _ H ρ .refl ab (by unfold Rep; rfl)⟩ hs
      · rw [if_neg hz] at ok; exact ok.elim
theorem qe_index (ha : QE X EE a ma) (hb : QE X EE b mb) (hs : PlainIx b := by intro _ _; rfl) : QE X EE (.Subscript a b pos) (eOp dIx ma mb) := qe_ix ix_D opD_self ha hb hs
noncomputable def oNone : DS → M (Option Int) := fun _ => M.ret none
noncomputable def oSome (m : DS → M D) : DS → M (Option Int) := fun τ => (m τ).bind fun d => match d with
  | .int i => M.ret (some i)
  | _ => M.stop
noncomputable def OkO (K : PySem.W.Frag) (mg : Str → Option Value) (EE : EXK) (H : Hp) (σ : L2.St) (τ : DS) (ρ : List Addr) : Out (Option Int) → (Option Int → Hp → Prop) → Prop
  | .stuck, _ => False
  | .ok b G', Q => ∀ H' ρ', Fut K H H' ρ ρ' → Ab K mg σ H' τ ρ' G' → Q b H'
  | .exn c G', _ => ∀ H' ρ', Fut K H H' ρ ρ' → Ab K mg σ H' τ ρ' G' → EE c σ H'
noncomputable def liftO (K : PySem.W.Frag) (mg : Str → Option Value) (EE : EXK) (m : DS → M (Option Int)) : TO := fun σ H Q => ∃ τ ρ G, Ab K mg σ H τ ρ G ∧ OkO K mg EE H σ τ ρ (m τ G) Q
noncomputable def QO (X : Cx) (EE : EXK) (e : Option Expr) (m : DS → M (Option Int)) : Prop := PO X e (liftO X.K X.mg EE m)
theorem PO.mono {e : Option Expr} {t t' : TO} (h : PO X e t) (i : ∀ σ H Q, t' σ H Q → t σ H Q) : PO X e t' := fun pins s σ H Q I q => h pins s σ H Q I (i _ _ _ q)
theorem qo_none : QO X EE none oNone := PO.mono po_none fun σ H Q ⟨τ, ρ, G, ab, ok⟩ => ok H ρ .refl ab
theorem qo_some (ha : QE X EE a ma) : QO X EE (some a) (oSome ma) := PO.mono (po_some ha) fun σ H Q ⟨τ, ρ, G, ab, ok⟩ => by
  refine ⟨τ, ρ, G, ab, ?_⟩
  dsimp only [oSome, M.bind] at ok
  cases e : ma τ G with
  | stuck => rw [e] at ok; exact ok
  | exn c G' => rw [e] at ok; exact ok
  | ok d G' =>
    rw [e] at ok
    intro v H' ρ' f ab' r
    cases d <;> try exact ok.elim
    rename_i i
    unfold Rep at r
    exact ⟨i, r, ok H' ρ' f ab'⟩
noncomputable def cutD (xs : List D) (lo hi : Option Int) : List D := (xs.drop (HT.sIx xs.length 0 lo)).take (HT.sIx xs.length xs.length hi - HT.sIx xs.length 0 lo)
noncomputable def dSl (d : D) (lo hi : Option Int) : M D := fun G => match seqOf G d with
  | some (.lst xs) => dNew (cutD xs lo hi) G
  | _ => .stuck
noncomputable def eSl (m : DS → M D) (ml mh : DS → M (Option Int)) : DS → M D := fun τ => (m τ).bind fun d => (ml τ).bind fun lo => (mh τ).bind fun hi => dSl d lo hi
noncomputable def rSlD (X : Cx) (EE : EXK) : V → Option Int → Option Int → Hp → VK → Prop := fun x lo hi H Q => ∃ σ τ ρ G d, Ab X.K X.mg σ H τ ρ G ∧ Rep X.K X.mg ρ H d x ∧ OkE X.K X.mg EE H σ τ ρ (dSl d lo hi G) Q
theorem cut_reps {K : PySem.W.Frag} {mg : Str → Option Value} {ρ : List Addr} {H : Hp} {ds : List D} {vs : List V} (r : Reps K mg ρ H ds vs) (lo hi : Option Int) : Reps K mg ρ H (cutD ds lo hi) (cutV vs lo hi) := by
  unfold cutD cutV
  rw [r.length]
  exact (r.drop _).take _
theorem sl_D : SlR X (rSlD X EE) := by
  intro pins s σ0 H x v vl vu lo hi sl Q I rx hs pl pu ⟨σ, τ, ρ, G, d, ab, r1, ok⟩
  dsimp only [dSl] at ok
  cases q : seqOf G d with
  | none => rw [q] at ok; exact ok.elim
  | some sk =>
    rw [q] at ok
    cases sk with
    | lst ds =>
      obtain ⟨l, xs, rfl, sq, rs⟩ := seqOf_lst (pins := pins) (σ0 := σ0) (s := s) ab.hp r1 q
      exact sl_list pins s σ0 H _ v vl vu lo hi sl Q I rx hs pl pu ⟨l, xs, rfl, sq, (new_ok ab (cut_reps rs lo hi) ok).2⟩
    | tup ds => exact ok.elim
    | str z => exact ok.elim
theorem qe_slice {lo hi : Option Expr} {ml mh : DS → M (Option Int)} {p2 : Pos} (ha : QE X EE a ma) (hl : QO X EE lo ml) (hh : QO X EE hi mh) : QE X EE (.Subscript a (.Slice lo hi none p2) pos) (eSl ma ml mh) :=
  PE.mono (pe_slice sl_D ha hl hh) fun σ H Q ⟨τ, ρ, G, ab, ok⟩ => by
    refine ⟨τ, ρ, G, ab, ?_⟩
    dsimp only [eSl, M.bind] at ok
    cases e1 : ma τ G with
    | stuck => rw [e1] at ok; exact ok
    | exn c G' => rw [e1] at ok; exact ok
    | ok d G1 =>
      rw [e1] at ok
      dsimp only at ok
      intro v H1 ρ1 f1 ab1 r1
      refine ⟨τ, ρ1, G1, ab1, ?_⟩
      cases e2 : ml τ G1 with
      | stuck => rw [e2] at ok; exact ok
      | exn c G' => rw [e2] at ok; exact fun H' ρ' f' => ok H' ρ' (f1.trans f')
      | ok l G2 =>
        rw [e2] at ok
        dsimp only at ok
        intro H2 ρ2 f2 ab2
        refine ⟨τ, ρ2, G2, ab2, ?_⟩
        cases e3 : mh τ G2 with
        | stuck => rw [e3] at ok; exact ok
        | exn c G' => rw [e3] at ok; exact fun H' ρ' f' => ok H' ρ' ((f1.trans f2).trans f')
        | ok u G3 =>
          rw [e3] at ok
          dsimp only at ok
          intro H3 ρ3 f3 ab3
          exact ⟨σ, τ, ρ3, G3, d, ab3, r1.mono (f2.trans f3), ok.fut ((f1.trans f2).trans f3)⟩
noncomputable def tAndD (ma mb : DS → M Bool) : DS → M Bool := fun τ => (ma τ).bind fun c => if c then mb τ else M.ret false
noncomputable def tOrD (ma mb : DS → M Bool) : DS → M Bool := fun τ => (ma τ).bind fun c => if c then M.ret true else mb τ
noncomputable def tNotD (ma : DS → M Bool) : DS → M Bool := fun τ => (ma τ).bind fun c => M.ret (!c)
variable {ta tb tc : DS → M Bool} {rest : List Expr}
theorem and_lift {σ : L2.St} {H : Hp} {Q : Bool → Hp → Prop} (h : liftT X.K X.mg EE (tAndD ta tb) σ H Q) : tAnd (liftT X.K X.mg EE ta) (liftT X.K X.mg EE tb) σ H Q := by
  obtain ⟨τ, ρ, G, ab, ok⟩ := bindTT (k := fun τ c => if c then tb τ else M.ret false) h
  refine ⟨τ, ρ, G, ab, ?_⟩
  cases e : ta τ G with
  | stuck => rw [e] at ok; exact ok
  | exn c G' => rw [e] at ok; exact ok
  | ok k G' =>
    rw [e] at ok
    intro H' ρ' f' ab'
    obtain ⟨τ2, ρ2, G2, ab2, ok2⟩ := ok H' ρ' f' ab'
    cases k with
    | true => exact ⟨τ2, ρ2, G2, ab2, ok2⟩
    | false => exact ok2 H' ρ2 .refl ab2
theorem or_lift {σ : L2.St} {H : Hp} {Q : Bool → Hp → Prop} (h : liftT X.K X.mg EE (tOrD ta tb) σ H Q) : tOr (liftT X.K X.mg EE ta) (liftT X.K X.mg EE tb) σ H Q := by
  obtain ⟨τ, ρ, G, ab, ok⟩ := bindTT (k := fun τ c => if c then M.ret true else tb τ) h
  refine ⟨τ, ρ, G, ab, ?_⟩
  cases e : ta τ G with
  | stuck => rw [e] at ok; exact ok
  | exn c G' => rw [e] at ok; exact ok
  | ok k G' =>
    rw [e] at ok
    intro H' ρ' f' ab'
    obtain ⟨τ2, ρ2, G2, ab2, ok2⟩ := ok H' ρ' f' ab'
    cases k with
    | false => exact ⟨τ2, ρ2, G2, ab2, ok2⟩
    | true => exact ok2 H' ρ2 .refl ab2
theorem PW.mono {e : Expr} {t t' : TT} (h : PW X e t) (i : ∀ σ H Q, t' σ H Q → t σ H Q) : PW X e t' := fun wh pins s σ H Q I q => h wh pins s σ H Q I (i _ _ _ q)
theorem qw_and1 (ha : QT X EE a ta) : QW X EE (.BoolOp .And [a] pos) ta := pw_and1 ha
theorem qw_or1 (ha : QT X EE a ta) : QW X EE (.BoolOp .Or [a] pos) ta := pw_or1 ha
theorem qw_and (ha : QT X EE a ta) (hb : QW X EE (.BoolOp .And (b :: rest) pos) tb) : QW X EE (.BoolOp .And (a :: b :: rest) pos) (tAndD ta tb) := PW.mono (pw_and ha hb) fun _ _ _ h => and_lift h
theorem qw_or (ha : QT X EE a ta) (hb : QW X EE (.BoolOp .Or (b :: rest) pos) tb) : QW X EE (.BoolOp .Or (a :: b :: rest) pos) (tOrD ta tb) := PW.mono (pw_or ha hb) fun _ _ _ h => or_lift h
theorem qt_w {e : Expr} (h : QW X EE e ta) : QT X EE e ta := h.pt
theorem qt_not (ha : QT X EE a ta) : QT X EE (.UnaryOp .Not a pos) (tNotD ta) := PT.mono (pt_not ha) fun σ H Q h => by
  obtain ⟨τ, ρ, G, ab, ok⟩ := bindTT (k := fun τ c => M.ret (!c)) h
  refine ⟨τ, ρ, G, ab, ?_⟩
  cases e : ta τ G with
  | stuck => rw [e] at ok; exact ok
  | exn c G' => rw [e] at ok; exact ok
  | ok k G' =>
    rw [e] at ok
    intro H' ρ' f' ab'
    obtain ⟨τ2, ρ2, G2, ab2, ok2⟩ := ok H' ρ' f' ab'
    exact ok2 H' ρ2 .refl ab2
noncomputable def tBl (m : DS → M D) : DS → M Bool := fun τ => (m τ).bind fun d => match d with
  | .bl b => M.ret b
  | _ => M.stop
theorem bl_lift {m : DS → M D} {σ : L2.St} {H : Hp} {Q : Bool → Hp → Prop} (h : liftT X.K X.mg EE (tBl m) σ H Q) : liftE X.K X.mg EE m σ H fun x H1 => ∃ c, x = .bl c ∧ Q c H1 := by
  obtain ⟨τ, ρ, G, ab, ok⟩ := bindET (k := fun _ d => match d with | .bl b => M.ret b | _ => M.stop) h
  refine ⟨τ, ρ, G, ab, ?_⟩
  cases e : m τ G with
  | stuck => rw [e] at ok; exact ok
  | exn c G' => rw [e] at ok; exact ok
  | ok d G' =>
    rw [e] at ok
    intro v H' ρ' f' ab' r'
    obtain ⟨τ2, ρ2, G2, d2, ab2, r2, ok2⟩ := ok v H' ρ' f' ab' r'
    cases d2 <;> try exact ok2.elim
    rename_i k
    unfold Rep at r2
    exact ⟨k, r2, ok2 H' ρ2 .refl ab2⟩
theorem qt_cmp {op : CmpOp} {f : D → D → M D} (ho : OpR X (compareOp op) (rD X EE f)) (ha : QE X EE a ma) (hb : QE X EE b mb) (hm : behindInMarks op b = false) : QT X EE (.Compare a [op] [b] pos) (tBl (eOp f ma mb)) :=
  PT.mono (pt_cmpR ho ha hb hm) fun σ H Q h => by
    have h1 := bl_lift h
    exact op_lift opD_self h1
theorem op_of {f : D → D → M D} {g : Value → Value → Sem Value} {r : R2} (ho : OpR X g r) (hd : OpD X EE r f) : OpR X g (rD X EE f) := fun pins s σ H x y v u Q I rx ry q => ho pins s σ H x y v u Q I rx ry (rD_of hd q)
theorem op_ltD : OpR X (compareOp .Lt) (rD X EE dLt) := op_of op_lt (opD_int0 fun _ _ _ _ => by unfold Rep; rfl)
theorem op_gtD : OpR X (compareOp .Gt) (rD X EE dGt) := op_of op_gt (opD_int0 fun _ _ _ _ => by unfold Rep; rfl)
noncomputable def eIf (t : DS → M Bool) (ma mb : DS → M D) : DS → M D := fun τ => (t τ).bind fun c => if c then ma τ else mb τ
noncomputable def eNeg (ma : DS → M D) : DS → M D := fun τ => (ma τ).bind fun d => match d with
  | .int i => M.ret (.int (-i))
  | _ => M.stop
theorem qe_neg (ha : QE X EE a ma) : QE X EE (.UnaryOp .USub a pos) (eNeg ma) := PE.mono (pe_un un_neg ha) fun σ H Q h => by
  obtain ⟨τ, ρ, G, ab, ok⟩ := bindEE (k := fun τ d => match d with | .int i => M.ret (.int (-i)) | _ => M.stop) h
  refine ⟨τ, ρ, G, ab, ?_⟩
  cases e : ma τ G with
  | stuck => rw [e] at ok; exact ok
  | exn c G' => rw [e] at ok; exact ok
  | ok k G' =>
    rw [e] at ok
    intro v H' ρ' f' ab' r'
    obtain ⟨τ2, ρ2, G2, d2, ab2, r2, ok2⟩ := ok v H' ρ' f' ab' r'
    cases d2 <;> try exact ok2.elim
    rename_i k
    unfold Rep at r2
    exact ⟨k, r2, ok2 _ H' ρ2 .refl ab2 (by unfold Rep; rfl)⟩
end
end L3
end
section
set_option Elab.async false
set_option linter.all false
set_option maxRecDepth 100000
namespace L3
open PySem PySem.Spec L2
section
variable {X : Cx} {EE : EXK} {a b c : Expr} {ma mb mc : DS → M D} {pos : Pos} {ta tb tc : DS → M Bool} {ms mt : MS}
noncomputable def sSkip : MS := fun τ G => .nx τ G
noncomputable def sSeq (m k : MS) : MS := fun τ G => match m τ G with
  | .nx τ' G' => k τ' G'
  | r => r
theorem qss_nil : QSs X EE [] sSkip := PSs.mono pss_nil fun D σ H ⟨τ, ρ, G, ab, ok⟩ => ok σ H ρ .refl ab
theorem seq_lift {Dd : Ends} {σ : L2.St} {H : Hp} (h : liftS X.K X.mg EE (sSeq ms mt) Dd σ H) : tSeq (liftS X.K X.mg EE ms) (liftS X.K X.mg EE mt) Dd σ H := by
  obtain ⟨τ, ρ, G, ab, ok⟩ := h
  refine ⟨τ, ρ, G, ab, ?_⟩
  dsimp only [sSeq] at ok
  cases e : ms τ G with
  | nx τ' G' => rw [e] at ok; exact fun σ' H' ρ' f ab' => ⟨τ', ρ', G', ab', ok.fut f⟩
  | stuck => rw [e] at ok; exact ok
  | rt d G => rw [e] at ok; exact ok
  | bk τ G => rw [e] at ok; exact ok
  | ct τ G => rw [e] at ok; exact ok
  | xn c τ G => rw [e] at ok; exact ok
theorem qss_cons {st : Stmt} {rest : List Stmt} (h1 : QS X EE st ms) (h2 : QSs X EE rest mt) : QSs X EE (st :: rest) (sSeq ms mt) := PSs.mono (pss_cons h1 h2) fun _ _ _ h => seq_lift h
theorem qss_one {st : Stmt} (h1 : QS X EE st ms) : QSs X EE [st] ms := pss_one h1
noncomputable def sExpr (m : DS → M D) : MS := fun τ => sBind (m τ) (fun _ G => .nx τ G) fun c G => .xn c τ G
noncomputable def sRet (m : DS → M D) : MS := fun τ => sBind (m τ) (fun d G => .rt d G) fun c G => .xn c τ G
noncomputable def sRetN : MS := fun _ G => .rt .non G
noncomputable def sSet (i : Nat) (m : DS → M D) : MS := fun τ => sBind (m τ) (fun d G => .nx (τ.set i (some d)) G) fun c G => .xn c τ G
noncomputable def sIf (t : DS → M Bool) (ma mb : MS) : MS := fun τ => sBind (t τ) (fun c G => if c then ma τ G else mb τ G) fun c G => .xn c τ G
theorem qs_expr (he : QE X EE a ma) (hs : swapsWith a none pos.line X.env = pure false := by rfl) : QS X EE (.Expr a pos) (sExpr ma) := PS.mono (ps_expr he hs) fun D σ H h => by
  obtain ⟨τ, ρ, G, ab, ok⟩ := bindES (k := fun τ d G => .nx τ G) h
  refine ⟨τ, ρ, G, ab, ?_⟩
  cases e : ma τ G with
  | stuck => rw [e] at ok; exact ok
  | exn c G' => rw [e] at ok; exact ok
  | ok d G' =>
    rw [e] at ok
    intro v H' ρ' f' ab' r'
    obtain ⟨τ2, ρ2, G2, d2, ab2, r2, ok2⟩ := ok v H' ρ' f' ab' r'
    exact ok2 σ H' ρ2 .refl ab2
theorem qs_ret (he : QE X EE a ma) : QS X EE (.Return (some a) pos) (sRet ma) := PS.mono (ps_ret he) fun D σ H h => by
  obtain ⟨τ, ρ, G, ab, ok⟩ := bindES (k := fun τ d G => .rt d G) h
  refine ⟨τ, ρ, G, ab, ?_⟩
  cases e : ma τ G with
  | stuck => rw [e] at ok; exact ok
  | exn c G' => rw [e] at ok; exact ok
  | ok d G' =>
    rw [e] at ok
    intro v H' ρ' f' ab' r'
    obtain ⟨τ2, ρ2, G2, d2, ab2, r2, ok2⟩ := ok v H' ρ' f' ab' r'
    exact ok2 v H' ρ2 .refl ab2.hp r2
theorem Ab.set {K : PySem.W.Frag} {mg : Str → Option Value} {σ : L2.St} {H : Hp} {τ : DS} {ρ : List Addr} {G : DH} {i : Nat} {d : D} {v : V} (ab : Ab K mg σ H τ ρ G) (r : Rep K mg ρ H d v) : Ab K mg (σ.set i (some v)) H (τ.set i (some d)) ρ G := ⟨ab.st.set r, ab.hp⟩
theorem qs_set {i : Nat} {x : Str} {pos' : Pos} (hN : X.N.Nodup) (he : QE X EE a ma) (hi : X.N[i]? = some x := by rfl) (hx : Loc X.env.scope x := by first | exact Or.inl rfl | exact Or.inr rfl)
    (hs : swapsWith a (some (.Name x pos')) pos.line X.env = pure false := by rfl) (hf : X.fn x = true ∨ X.env.scope.names.lookup x = some .local := by first | exact .inl rfl | exact .inr rfl | assumption) :
    QS X EE (.Assign [.Name x pos'] a pos) (sSet i ma) := PS.mono (ps_set hN hi hx he hs hf) fun D σ H h => by
  obtain ⟨τ, ρ, G, ab, ok⟩ := bindES (k := fun τ d G => .nx (τ.set i (some d)) G) h
  refine ⟨τ, ρ, G, ab, ?_⟩
  cases e : ma τ G with
  | stuck => rw [e] at ok; exact ok
  | exn c G' => rw [e] at ok; exact ok
  | ok d G' =>
    rw [e] at ok
    intro v H' ρ' f' ab' r'
    obtain ⟨τ2, ρ2, G2, d2, ab2, r2, ok2⟩ := ok v H' ρ' f' ab' r'
    exact ok2 _ H' ρ2 .refl (ab2.set r2)
theorem qs_if {body els : List Stmt} (hc : QT X EE c tc) (ha : QSs X EE body ms) (hb : QSs X EE els mt) : QS X EE (.If c body els pos) (sIf tc ms mt) := PS.mono (ps_if hc ha hb) fun D σ H h => by
  obtain ⟨τ, ρ, G, ab, ok⟩ := bindTS (k := fun τ c G => if c then ms τ G else mt τ G) h
  refine ⟨τ, ρ, G, ab, ?_⟩
  cases e : tc τ G with
  | stuck => rw [e] at ok; exact ok
  | exn c G' => rw [e] at ok; exact ok
  | ok k G' =>
    rw [e] at ok
    intro H' ρ' f' ab'
    obtain ⟨τ2, ρ2, G2, ab2, ok2⟩ := ok H' ρ' f' ab'
    cases k with
    | true => exact ⟨τ2, ρ2, G2, ab2, ok2⟩
    | false => exact ⟨τ2, ρ2, G2, ab2, ok2⟩
noncomputable abbrev TgD := D → DS → Option DS
noncomputable def liftG (K : PySem.W.Frag) (mg : Str → Option Value) (g : TgD) : TG := fun v σ H Q => ∃ τ ρ G d τ', Ab K mg σ H τ ρ G ∧ Rep K mg ρ H d v ∧ g d τ = some τ' ∧ ∀ σ', Ab K mg σ' H τ' ρ G → Q σ' H
noncomputable def QG (X : Cx) (e : Expr) (g : TgD) : Prop := PG X e (liftG X.K X.mg g)
noncomputable def gN (i : Nat) : TgD := fun d τ => some (τ.set i (some d))
theorem qg_name {i : Nat} {x : Str} (hN : X.N.Nodup) (hi : X.N[i]? = some x := by rfl) (hx : Loc X.env.scope x := by first | exact Or.inl rfl | exact Or.inr rfl) (hf : X.fn x = true ∨ X.env.scope.names.lookup x = some .local := by first | exact .inl rfl | exact .inr rfl | assumption) :
    QG X (.Name x pos) (gN i) := fun pins s σ H v u Q I r ⟨τ, ρ, G, d, τ', ab, rd, e, q⟩ => pg_name hN hi hx hf pins s σ H v u Q I r (by
  cases e
  exact q _ (ab.set rd))
noncomputable def forP (g : TgD) (body : MS) : List D → MS
  | [], τ, G => .nx τ G
  | d :: r, τ, G => match g d τ with
    | none => .stuck
    | some τ1 => match body τ1 G with
      | .nx τ' G' => forP g body r τ' G'
      | .ct τ' G' => forP g body r τ' G'
      | .bk τ' G' => .nx τ' G'
      | x => x
noncomputable def forO (g : TgD) (body : MS) (n : Nat) : Nat → Nat → MS
  | 0, _, _, _ => .stuck
  | f + 1, k, τ, G => match G[n]? with
    | some (.lst xs) => match xs[k]? with
      | none => .nx τ G
      | some d => match g d τ with
        | none => .stuck
        | some τ1 => match body τ1 G with
          | .nx τ' G' => forO g body n f (k + 1) τ' G'
          | .ct τ' G' => forO g body n f (k + 1) τ' G'
          | .bk τ' G' => .nx τ' G'
          | x => x
    | _ => .stuck
end
end L3
end
section
set_option Elab.async false
set_option linter.all false
set_option maxRecDepth 100000
namespace L3
open PySem PySem.Spec L2
noncomputable def Its (z : Str) : It := ⟨fun i _ => i < z.cps.size, fun i H x H' => H' = H ∧ ∃ c, z.cps[i]? = some c ∧ x = .str ⟨#[c]⟩, fun i _ => z.cps.size ≤ i⟩
theorem turn_str {P : Program} {w : World} {K : PySem.W.Frag} {tg : Expr} (z : Str) (t : Tok) (it : Addr) : Turn P w K tg (Its z) [it] it (fun i h => h.IsStrIter it (strIterType z) z t i) where
  mem := by simp
  obj := fun i h st b hb => by
    have e : b = it := by simpa using hb
    subst e
    obtain ⟨o, e, c, d⟩ := st
    exact ⟨o, e, fun v z => by rw [d] at z; cases z⟩
  keep := fun i h h' st k => by
    obtain ⟨o, e, r⟩ := st
    exact ⟨o, k it (by simp) o e, r⟩
  item := by
    intro X hP hw hK hc i pins s σ H E I hf st hg
    subst hP hw hK
    obtain ⟨f0, f1, f2, f3, f4, f5⟩ := hf it (by simp)
    have hx : z.cps[i]? = some z.cps[i] := Array.getElem?_eq_getElem hg
    have fin : ∀ h', h'.IsStrIter it (strIterType z) z t (i + 1) → Heap.SameBut it s.heap h' → ∃ u, some (Value.str ⟨#[z.cps[i]]⟩ s.toks) = some u ∧
      wpAny (model X.prog X.w) X.A (letOwnedTupleGo tg (.ref it) u) (fun _ s2 => ∃ x H', Inv X pins σ H' s2 ∧ RelV x u ∧ (Its z).yld i H x H' ∧ s2.heap.IsStrIter it (strIterType z) z t (i + 1) ∧ ∀ b ∈ [it], H' b = none) E { s with heap := h', toks := s.toks + 1 } := fun h' st' sb => by
      have I1 : Inv X pins σ H { s with heap := h', toks := s.toks + 1 } := I.turned (t' := s.toks + 1) (fun b o hb e => (sb.2 b hb).trans e) f0 f1 f3 f4 f5
      obtain ⟨o, e, c, d⟩ := id st'
      refine ⟨_, rfl, go_of (s := { s with heap := h', toks := s.toks + 1 }) e c d ?_ ⟨.str ⟨#[z.cps[i]]⟩, H, I1, ⟨_, rfl⟩, ⟨rfl, _, hx, rfl⟩, st', fun b hb => (hf b hb).1⟩⟩
      unfold strIterType
      split <;> decide
    cases ha : z.cps.all (· < 128) with
    | true =>
      have e : strIterType z = "str_ascii_iterator" := by unfold strIterType; rw [ha]; rfl
      rw [e] at st fin
      exact wpAny_pyNext_ascii_item st hx fun h' st' sb => by rw [e]; exact fin h' st' sb
    | false =>
      have e : strIterType z = "str_iterator" := by unfold strIterType; rw [ha]; rfl
      rw [e] at st fin
      exact wpAny_pyNext_wide_item st hx fun h' st' sb => by rw [e]; exact fin h' st' sb
  done := by
    intro X hP hw hK hc i pins s σ H E I hf st hg
    subst hP hw hK
    obtain ⟨f0, f1, f2, f3, f4, f5⟩ := hf it (by simp)
    have hx : z.cps[i]? = none := Array.getElem?_eq_none hg
    have fin : ∀ h', Heap.ExtBut it s.heap h' → (none : Option Value) = none ∧ Inv X pins σ H { s with heap := h' } := fun h' eb => ⟨rfl, I.turned (t' := s.toks) (fun b o hb e => eb b o hb e) f0 f1 f3 f4 f5⟩
    cases ha : z.cps.all (· < 128) with
    | true =>
      have e : strIterType z = "str_ascii_iterator" := by unfold strIterType; rw [ha]; rfl
      rw [e] at st
      exact wpAny_pyNext_ascii_end (I.ok.hd hc) st hx fin
    | false =>
      have e : strIterType z = "str_iterator" := by unfold strIterType; rw [ha]; rfl
      rw [e] at st
      exact wpAny_pyNext_wide_end (I.ok.hd hc) st hx fin
  self := fun A i s Q E st h => by
    cases ha : z.cps.all (· < 128) with
    | true =>
      have e : strIterType z = "str_ascii_iterator" := by unfold strIterType; rw [ha]; rfl
      rw [e] at st
      exact wpAny_pyIter_striter_ascii st h
    | false =>
      have e : strIterType z = "str_iterator" := by unfold strIterType; rw [ha]; rfl
      rw [e] at st
      exact wpAny_pyIter_striter_wide st h
section
variable {X : Cx} {EE : EXK} {a b c tg : Expr} {ma mb mc : DS → M D} {pos : Pos} {ms mt : MS}
noncomputable def sForIn (g : TgD) (m : DS → M D) (body : MS) : MS := fun τ => sBind (m τ) (fun d G => match d with
  | .obj n => match G[n]? with
    | some (.lst xs) => forO g body n (xs.length + 1) 0 τ G
    | _ => .stuck
  | .tup xs => forP g body xs τ G
  | .con xs => forP g body xs τ G
  | .str z => forP g body (z.cps.toList.map fun c => .str ⟨#[c]⟩) τ G
  | _ => .stuck) fun c G => .xn c τ G
theorem for_items {g : TgD} {body : MS} {Dd : Ends} {J : It} {H0 : Hp} {σ0 : L2.St} {ρ0 : List Addr} {G0 : DH} {τ0 : DS} (ds : List D)
    (go : ∀ i H ρ, i < ds.length → Fut X.K H0 H ρ0 ρ → J.go i H) (stop : ∀ i H ρ, ds.length ≤ i → Fut X.K H0 H ρ0 ρ → J.stop i H)
    (yld : ∀ i d H ρ x H', ds[i]? = some d → Fut X.K H0 H ρ0 ρ → J.yld i H x H' → H' = H ∧ Rep X.K X.mg ρ H d x)
    (ab : Ab X.K X.mg σ0 H0 τ0 ρ0 G0) (ok : OkS X.K X.mg EE H0 ρ0 Dd (forP g body ds τ0 G0)) :
    ∃ W : Nat → Nat → L2.St → Hp → Prop, (∃ m, W 0 m σ0 H0) ∧ ∀ i m σ H, W i m σ H →
      (J.stop i H ∧ Dd.nx σ H) ∨ (J.go i H ∧ ∃ N : L2.St → Hp → Prop, (∀ σ' H', N σ' H' → ∃ m', m' < m ∧ W (i + 1) m' σ' H') ∧ ∀ x H', J.yld i H x H' → liftG X.K X.mg g x σ H' fun σ2 H2 => liftS X.K X.mg EE body { Dd with nx := N, ct := N, bk := Dd.nx } σ2 H2) := by
  refine ⟨fun i m σ H => i ≤ ds.length ∧ m = ds.length - i ∧ ∃ τ ρ G, Ab X.K X.mg σ H τ ρ G ∧ Fut X.K H0 H ρ0 ρ ∧ OkS X.K X.mg EE H ρ Dd (forP g body (ds.drop i) τ G), ⟨ds.length, Nat.zero_le _, rfl, τ0, ρ0, G0, ab, .refl, by simpa using ok⟩, ?_⟩
  rintro i m σ H ⟨hi, rfl, τ, ρ, G, ab, f, ok⟩
  by_cases hlt : i < ds.length
  · refine .inr ⟨go i H ρ hlt f, fun σ' H' => ∃ τ' ρ' G', Ab X.K X.mg σ' H' τ' ρ' G' ∧ Fut X.K H0 H' ρ0 ρ' ∧ OkS X.K X.mg EE H' ρ' Dd (forP g body (ds.drop (i + 1)) τ' G'), fun σ' H' n => ⟨ds.length - (i + 1), by omega, hlt, rfl, n⟩, fun x H' y => ?_⟩
    obtain ⟨rfl, rx⟩ := yld i ds[i] H ρ x H' (List.getElem?_eq_getElem hlt) f y
    rw [List.drop_eq_getElem_cons hlt] at ok
    unfold forP at ok
    cases e : g ds[i] τ with
    | none => rw [e] at ok; exact ok.elim
    | some τ1 =>
      rw [e] at ok
      dsimp only at ok
      refine ⟨τ, ρ, G, ds[i], τ1, ab, rx, e, fun σ' ab' => ⟨τ1, ρ, G, ab', ?_⟩⟩
      cases eb : body τ1 G with
      | stuck => rw [eb] at ok; exact ok
      | nx τ2 G2 => rw [eb] at ok; exact fun σ2 H2 ρ2 f2 ab2 => ⟨τ2, ρ2, G2, ab2, f.trans f2, ok.fut f2⟩
      | ct τ2 G2 => rw [eb] at ok; exact fun σ2 H2 ρ2 f2 ab2 => ⟨τ2, ρ2, G2, ab2, f.trans f2, ok.fut f2⟩
      | bk τ2 G2 => rw [eb] at ok; exact ok
      | rt d G2 => rw [eb] at ok; exact ok
      | xn c τ2 G2 => rw [eb] at ok; exact ok
  · have e : i = ds.length := by omega
    subst e
    refine .inl ⟨stop _ H ρ (Nat.le_refl _) f, ?_⟩
    rw [List.drop_eq_nil_of_le (Nat.le_refl _)] at ok
    exact ok σ H ρ .refl ab
theorem for_obj {g : TgD} {body : MS} {Dd : Ends} {H0 : Hp} {σ0 : L2.St} {ρ0 : List Addr} {G0 : DH} {τ0 : DS} {n : Nat} {p : Addr} {fuel : Nat} (hn : ρ0[n]? = some p)
    (ab : Ab X.K X.mg σ0 H0 τ0 ρ0 G0) (ok : OkS X.K X.mg EE H0 ρ0 Dd (forO g body n fuel 0 τ0 G0)) :
    ∃ W : Nat → Nat → L2.St → Hp → Prop, (∃ m, W 0 m σ0 H0) ∧ ∀ i m σ H, W i m σ H →
      ((Itl X.K p).stop i H ∧ Dd.nx σ H) ∨ ((Itl X.K p).go i H ∧ ∃ N : L2.St → Hp → Prop, (∀ σ' H', N σ' H' → ∃ m', m' < m ∧ W (i + 1) m' σ' H') ∧ ∀ x H', (Itl X.K p).yld i H x H' → liftG X.K X.mg g x σ H' fun σ2 H2 => liftS X.K X.mg EE body { Dd with nx := N, ct := N, bk := Dd.nx } σ2 H2) := by
  refine ⟨fun i m σ H => ∃ τ ρ G, Ab X.K X.mg σ H τ ρ G ∧ Fut X.K H0 H ρ0 ρ ∧ OkS X.K X.mg EE H ρ Dd (forO g body n m i τ G), ⟨fuel, τ0, ρ0, G0, ab, .refl, ok⟩, ?_⟩
  rintro i m σ H ⟨τ, ρ, G, ab, f, ok⟩
  cases m with
  | zero => exact ok.elim
  | succ m =>
    unfold forO at ok
    cases q : G[n]? with
    | none => rw [q] at ok; exact ok.elim
    | some o =>
      cases o with
      | lst ds =>
        rw [q] at ok
        dsimp only at ok
        obtain ⟨p', xs, e1, e2, rs⟩ := ab.hp.lst q
        rw [f.get hn] at e1; cases e1
        cases qd : ds[i]? with
        | none =>
          rw [qd] at ok
          have hl : xs.length ≤ i := by rw [← rs.length]; exact List.getElem?_eq_none_iff.mp qd
          exact .inl ⟨⟨xs, .of e2, hl⟩, ok σ H ρ .refl ab⟩
        | some d =>
          rw [qd] at ok
          dsimp only at ok
          obtain ⟨x0, ex, rx⟩ := rs.get qd
          refine .inr ⟨⟨xs, x0, .of e2, ex⟩, fun σ' H' => ∃ τ' ρ' G', Ab X.K X.mg σ' H' τ' ρ' G' ∧ Fut X.K H0 H' ρ0 ρ' ∧ OkS X.K X.mg EE H' ρ' Dd (forO g body n m (i + 1) τ' G'), fun σ' H' z => ⟨m, Nat.lt_succ_self _, z⟩, fun x H' y => ?_⟩
          obtain ⟨rfl, y⟩ := y
          have e3 := y xs (.of e2)
          rw [ex] at e3; cases e3
          cases e : g d τ with
          | none => rw [e] at ok; exact ok.elim
          | some τ1 =>
            rw [e] at ok
            dsimp only at ok
            refine ⟨τ, ρ, G, d, τ1, ab, rx, e, fun σ' ab' => ⟨τ1, ρ, G, ab', ?_⟩⟩
            cases eb : body τ1 G with
            | stuck => rw [eb] at ok; exact ok
            | nx τ2 G2 => rw [eb] at ok; exact fun σ2 H2 ρ2 f2 ab2 => ⟨τ2, ρ2, G2, ab2, f.trans f2, ok.fut f2⟩
            | ct τ2 G2 => rw [eb] at ok; exact fun σ2 H2 ρ2 f2 ab2 => ⟨τ2, ρ2, G2, ab2, f.trans f2, ok.fut f2⟩
            | bk τ2 G2 => rw [eb] at ok; exact ok
            | rt d G2 => rw [eb] at ok; exact ok
            | xn c τ2 G2 => rw [eb] at ok; exact ok
theorem PI.any {l : Expr} {tl : TE} (hl : PE X l tl) : PI X tg l (fun σ H R => tl σ H fun x H1 => (∃ p, x = .ref p ∧ (∃ xs, SqL X.K H1 p xs) ∧ R (Itl X.K p) H1) ∨ (∃ p, x = .ref p ∧ (∃ xs, SqT X.K H1 p xs) ∧ R (Itt X.K p) H1) ∨ ∃ z, x = .str z ∧ R (Its z) H1) := by
  intro pins s σ H R I h
  refine thn (hl pins s σ H _ I h) fun u s1 ⟨x, H1, I1, r1, q⟩ => ?_
  rcases q with ⟨p, rfl, ⟨xs, sq⟩, q⟩ | ⟨p, rfl, ⟨xs, sq⟩, q⟩ | ⟨z, rfl, q⟩
  · cases r1
    obtain ⟨its, rv, pl, hz⟩ := I1.list sq
    refine wpAny_pyIter_list pl.isList ?_
    have I2 : Inv X pins σ H1 { s1 with heap := s1.heap.push { cls := .type "list_iterator", data := .fields #[.ref p, .int 0 0] } } := I1.kept (t' := s1.toks) fun b o e => Heap.get?_push_of_some _ e
    refine ⟨s1.heap.objs.size, [s1.heap.objs.size], _, Itl X.K p, H1, rfl, I2, turn_list p _, ⟨_, Heap.get?_push_size _ rfl, rfl, rfl⟩, fun b hb => ?_, q⟩
    have e : b = s1.heap.objs.size := by simpa using hb
    subst e
    exact I1.fpOk (Nat.le_refl _) (I1.hok.fresh (Nat.le_refl _))
  · cases r1
    obtain ⟨its, rv, pl, hz⟩ := I1.tuple sq
    refine wpAny_pyIter_tuple pl ?_
    have I2 : Inv X pins σ H1 { s1 with heap := s1.heap.push { cls := .type "tuple_iterator", data := .fields #[.ref p, .int 0 0] } } := I1.kept (t' := s1.toks) fun b o e => Heap.get?_push_of_some _ e
    refine ⟨s1.heap.objs.size, [s1.heap.objs.size], _, Itt X.K p, H1, rfl, I2, turn_tuple p _, ⟨_, Heap.get?_push_size _ rfl, rfl, rfl⟩, fun b hb => ?_, q⟩
    have e : b = s1.heap.objs.size := by simpa using hb
    subst e
    exact I1.fpOk (Nat.le_refl _) (I1.hok.fresh (Nat.le_refl _))
  · obtain ⟨t, rfl⟩ := r1
    refine wpAny_pyIter_strU ?_
    have I2 : Inv X pins σ H1 { s1 with heap := s1.heap.push { cls := .type (strIterType z), data := .fields #[.str z t, .int 0 0] } } := I1.kept (t' := s1.toks) fun b o e => Heap.get?_push_of_some _ e
    refine ⟨s1.heap.objs.size, [s1.heap.objs.size], _, Its z, H1, rfl, I2, turn_str z t _, ⟨_, Heap.get?_push_size _ rfl, rfl, rfl⟩, fun b hb => ?_, q⟩
    have e : b = s1.heap.objs.size := by simpa using hb
    subst e
    exact I1.fpOk (Nat.le_refl _) (I1.hok.fresh (Nat.le_refl _))
theorem qs_for {g : TgD} {body : List Stmt} (hp : PassesOwn (model X.prog X.w) X.A X.env X.xe) (hc : X.calm = true) (ha : QE X EE a ma) (hg : QG X tg g) (hb : QSs X EE body ms) (hs : ∀ x, foldedSetIterable a X.env x = pure x := by intro _; rfl) :
    QS X EE (.For tg a body [] pos) (sForIn g ma ms) := PS.mono (ps_for hp hc (PI.any ha) hg hb hs) fun Dd σ H h => by
  obtain ⟨τ, ρ, G, ab, ok⟩ := bindES (k := fun τ d G => match d with
    | .obj n => match G[n]? with
      | some (.lst xs) => forO g ms n (xs.length + 1) 0 τ G
      | _ => .stuck
    | .tup xs => forP g ms xs τ G
    | .con xs => forP g ms xs τ G
    | .str z => forP g ms (z.cps.toList.map fun c => .str ⟨#[c]⟩) τ G
    | _ => .stuck) h
  refine ⟨τ, ρ, G, ab, ?_⟩
  cases e : ma τ G with
  | stuck => rw [e] at ok; exact ok
  | exn c G' => rw [e] at ok; exact ok
  | ok d G' =>
    rw [e] at ok
    intro v H1 ρ1 f1 ab1 r1
    obtain ⟨τ2, ρ2, G2, d2, ab2, r2, ok2⟩ := ok v H1 ρ1 f1 ab1 r1
    cases d2 <;> try exact ok2.elim
    case obj n =>
      dsimp only at ok2
      unfold Rep at r2
      obtain ⟨p, rfl, e1⟩ := r2
      cases q : G2[n]? with
      | none => rw [q] at ok2; exact ok2.elim
      | some o =>
        cases o with
        | lst xs =>
          rw [q] at ok2
          obtain ⟨p', vs, e2, h2, rs⟩ := ab2.hp.lst q
          rw [e1] at e2; cases e2
          exact .inl ⟨p, rfl, ⟨vs, .of h2⟩, for_obj e1 ab2 ok2⟩
    case tup xs =>
      unfold Rep at r2
      obtain ⟨p, vs, rfl, sq, rs⟩ := r2
      refine .inr (.inl ⟨p, rfl, ⟨vs, sq⟩, for_items xs (fun i H' ρ' hi f => ?_) (fun i H' ρ' hi f => ?_) (fun i d' H' ρ' x H'' hd f y => ?_) ab2 ok2⟩)
      · rw [rs.length] at hi
        exact ⟨vs, vs[i], f.tup _ _ sq, List.getElem?_eq_getElem hi⟩
      · exact ⟨vs, f.tup _ _ sq, by rw [← rs.length]; exact hi⟩
      · obtain ⟨rfl, y⟩ := y
        obtain ⟨w', ew, rw'⟩ := rs.get hd
        have := y vs (f.tup _ _ sq)
        rw [ew] at this; cases this
        exact ⟨rfl, rw'.mono f⟩
    case con xs =>
      unfold Rep at r2
      obtain ⟨p, vs, rfl, sq, rs⟩ := r2
      refine .inl ⟨p, rfl, ⟨vs, sq.seq⟩, for_items xs (fun i H' ρ' hi f => ?_) (fun i H' ρ' hi f => ?_) (fun i d' H' ρ' x H'' hd f y => ?_) ab2 ok2⟩
      · rw [rs.length] at hi
        exact ⟨vs, vs[i], (f.con _ _ sq).seq, List.getElem?_eq_getElem hi⟩
      · exact ⟨vs, (f.con _ _ sq).seq, by rw [← rs.length]; exact hi⟩
      · obtain ⟨rfl, y⟩ := y
        obtain ⟨w', ew, rw'⟩ := rs.get hd
        have := y vs (f.con _ _ sq).seq
        rw [ew] at this; cases this
        exact ⟨rfl, rw'.mono f⟩
    case str z =>
      unfold Rep at r2; subst r2
      refine .inr (.inr ⟨z, rfl, for_items (z.cps.toList.map fun c => .str ⟨#[c]⟩) (fun i H' ρ' hi f => ?_) (fun i H' ρ' hi f => ?_) (fun i d' H' ρ' x H'' hd f y => ?_) ab2 ok2⟩)
      · simpa [Its] using hi
      · simpa [Its] using hi
      · obtain ⟨rfl, c, hc, rfl⟩ := y
        rw [List.getElem?_map] at hd
        have : z.cps.toList[i]? = some c := by simpa using hc
        rw [this] at hd
        cases hd
        exact ⟨rfl, by unfold Rep; rfl⟩
noncomputable def rng1 : List D → Option (List D)
  | [.int j] => if -(2 ^ 62) ≤ j ∧ j < 2 ^ 62 then some ((List.range j.toNat).map fun (k : Nat) => .int (0 + (k : Int))) else none
  | _ => none
noncomputable def sForRng (rng : List D → Option (List D)) (g : TgD) (m : DS → M (List D)) (body : MS) : MS := fun τ => sBind (m τ) (fun ds G => match rng ds with
  | some xs => forP g body xs τ G
  | none => .stuck) fun c G => .xn c τ G
theorem bindAS {K : PySem.W.Frag} {mg : Str → Option Value} {σ : L2.St} {H : Hp} {m : DS → M (List D)} {k : DS → List D → DH → Res} {Dd : Ends} (h : liftS K mg EE (fun τ => sBind (m τ) (k τ) fun c G => .xn c τ G) Dd σ H) :
    liftA K mg EE m σ H fun x H1 => ∃ τ ρ G d, Ab K mg σ H1 τ ρ G ∧ Reps K mg ρ H1 d x ∧ OkS K mg EE H1 ρ Dd (k τ d G) := by
  obtain ⟨τ, ρ, G, ab, ok⟩ := h
  refine ⟨τ, ρ, G, ab, ?_⟩
  dsimp only [sBind] at ok
  cases e : m τ G with
  | stuck => rw [e] at ok; exact ok
  | exn c G' => rw [e] at ok; exact fun H' ρ' f ab' => ok σ H' ρ' f ab'
  | ok d G' => rw [e] at ok; exact fun v H' ρ' f ab' r => ⟨τ, ρ', G', d, ab', r, ok.fut f⟩
theorem rng_items {g : TgD} {body : MS} {Dd : Ends} {H0 : Hp} {σ0 : L2.St} {ρ0 : List Addr} {G0 : DH} {τ0 : DS} (lo : Int) (n : Nat) (ab : Ab X.K X.mg σ0 H0 τ0 ρ0 G0) (ok : OkS X.K X.mg EE H0 ρ0 Dd (forP g body ((List.range n).map fun (k : Nat) => .int (lo + (k : Int))) τ0 G0)) :
    ∃ W : Nat → Nat → L2.St → Hp → Prop, (∃ m, W 0 m σ0 H0) ∧ ∀ i m σ H, W i m σ H →
      ((Itr lo n).stop i H ∧ Dd.nx σ H) ∨ ((Itr lo n).go i H ∧ ∃ N : L2.St → Hp → Prop, (∀ σ' H', N σ' H' → ∃ m', m' < m ∧ W (i + 1) m' σ' H') ∧ ∀ x H', (Itr lo n).yld i H x H' → liftG X.K X.mg g x σ H' fun σ2 H2 => liftS X.K X.mg EE body { Dd with nx := N, ct := N, bk := Dd.nx } σ2 H2) :=
  for_items (J := Itr lo n) _ (fun i H ρ hi f => by simpa [Itr] using hi) (fun i H ρ hi f => by simpa [Itr] using hi) (fun i d H ρ x H' hd f y => by
    obtain ⟨rfl, rfl⟩ := y
    rw [List.getElem?_map] at hd
    cases q : (List.range n)[i]? with
    | none => rw [q] at hd; cases hd
    | some k =>
      rw [q] at hd
      obtain ⟨hk, e⟩ := List.getElem?_eq_some_iff.mp q
      rw [List.getElem_range] at e
      subst e
      cases hd
      exact ⟨rfl, by unfold Rep; rfl⟩) ab ok
theorem qs_forR1 {g : TgD} {m : DS → M (List D)} {body : List Stmt} {p pc : Pos} (hp : PassesOwn (model X.prog X.w) X.A X.env X.xe) (hc : X.calm = true) (hm : X.mg "range" = none) (ha : QA X EE [a] m) (hg : QG X tg g) (hb : QSs X EE body ms)
    (hgl : Gl X "range" := by rfl) (hst : starEach [a] X.env = [(false, eval a X.env)] := by rfl) (hs : ∀ x, foldedSetIterable (.Call (.Name "range" p) [a] [] pc) X.env x = pure x := by intro _; rfl) :
    QS X EE (.For tg (.Call (.Name "range" p) [a] [] pc) body [] pos) (sForRng rng1 g m ms) := PS.mono (ps_for hp hc (pi_range1 hgl hm ha hst) hg hb hs) fun Dd σ H h => by
  obtain ⟨τ, ρ, G, ab, ok⟩ := bindAS (k := fun τ ds G => match rng1 ds with | some xs => forP g ms xs τ G | none => .stuck) h
  refine ⟨τ, ρ, G, ab, ?_⟩
  cases e : m τ G with
  | stuck => rw [e] at ok; exact ok
  | exn c G' => rw [e] at ok; exact ok
  | ok ds G' =>
    rw [e] at ok
    intro vs H1 ρ1 f1 ab1 r1
    obtain ⟨τ2, ρ2, G2, d2, ab2, r2, ok2⟩ := ok vs H1 ρ1 f1 ab1 r1
    cases q : rng1 d2 with
    | none => rw [q] at ok2; exact ok2.elim
    | some xs =>
      rw [q] at ok2
      unfold rng1 at q
      split at q
      · rename_i j
        split at q
        · rename_i hj
          cases q
          unfold Reps at r2
          obtain ⟨v, r, rfl, h1, h2⟩ := r2
          unfold Reps at h2; subst h2
          unfold Rep at h1; subst h1
          exact ⟨j, rfl, hj.1, hj.2, rng_items 0 j.toNat ab2 ok2⟩
        · cases q
      · cases q
end
end L3
end
section
set_option Elab.async false
set_option linter.all false
set_option maxRecDepth 100000
namespace L3
open PySem PySem.Spec L2
noncomputable def OkC (K : PySem.W.Frag) (mg : Str → Option Value) (H : Hp) (ρ : List Addr) : Out D → VK → XK → Prop
  | .stuck, _, _ => False
  | .ok d G', Q, _ => ∀ v H' ρ', Fut K H H' ρ ρ' → HAb K mg H' ρ' G' → Rep K mg ρ' H' d v → Q v H'
  | .exn c G', _, E => ∀ cls H' ρ', (match c with | .mk n _ => mg n = some cls) → Fut K H H' ρ ρ' → HAb K mg H' ρ' G' → E cls none H'
noncomputable def spOf (K : PySem.W.Frag) (mg : Str → Option Value) (n : Nat) (m : List D → M D) : Sp := fun vs H Q E => ∃ ds ρ G, ds.length = n ∧ HAb K mg H ρ G ∧ Reps K mg ρ H ds vs ∧ OkC K mg H ρ (m ds G) Q E
theorem spOf.len {K : PySem.W.Frag} {mg : Str → Option Value} {n : Nat} {m : List D → M D} {vs : List V} {H : Hp} {Q : VK} {E : XK} (h : spOf K mg n m vs H Q E) : vs.length = n := by
  obtain ⟨ds, ρ, G, e, _, r, _⟩ := h
  rw [← r.length, e]
noncomputable def EEs (mg : Str → Option Value) (EE : EXK) (σ : L2.St) : XK := fun cls _ H' => ∃ c, (match c with | .mk n _ => mg n = some cls) ∧ EE c σ H'
noncomputable def Lnk (CX : CXT) (X : Cx) (EE : EXK) : Prop := ∀ (pins : List (Addr × Obj)) (σ : L2.St) (H : Hp) (s : Shared) (e : Value) (s' : Shared), Inv X pins σ H s → CX X.stack H s (EEs X.mg EE σ) e s' → X.xe e s'
section
variable {X : Cx} {CX : CXT} {EE : EXK} {k n : Nat} {f : Addr} {fd : FuncData} {ps : List Str} {mf : List D → M D} {x : Str} {p pos : Pos} {e : Expr} {es : List Expr} {m : DS → M (List D)}
theorem HAb.ab {K : PySem.W.Frag} {mg : Str → Option Value} {σ : L2.St} {H H' : Hp} {τ : DS} {ρ ρ' : List Addr} {G G' : DH} (ab : Ab K mg σ H τ ρ G) (f : Fut K H H' ρ ρ') (h : HAb K mg H' ρ' G') : Ab K mg σ H' τ ρ' G' := ⟨ab.st.mono f, h⟩
theorem run_fnD {pins : List (Addr × Obj)} {σ : L2.St} {H : Hp} {s : Shared} {Q : VK} {us : List Value} {vs : List V} {τ : DS} {ρ : List Addr} {G : DH} {ds : List D} (F : FnOk X.prog X.w X.K X.mg X.base CX k f fd ps (spOf X.K X.mg n mf)) (hr : Room k X.A) (hb : Binds X.K fd ps [])
    (hx : Lnk CX X EE) (I : Inv X pins σ H s) (r : Vals vs us) (ab : Ab X.K X.mg σ H τ ρ G) (rs : Reps X.K X.mg ρ H ds vs) (hn : ds.length = n) (ok : OkE X.K X.mg EE H σ τ ρ (mf ds G) Q) : wpAny (model X.prog X.w) X.A (call (.ref f) us) (EP X pins σ Q) X.xe s := by
  have h : spOf X.K X.mg n mf vs H Q (EEs X.mg EE σ) := by
    refine ⟨ds, ρ, G, hn, ab.hp, rs, ?_⟩
    cases q : mf ds G with
    | stuck => rw [q] at ok; exact ok
    | ok d G' => rw [q] at ok; exact fun v H' ρ' f hp r => ok v H' ρ' f (HAb.ab ab f hp) r
    | exn c G' => rw [q] at ok; exact fun cls H' ρ' hc f hp => ⟨c, hc, ok H' ρ' f (HAb.ab ab f hp)⟩
  have hl : (us ++ []).length = ps.length := by rw [List.append_nil, ← r.length]; exact F.len _ _ _ _ h
  have hbb := hb s us I.kIn hl
  rw [List.append_nil] at hbb
  refine wpAny_call (codeAny_mono (F.run X.A X.stack s H ⟨us, []⟩ us vs Q (EEs X.mg EE σ) hr I.env0 hbb r h) fun r s' hq => ?_)
  cases r with
  | error e => exact hx pins σ H s e s' I hq
  | ok fl =>
    cases fl with
    | ret u => exact I.after hq
    | next => exact False.elim hq
    | brk => exact False.elim hq
    | cont => exact False.elim hq
noncomputable def eCall (n : Nat) (mf : List D → M D) (m : DS → M (List D)) : DS → M D := eArgs (fun ds => if ds.length = n then mf ds else M.stop) m
theorem qe_call (F : FnOk X.prog X.w X.K X.mg X.base CX k f fd ps (spOf X.K X.mg n mf)) (hr : Room k X.A) (hm : X.mg x = some (.ref f)) (hk : PySem.W.keepIn X.K (.ref f) = true) (hb : Binds X.K fd ps []) (hx : Lnk CX X EE)
    (ha : QA X EE (e :: es) m) (hg : Gl X x := by rfl) (hdb : (x == ("__debug__" : Str)) = false := by decide) (he : starEach (e :: es) X.env = (false, eval e X.env) :: starEach es X.env := by rfl) (hpl : (backTo pos (starEach es X.env)).any (·.1) = false := by rfl) :
    QE X EE (.Call (.Name x p) (e :: es) [] pos) (eCall n mf m) := by
  intro pins s σ H Q I h
  obtain ⟨τ, ρ, G, ab, ok⟩ := bindAE (k := fun _ ds => if ds.length = n then mf ds else M.stop) h
  refine wpAny_Call_Name_kw (ld_glob I hg hm ?_ hdb)
  refine PySem.W.callWith_K (h₀ := X.base) I.ok.mod.kin hk (thn (ha pos pins s σ H _ I ⟨τ, ρ, G, ab, ok⟩) fun us s1 ⟨vs, H1, I1, r, q⟩ => ⟨I1.kIn, ?_⟩) he hpl
  obtain ⟨τ1, ρ1, G1, ds, ab1, rs, ok1⟩ := q
  by_cases hn : ds.length = n
  · rw [if_pos hn] at ok1
    exact run_fnD F hr hb hx I1 r ab1 rs hn ok1
  · rw [if_neg hn] at ok1
    exact ok1.elim
theorem qe_call0 (F : FnOk X.prog X.w X.K X.mg X.base CX k f fd ps (spOf X.K X.mg 0 mf)) (hr : Room k X.A) (hm : X.mg x = some (.ref f)) (hk : PySem.W.keepIn X.K (.ref f) = true) (hb : Binds X.K fd ps []) (hx : Lnk CX X EE)
    (hg : Gl X x := by rfl) (hdb : (x == ("__debug__" : Str)) = false := by decide) : QE X EE (.Call (.Name x p) [] [] pos) (eCall 0 mf aNil) := by
  intro pins s σ H Q I h
  obtain ⟨τ, ρ, G, ab, ok⟩ := h
  refine wpAny_Call_Name_kw (ld_glob I hg hm ?_ hdb)
  exact PySem.W.callWith_K0 I.kIn hk (run_fnD (us := []) (ds := []) F hr hb hx I .nil ab .nil rfl ok)
end
noncomputable def runB (N : Nat) (ms : MS) (ds : List D) : M D := fun G => match ms (ds.map some ++ List.replicate (N - ds.length) none) G with
  | .stuck => .stuck
  | .nx _ G' => .ok .non G'
  | .rt d G' => .ok d G'
  | .bk _ _ => .stuck
  | .ct _ _ => .stuck
  | .xn c _ G' => .exn c G'
theorem srep_start {K : PySem.W.Frag} {mg : Str → Option Value} {H : Hp} {ρ : List Addr} {ds : List D} {vs : List V} {N : List Str} (r : Reps K mg ρ H ds vs) : SRep K mg H ρ (L2.start N vs) (ds.map some ++ List.replicate (N.length - ds.length) none) := by
  have hl := r.length
  refine ⟨by unfold L2.start; simp [hl], fun i d e => ?_⟩
  have hi : i < ds.length := by
    by_cases hi : i < ds.length
    · exact hi
    · rw [List.getElem?_append_right (by simpa using hi), List.getElem?_replicate] at e
      split at e <;> cases e
  rw [List.getElem?_append_left (by simpa using hi), List.getElem?_map] at e
  cases q : ds[i]? with
  | none => rw [q] at e; cases e
  | some d' =>
    rw [q] at e; cases e
    obtain ⟨v, e1, r1⟩ := r.get q
    refine ⟨v, ?_, r1⟩
    unfold L2.start
    rw [List.getElem?_append_left (by simp; omega), List.getElem?_map, e1]
    rfl
noncomputable abbrev EE0 : EXK := fun _ _ _ => False
section
variable {P : Program} {w : World} {K : PySem.W.Frag} {mg : Str → Option Value} {base : Heap} {f : Addr} {fd : FuncData}
end
end L3
end
section
set_option Elab.async false
set_option linter.all false
set_option maxRecDepth 100000
namespace L3
open PySem PySem.Spec L2
section
variable {X : Cx} {EE : EXK} {a b c : Expr} {ma mb mc : DS → M D} {pos : Pos}
noncomputable def rCD (X : Cx) (EE : EXK) (f : List D → M D) : List V → Hp → VK → Prop := fun xs H Q => ∃ σ τ ρ G ds, Ab X.K X.mg σ H τ ρ G ∧ Reps X.K X.mg ρ H ds xs ∧ OkE X.K X.mg EE H σ τ ρ (f ds G) Q
theorem callD_self {f : List D → M D} : CallD X EE (rCD X EE f) f := fun σ H τ ρ G xs ds Q ab r ok => ⟨σ, τ, ρ, G, ds, ab, r, ok⟩
theorem reps1 {K : PySem.W.Frag} {mg : Str → Option Value} {ρ : List Addr} {H : Hp} {d : D} {xs : List V} (r : Reps K mg ρ H [d] xs) : ∃ x, xs = [x] ∧ Rep K mg ρ H d x := by
  unfold Reps at r
  obtain ⟨v, r', rfl, h1, h2⟩ := r
  unfold Reps at h2; subst h2
  exact ⟨v, rfl, h1⟩
theorem reps2 {K : PySem.W.Frag} {mg : Str → Option Value} {ρ : List Addr} {H : Hp} {d e : D} {xs : List V} (r : Reps K mg ρ H [d, e] xs) : ∃ x y, xs = [x, y] ∧ Rep K mg ρ H d x ∧ Rep K mg ρ H e y := by
  unfold Reps at r
  obtain ⟨v, r', rfl, h1, h2⟩ := r
  obtain ⟨y, rfl, h3⟩ := reps1 h2
  exact ⟨v, y, rfl, h1, h3⟩
noncomputable def dLen : List D → M D
  | [d] => fun G => match seqOf G d with
    | some (.lst xs) => .ok (.int xs.length) G
    | some (.tup xs) => .ok (.int xs.length) G
    | some (.str z) => if z.length ≤ sizeLine then .ok (.int z.length) G else .stuck
    | none => .stuck
  | _ => M.stop
theorem call_lenD : CallR X (.builtin "len") (rCD X EE dLen) := by
  intro pins s σ0 H xs us Q I r ⟨σ, τ, ρ, G, ds, ab, rs, ok⟩
  match ds, ok with
  | [], ok => exact ok.elim
  | _ :: _ :: _, ok => exact ok.elim
  | [d], ok =>
    obtain ⟨x, rfl, rx⟩ := reps1 rs
    dsimp only [dLen] at ok
    cases q : seqOf G d with
    | none => rw [q] at ok; exact ok.elim
    | some sk =>
      rw [q] at ok
      cases sk with
      | lst zs =>
        obtain ⟨p, vs, rfl, sq, rv⟩ := seqOf_lst (pins := pins) (σ0 := σ0) (s := s) ab.hp rx q
        exact call_len_seq pins s σ0 H _ us Q I r ⟨p, vs, rfl, .inl sq, ok _ H ρ .refl ab (by unfold Rep; rw [rv.length])⟩
      | tup zs =>
        obtain ⟨p, vs, rfl, sq, rv⟩ := seqOf_tup rx q
        exact call_len_seq pins s σ0 H _ us Q I r ⟨p, vs, rfl, .inr sq, ok _ H ρ .refl ab (by unfold Rep; rw [rv.length])⟩
      | str z =>
        obtain ⟨rfl, rfl⟩ := seqOf_str rx q
        dsimp only at ok
        by_cases hz : z.length ≤ sizeLine
        · rw [if_pos hz] at ok
          exact call_len_str pins s σ0 H _ us Q I r ⟨z, rfl, hz, ok _ H ρ .refl ab (by unfold Rep; rfl)⟩
        · rw [if_neg hz] at ok; exact ok.elim
inductive Ty where
  | non | bl | int | str | tup | lst | dct
  deriving DecidableEq
noncomputable def Ty.nm : Ty → String
  | .non => "NoneType" | .bl => "bool" | .int => "int" | .str => "str" | .tup => "tuple" | .lst => "list" | .dct => "dict"
noncomputable def tyD (G : DH) : D → Option Ty
  | .non => some .non
  | .bl _ => some .bl
  | .int _ => some .int
  | .str _ => some .str
  | .tup _ => some .tup
  | .con _ => some .lst
  | .obj n => match G[n]? with
    | some (.lst _) => some .lst
    | _ => none
  | .fn _ => none
  | .exo _ _ => none
noncomputable def Ty.is (t c : Ty) : Bool := decide (t = c) || (decide (t = .bl) && decide (c = .int))
theorem kit_ty (K : PySem.W.Frag) : ∀ (t c : Ty), c ≠ .non → PySem.W.kitOne K (.type t.nm) (.type c.nm) = some (t.is c) := by
  intro t c h
  cases t <;> cases c <;> first | exact absurd rfl h | rfl | (with_unfolding_all rfl) | decide +kernel
noncomputable def dIsi (c : Ty) (d : D) : M D := fun G => match tyD G d with
  | some t => .ok (.bl (t.is c)) G
  | none => .stuck
noncomputable def eIsi (c : Ty) (m : DS → M D) : DS → M D := fun τ => (m τ).bind (dIsi c)
theorem isi_run {c : Ty} (hc : c ≠ .non) {pins : List (Addr × Obj)} {s : Shared} {σ0 σ : L2.St} {H : Hp} {τ : DS} {ρ : List Addr} {G : DH} {d : D} {x : V} {u : Value} {Q : VK} (I : Inv X pins σ0 H s) (ab : Ab X.K X.mg σ H τ ρ G) (rx : Rep X.K X.mg ρ H d x) (ru : RelV x u)
    (ok : OkE X.K X.mg EE H σ τ ρ (dIsi c d G) Q) : wpAny (model X.prog X.w) X.A (call (.builtin "isinstance") [u, .type c.nm]) (EP X pins σ0 Q) X.xe s := by
  dsimp only [dIsi] at ok
  have fin : ∀ {b : Bool}, Q (.bl b) H → ∀ tk, EP X pins σ0 Q (.bool b) { s with toks := tk } := fun q tk => ⟨.bl _, H, I.tok tk, rfl, q⟩
  cases d with
  | non =>
    have q := ok (.bl _) H ρ .refl ab (by unfold Rep; rfl)
    unfold Rep at rx; subst rx; cases ru
    exact PySem.W.kia_one PySem.W.kitx_none I.kIn True.intro (kit_ty X.K .non c hc) (fun z => nomatch z) (fin q)
  | bl y =>
    have q := ok (.bl _) H ρ .refl ab (by unfold Rep; rfl)
    unfold Rep at rx; subst rx; cases ru
    exact PySem.W.kia_one PySem.W.kitx_bool I.kIn True.intro (kit_ty X.K .bl c hc) (fun z => nomatch z) (fin q)
  | int y =>
    have q := ok (.bl _) H ρ .refl ab (by unfold Rep; rfl)
    unfold Rep at rx; subst rx; obtain ⟨t, rfl⟩ := ru
    exact PySem.W.kia_one PySem.W.kitx_int I.kIn True.intro (kit_ty X.K .int c hc) (fun z => nomatch z) (fin q)
  | str y =>
    have q := ok (.bl _) H ρ .refl ab (by unfold Rep; rfl)
    unfold Rep at rx; subst rx; obtain ⟨t, rfl⟩ := ru
    exact PySem.W.kia_one PySem.W.kitx_str I.kIn True.intro (kit_ty X.K .str c hc) (fun z => nomatch z) (fin q)
  | tup ys =>
    have q := ok (.bl _) H ρ .refl ab (by unfold Rep; rfl)
    unfold Rep at rx
    obtain ⟨p, vs, rfl, sq, _⟩ := rx
    cases ru
    obtain ⟨its, _, ⟨o, h1, h2, _⟩, _⟩ := I.tuple sq
    exact PySem.W.kia_one PySem.W.kitx_tuple I.kIn ⟨o, h1, h2⟩ (kit_ty X.K .tup c hc) (fun z => nomatch z) (fin q)
  | con ys =>
    have q := ok (.bl _) H ρ .refl ab (by unfold Rep; rfl)
    unfold Rep at rx
    obtain ⟨p, vs, rfl, sq, _⟩ := rx
    cases ru
    obtain ⟨its, _, ⟨o, k, h1, h2, _⟩, _⟩ := I.list sq.seq
    exact PySem.W.kia_one PySem.W.kitx_list I.kIn ⟨o, h1, h2⟩ (kit_ty X.K .lst c hc) (fun z => nomatch z) (fin q)
  | obj n =>
    unfold Rep at rx
    obtain ⟨p, rfl, e1⟩ := rx
    cases ru
    dsimp only [tyD] at ok
    cases g : G[n]? with
    | none => rw [g] at ok; exact ok.elim
    | some o =>
      cases o with
      | lst ys =>
        rw [g] at ok
        have q := ok (.bl _) H ρ .refl ab (by unfold Rep; rfl)
        obtain ⟨p', vs, e2, hp, _⟩ := ab.hp.lst g
        rw [e1] at e2; cases e2
        obtain ⟨its, _, ⟨o, k, h1, h2, _⟩, _⟩ := I.list (.of hp)
        exact PySem.W.kia_one PySem.W.kitx_list I.kIn ⟨o, h1, h2⟩ (kit_ty X.K .lst c hc) (fun z => nomatch z) (fin q)
  | exo _ _ => exact ok.elim
  | fn x => exact ok.elim
theorem qe_isi (c : Ty) {p pt : Pos} {x : Str} (hc : c ≠ .non) (hm : X.mg "isinstance" = none) (hmt : X.mg x = none) (ha : QE X EE a ma) (hb : bootBuiltins x = some (.type c.nm))
    (hg : Gl X "isinstance" := by rfl) (hgt : Gl X x := by rfl) (hnt : x ≠ "__name__" := by decide) (hdt : (x == ("__debug__" : Str)) = false := by decide)
    (he : starEach [a, .Name x pt] X.env = (false, eval a X.env) :: starEach [.Name x pt] X.env := by rfl) (he2 : starEach [.Name x pt] X.env = (false, eval (.Name x pt) X.env) :: starEach [] X.env := by rfl) (hpl : (backTo pos (starEach [.Name x pt] X.env)).any (·.1) = false := by rfl)
    (hbi : bootBuiltins "isinstance" = some (.builtin "isinstance") := by first | exact PyProof.Rows.boot_isinstance | decide +kernel) :
    QE X EE (.Call (.Name "isinstance" p) [a, .Name x pt] [] pos) (eIsi c ma) := by
  have hT : PE X (.Name x pt) (tC (.ty c.nm)) := pe_bltn hgt hmt hb rfl hnt hdt
  have hA : PA X [a, .Name x pt] (tCons (liftE X.K X.mg EE ma) (tCons (tC (.ty c.nm)) tNil)) := pa_cons ha (pa_cons hT pa_nil he2) he
  intro pins s σ H Q I h
  obtain ⟨τ, ρ, G, ab, ok⟩ := bindEE (k := fun _ d => dIsi c d) h
  refine wpAny_Call_Name_kw (ld_blt I hg hm hbi ?_ (by decide) (by decide))
  refine PyProof.Rows.callWith_builtin1 (thn (hA pos pins s σ H (fun vs H1 => ∃ x, vs = [x, .ty c.nm] ∧ ∃ τ ρ G d, Ab X.K X.mg σ H1 τ ρ G ∧ Rep X.K X.mg ρ H1 d x ∧ OkE X.K X.mg EE H1 σ τ ρ (dIsi c d G) Q) I ⟨τ, ρ, G, ab, ?_⟩) fun us s1 ⟨vs, H1, I1, r1, q1⟩ => ?_) he hpl
  · cases e : ma τ G with
    | stuck => rw [e] at ok; exact ok
    | exn c G' => rw [e] at ok; exact ok
    | ok d G' => rw [e] at ok; exact fun v H' ρ' f' ab' r' => ⟨v, rfl, ok v H' ρ' f' ab' r'⟩
  · obtain ⟨y, rfl, τ2, ρ2, G2, d, ab2, rd, ok2⟩ := q1
    cases r1 with
    | cons ry rr =>
      cases rr with
      | cons rt rr =>
        cases rr
        cases rt
        exact isi_run hc I1 ab2 rd ry ok2
end
end L3
end
section
set_option Elab.async false
set_option linter.all false
set_option maxRecDepth 100000
namespace L3
open PySem PySem.Spec L2
section
variable {X : Cx} {EE : EXK} {a b c : Expr} {ma mb mc : DS → M D} {pos : Pos}
noncomputable def blsOf : List D → Option (List Bool)
  | [] => some []
  | .bl b :: r => (blsOf r).map (b :: ·)
  | _ :: _ => none
noncomputable def dAll (any : Bool) : List D → M D
  | [d] => fun G => match seqOf G d with
    | some (.lst xs) => match blsOf xs with
      | some bs => .ok (.bl (if any then bs.any id else bs.all id)) G
      | none => .stuck
    | _ => .stuck
  | _ => M.stop
theorem blsOf_are {K : PySem.W.Frag} {mg : Str → Option Value} {ρ : List Addr} {H : Hp} : ∀ {ds : List D} {vs : List V} {us : List Value} {bs : List Bool}, Reps K mg ρ H ds vs → Vals vs us → blsOf ds = some bs → us = bs.map Value.bool
  | [], vs, us, bs, r, v, e => by unfold Reps at r; subst r; cases v; cases e; rfl
  | d :: ds, vs, us, bs, r, v, e => by
    unfold Reps at r
    obtain ⟨x, r', rfl, h1, h2⟩ := r
    cases v with
    | cons v1 v2 =>
      cases d <;> try (cases e; done)
      rename_i b
      dsimp only [blsOf] at e
      cases q : blsOf ds with
      | none => rw [q] at e; cases e
      | some bs' =>
        rw [q] at e; cases e
        unfold Rep at h1; subst h1; cases v1
        rw [blsOf_are h2 v2 q]; rfl
theorem kept_iterD {s : Shared} {h' : Heap} {o : Obj} (hk : ∀ b x, b ∉ [s.heap.objs.size] → (s.heap.push o).get? b = some x → h'.get? b = some x) : ∀ b x, s.heap.get? b = some x → h'.get? b = some x :=
  fun b x e => hk b x (fun hm => by rw [List.mem_singleton.mp hm] at e; exact Nat.lt_irrefl _ (Heap.lt_size e)) (Heap.get?_push_of_some _ e)
theorem range_allD (bs : List Bool) : ((List.range bs.length).all fun i => (bs[i]?).getD true) = bs.all id := by
  rw [Bool.eq_iff_iff, List.all_eq_true, List.all_eq_true]
  constructor
  · intro h b hb
    obtain ⟨i, hi, rfl⟩ := List.getElem_of_mem hb
    have := h i (List.mem_range.mpr hi)
    simpa [List.getElem?_eq_getElem hi] using this
  · intro h i hi
    have hi' := List.mem_range.mp hi
    simp only [List.getElem?_eq_getElem hi', Option.getD_some]
    exact h _ (List.getElem_mem hi')
theorem call_allD (hc : X.calm = true) : CallR X (.builtin "all") (rCD X EE (dAll false)) := by
  intro pins s σ0 H xs us Q I r ⟨σ, τ, ρ, G, ds, ab, rs, ok⟩
  match ds, ok with
  | [], ok => exact ok.elim
  | _ :: _ :: _, ok => exact ok.elim
  | [d], ok =>
    obtain ⟨x, rfl, rx⟩ := reps1 rs
    obtain ⟨u, rfl, ru⟩ := vals1 r
    dsimp only [dAll] at ok
    cases q : seqOf G d with
    | none => rw [q] at ok; exact ok.elim
    | some sk =>
      rw [q] at ok
      cases sk with
      | tup zs => exact ok.elim
      | str z => exact ok.elim
      | lst zs =>
        dsimp only at ok
        cases qb : blsOf zs with
        | none => rw [qb] at ok; exact ok.elim
        | some bs =>
          rw [qb] at ok
          obtain ⟨p, vs, rfl, sq, rv⟩ := seqOf_lst (pins := pins) (σ0 := σ0) (s := s) ab.hp rx q
          cases ru
          obtain ⟨its, vv, pl, hz⟩ := I.list sq
          have e := blsOf_are rv vv qb
          subst e
          have hl := pl.isList
          have hlt : p < s.heap.objs.size := by obtain ⟨_, e, _⟩ := hl; exact Heap.lt_size e
          refine call_all_walk (wpAny_pyIter_list hl ?_)
          refine ⟨s.heap.objs.size, [s.heap.objs.size, p], [s.heap.objs.size], (bs.map Value.bool).toArray.size, _, _, fun i => (bs[i]?).getD true, rfl, Walks.list (A := X.A.in1) (I.ok.hd hc) _ p (Nat.ne_of_lt hlt) _,
            ⟨⟨_, Heap.get?_push_size _ rfl, rfl, rfl⟩, hl.push _⟩, fun i v s' Q' E' hP hQ => ?_, fun h' tk hk => ?_⟩
          · have hP' : (bs.map Value.bool)[i]? = some v := by simpa using hP
            rw [List.getElem?_map] at hP'
            cases qi : bs[i]? with
            | none => rw [qi] at hP'; cases hP'
            | some k =>
              rw [qi] at hP'; cases hP'
              simp only [qi, Option.getD_some] at hQ
              exact wpAny_truthy_bool hQ
          · rw [show (bs.map Value.bool).toArray.size = bs.length by simp, range_allD]
            exact ⟨.bl _, H, I.kept (t' := tk) (kept_iterD hk), rfl, ok _ H ρ .refl ab (by unfold Rep; rfl)⟩
noncomputable def dInt2L (g : Int → Int → Int) : List D → M D
  | [.int i, .int j] => M.ret (.int (g i j))
  | _ => M.stop
theorem int2L_of {g : Int → Int → Int} {ds : List D} {G : DH} {σ : L2.St} {H : Hp} {τ : DS} {ρ : List Addr} {Q : VK} (ok : OkE X.K X.mg EE H σ τ ρ (dInt2L g ds G) Q) : ∃ i j, ds = [.int i, .int j] ∧ OkE X.K X.mg EE H σ τ ρ (.ok (.int (g i j)) G) Q := by
  unfold dInt2L at ok
  split at ok
  · exact ⟨_, _, rfl, ok⟩
  · exact ok.elim
theorem call_maxD (hc : X.calm = true) : CallR X (.builtin "max") (rCD X EE (dInt2L fun i j => if j > i then j else i)) := by
  intro pins s σ0 H xs us Q I r ⟨σ, τ, ρ, G, ds, ab, rs, ok⟩
  obtain ⟨i, j, rfl, ok⟩ := int2L_of ok
  obtain ⟨x, y, rfl, r1, r2⟩ := reps2 rs
  unfold Rep at r1 r2; subst r1 r2
  exact call_max2 hc pins s σ0 H _ us Q I r ⟨i, j, rfl, ok _ H ρ .refl ab (by unfold Rep; rfl)⟩
noncomputable def rMD (X : Cx) (EE : EXK) (f : D → List D → M D) : V → List V → Hp → VK → Prop := fun x xs H Q => ∃ σ τ ρ G d ds, Ab X.K X.mg σ H τ ρ G ∧ Rep X.K X.mg ρ H d x ∧ Reps X.K X.mg ρ H ds xs ∧ OkE X.K X.mg EE H σ τ ρ (f d ds G) Q
noncomputable def kindOk (T : String) (G : DH) : D → Bool
  | .str _ => T == "str"
  | .int _ => T == "int"
  | .con _ => T == "list"
  | .obj n => match G[n]? with
    | some (.lst _) => T == "list"
    | _ => false
  | _ => false
theorem kindOk_is {T : String} {σ : L2.St} {H : Hp} {τ : DS} {ρ : List Addr} {G : DH} {d : D} {x : V} (ab : Ab X.K X.mg σ H τ ρ G) (r : Rep X.K X.mg ρ H d x) (h : kindOk T G d = true) : tyV X.K T x H := by
  cases d with
  | str z => unfold Rep at r; subst r; exact eq_of_beq h
  | int z => unfold Rep at r; subst r; exact eq_of_beq h
  | con zs =>
    unfold Rep at r
    obtain ⟨p, vs, rfl, sq, _⟩ := r
    exact .inl ⟨eq_of_beq h, vs, sq.seq⟩
  | obj n =>
    unfold Rep at r
    obtain ⟨p, rfl, e1⟩ := r
    dsimp only [kindOk] at h
    cases g : G[n]? with
    | none => rw [g] at h; cases h
    | some o =>
      cases o with
      | lst ys =>
        rw [g] at h
        obtain ⟨p', vs, e2, hp, _⟩ := ab.hp.lst g
        rw [e1] at e2; cases e2
        exact .inl ⟨eq_of_beq h, vs, .of hp⟩
  | _ => cases h
noncomputable def eMethT (T : String) (f : D → List D → M D) (mo : DS → M D) (m : DS → M (List D)) : DS → M D := fun τ => (mo τ).bind fun d G => if kindOk T G d then (m τ).bind (fun ds => f d ds) G else .stuck
theorem qe_bm {o e : Expr} {es : List Expr} {name : Str} {apos cpos : Pos} {T id : String} {f : D → List D → M D} {mo : DS → M D} {m : DS → M (List D)} (pa : PlainAttrs T) (slot : Slot T name id) (hty : typeOf (.builtin id) = pure (.type "method_descriptor")) (hm : MtR X id (rMD X EE f)) (ho : QE X EE o mo) (ha : QA X EE (e :: es) m)
    (hbase : attributeBase o name X.env (eval o X.env) = eval o X.env := by rfl)
    (hfew : ((backTo cpos (starEach (e :: es) X.env)).all (fun x => !x.1) && (backToKw cpos (keywordEach [] X.env)).all (fun x => x.1.isSome)
      && decide ((e :: es).length + ([] : List Keyword).length + (if ([] : List Keyword).isEmpty then 0 else 1) < 30)) = true := by rfl)
    (hline : (apos.endLine == cpos.line) = true := by rfl) (hs : starEach (e :: es) X.env = (false, eval e X.env) :: starEach es X.env := by rfl) (hplain : (backTo cpos (starEach es X.env)).any (·.1) = false := by rfl) :
    QE X EE (.Call (.Attribute o name apos) (e :: es) [] cpos) (eMethT T f mo m) := PE.mono (pe_bm pa slot hty hm ho ha hbase hfew hline hs hplain) fun σ H Q h => by
  obtain ⟨τ, ρ, G, ab, ok⟩ := bindEE (k := fun τ d G => if kindOk T G d then (m τ).bind (fun ds => f d ds) G else .stuck) h
  refine ⟨τ, ρ, G, ab, ?_⟩
  cases e : mo τ G with
  | stuck => rw [e] at ok; exact ok
  | exn c G' => rw [e] at ok; exact ok
  | ok d G' =>
    rw [e] at ok
    intro v H' ρ' f' ab' r'
    obtain ⟨τ2, ρ2, G2, d2, ab2, r2, ok2⟩ := ok v H' ρ' f' ab' r'
    by_cases hk : kindOk T G2 d2 = true
    · rw [if_pos hk] at ok2
      refine ⟨kindOk_is ab2 r2 hk, τ2, ρ2, G2, ab2, ?_⟩
      dsimp only [M.bind] at ok2
      cases e2 : m τ2 G2 with
      | stuck => rw [e2] at ok2; exact ok2
      | exn c G' => rw [e2] at ok2; exact ok2
      | ok ds G3 =>
        rw [e2] at ok2
        exact fun vs H3 ρ3 f3 ab3 r3 => ⟨σ, τ2, ρ3, G3, d2, ds, ab3, r2.mono f3, r3, ok2.fut f3⟩
    · rw [if_neg hk] at ok2; exact ok2.elim
theorem qe_bm0 {o : Expr} {name : Str} {apos cpos : Pos} {T id : String} {f : D → List D → M D} {mo : DS → M D} (pa : PlainAttrs T) (slot : Slot T name id) (hty : typeOf (.builtin id) = pure (.type "method_descriptor")) (hm : MtR X id (rMD X EE f)) (ho : QE X EE o mo)
    (hbase : attributeBase o name X.env (eval o X.env) = eval o X.env := by rfl) (hline : (apos.endLine == cpos.line) = true := by rfl) :
    QE X EE (.Call (.Attribute o name apos) [] [] cpos) (eMethT T f mo aNil) := PE.mono (pe_bm0 pa slot hty hm ho hbase hline) fun σ H Q h => by
  obtain ⟨τ, ρ, G, ab, ok⟩ := bindEE (k := fun τ d G => if kindOk T G d then (aNil τ).bind (fun ds => f d ds) G else .stuck) h
  refine ⟨τ, ρ, G, ab, ?_⟩
  cases e : mo τ G with
  | stuck => rw [e] at ok; exact ok
  | exn c G' => rw [e] at ok; exact ok
  | ok d G' =>
    rw [e] at ok
    intro v H' ρ' f' ab' r'
    obtain ⟨τ2, ρ2, G2, d2, ab2, r2, ok2⟩ := ok v H' ρ' f' ab' r'
    by_cases hk : kindOk T G2 d2 = true
    · rw [if_pos hk] at ok2
      exact ⟨kindOk_is ab2 r2 hk, σ, τ2, ρ2, G2, d2, [], ab2, r2, .nil, ok2⟩
    · rw [if_neg hk] at ok2; exact ok2.elim
noncomputable def dAppend : D → List D → M D
  | .obj n, [v] => fun G => match G[n]? with
    | some (.lst xs) => if xs.length < sizeLine then .ok .non (G.set n (.lst (xs ++ [v]))) else .stuck
    | _ => .stuck
  | _, _ => M.stop
theorem put_ok {σ : L2.St} {H : Hp} {τ : DS} {ρ : List Addr} {G : DH} {n : Nat} {xs ys : List D} {d : D} {w : V} {p : Addr} {vs ws : List V} {Q : VK} (ab : Ab X.K X.mg σ H τ ρ G) (hn : ρ[n]? = some p) (hp : H p = some (.lst vs)) (r : Reps X.K X.mg ρ H ys ws)
    (rd : ∀ H', Fut X.K H H' ρ ρ → Rep X.K X.mg ρ H' d w) (ok : OkE X.K X.mg EE H σ τ ρ (.ok d (G.set n (.lst ys))) Q) : Q w (upd H p (.lst ws)) := by
  have f : Fut X.K H (upd H p (.lst ws)) ρ ρ := fut_set hp ρ
  exact ok w _ ρ f (ab.fut f (ab.hp.put (ds := ys) hn hp r)) (rd _ f)
theorem mt_appendD : MtR X "list.append" (rMD X EE dAppend) := by
  intro pins s σ0 H x xs v us Q I rx rxs ⟨σ, τ, ρ, G, d, ds, ab, rd, rds, ok⟩
  cases d <;> try exact ok.elim
  rename_i n
  match ds, ok with
  | [], ok => exact ok.elim
  | _ :: _ :: _, ok => exact ok.elim
  | [y], ok =>
    obtain ⟨yv, rfl, ry⟩ := reps1 rds
    unfold Rep at rd
    obtain ⟨p, rfl, e1⟩ := rd
    dsimp only [dAppend] at ok
    cases g : G[n]? with
    | none => rw [g] at ok; exact ok.elim
    | some o =>
      cases o with
      | lst zs =>
        rw [g] at ok
        dsimp only at ok
        obtain ⟨p', vs, e2, hp, rs⟩ := ab.hp.lst g
        rw [e1] at e2; cases e2
        by_cases hz : zs.length < sizeLine
        · rw [if_pos hz] at ok
          exact mt_append pins s σ0 H _ _ v us Q I rx rxs ⟨p, vs, yv, rfl, rfl, hp, by rw [← rs.length]; exact hz, put_ok (xs := zs) ab e1 hp (rs.append (.cons ry .nil)) (fun _ _ => by unfold Rep; rfl) ok⟩
        · rw [if_neg hz] at ok; exact ok.elim
theorem qe_append {o e : Expr} {apos cpos : Pos} {mo : DS → M D} {m : DS → M (List D)} (ho : QE X EE o mo) (ha : QA X EE [e] m)
    (hbase : attributeBase o "append" X.env (eval o X.env) = eval o X.env := by rfl)
    (hfew : ((backTo cpos (starEach [e] X.env)).all (fun x => !x.1) && (backToKw cpos (keywordEach [] X.env)).all (fun x => x.1.isSome)
      && decide ([e].length + ([] : List Keyword).length + (if ([] : List Keyword).isEmpty then 0 else 1) < 30)) = true := by rfl)
    (hline : (apos.endLine == cpos.line) = true := by rfl) (hs : starEach [e] X.env = (false, eval e X.env) :: starEach [] X.env := by rfl) (hplain : (backTo cpos (starEach [] X.env)).any (·.1) = false := by rfl) :
    QE X EE (.Call (.Attribute o "append" apos) [e] [] cpos) (eMethT "list" dAppend mo m) := qe_bm PySem.F.plainAttrs_list PySem.F.slot_list_append PySem.F.type_list_append mt_appendD ho ha hbase hfew hline hs hplain
noncomputable def dPop : D → List D → M D
  | .obj n, [] => fun G => match G[n]? with
    | some (.lst xs) => match xs[xs.length - 1]? with
      | some y => .ok y (G.set n (.lst xs.dropLast))
      | none => .stuck
    | _ => .stuck
  | _, _ => M.stop
theorem Reps.dropLast {K : PySem.W.Frag} {mg : Str → Option Value} {ρ : List Addr} {H : Hp} {ds : List D} {vs : List V} (r : Reps K mg ρ H ds vs) : Reps K mg ρ H ds.dropLast vs.dropLast := by
  rw [List.dropLast_eq_take, List.dropLast_eq_take, ← r.length]
  exact r.take _
theorem mt_popD : MtR X "list.pop" (rMD X EE dPop) := by
  intro pins s σ0 H x xs v us Q I rx rxs ⟨σ, τ, ρ, G, d, ds, ab, rd, rds, ok⟩
  cases d <;> try exact ok.elim
  rename_i n
  match ds, ok with
  | _ :: _, ok => exact ok.elim
  | [], ok =>
    unfold Reps at rds; subst rds
    unfold Rep at rd
    obtain ⟨p, rfl, e1⟩ := rd
    dsimp only [dPop] at ok
    cases g : G[n]? with
    | none => rw [g] at ok; exact ok.elim
    | some o =>
      cases o with
      | lst zs =>
        rw [g] at ok
        dsimp only at ok
        obtain ⟨p', vs, e2, hp, rs⟩ := ab.hp.lst g
        rw [e1] at e2; cases e2
        cases qz : zs[zs.length - 1]? with
        | none => rw [qz] at ok; exact ok.elim
        | some y =>
          rw [qz] at ok
          obtain ⟨yv, ey, ry⟩ := rs.get qz
          exact mt_pop pins s σ0 H _ _ v us Q I rx rxs ⟨p, vs, yv, rfl, rfl, hp, by rw [← rs.length]; exact ey, put_ok (xs := zs) ab e1 hp rs.dropLast (fun _ f => ry.mono f) ok⟩
theorem qe_pop {o : Expr} {apos cpos : Pos} {mo : DS → M D} (ho : QE X EE o mo) (hbase : attributeBase o "pop" X.env (eval o X.env) = eval o X.env := by rfl) (hline : (apos.endLine == cpos.line) = true := by rfl) :
    QE X EE (.Call (.Attribute o "pop" apos) [] [] cpos) (eMethT "list" dPop mo aNil) := qe_bm0 PySem.F.plainAttrs_list PySem.F.slot_list_pop PySem.F.type_list_pop mt_popD ho hbase hline
end
end L3
end
section
set_option Elab.async false
set_option linter.all false
set_option maxRecDepth 100000
namespace L3
open PySem PySem.Spec L2
structure FlyB (B : Heap) (l : List Env) (e : Addr) (cls : Value) (h : Heap) : Prop where
  stay : B.StaysIn h
  new : B.get? e = none
  frm : h.FunFrames B l
  tr : (∃ oe vs a0, h.get? e = some oe ∧ oe.cls = cls ∧ oe.data = .fields vs ∧ vs[0]? = some a0 ∧ vs[1]? = some .none) ∨ ∃ a0 fl, h.TracedAtW B e cls a0 fl
section
variable {M : Model} {A : Around} {E : Value → Shared → Prop} {s : Shared} {B : Heap} {env : Env} {outer l : List Env} {L e : Addr} {cls : Value} {Q : Unit → Shared → Prop}
theorem note_frame {env' : Env} (h : env'.frame = env.frame) (v : Value) : noteFrame v env' = noteFrame v env := by
  unfold noteFrame frameOf
  rw [h]
theorem note_ok (hfr : A.frames = some (env :: outer)) (hf : env.frame = some L) (f : FlyB B (env :: outer) e cls s.heap)
    (hQ : ∀ h' a0, Heap.HeldW B (env :: outer) e cls a0 L h' → s.heap.UpToSlots h' → Q () { s with heap := h' }) : wpAny M A (noteFrame (.ref e) env) Q E s := by
  obtain ⟨st, nw, fr, tr⟩ := f
  rcases tr with ⟨oe, vs, a0, he, hc, hd, h0, h1⟩ | ⟨a0, fl, oe, vs, T, oT, ts, he, hcls, hd, h1, hnT, hTe, hT, hdT, h3⟩
  · subst hc
    unfold noteFrame
    simp only [hf]
    refine wpAny_bind (wpAny_field he hd h1 ?_)
    rw [if_neg (by decide)]
    refine wpAny_entryW hfr fr hf he st nw hd (Array.getElem?_eq_some_iff.mp h1).1 h0 fun h' hN => ?_
    exact hQ h' a0 ⟨hN.1, nw, hN.2.1, hN.2.2.1⟩ hN.2.2.2
  · by_cases hq : (fl == rawInt L) = true
    · unfold noteFrame
      simp only [hf]
      refine wpAny_bind (wpAny_field he hd h1 ?_)
      rw [if_pos (show (Value.ref T != Value.none) = true by simp)]
      refine wpAny_bind (wpAny_field hT hdT h3 ?_)
      rw [if_pos hq]
      refine wpAny_pure ?_
      have := hQ s.heap a0 ⟨st, nw, fr, oe, vs, T, oT, ts, he, hcls, hd, h1, hnT, hTe, hT, hdT, by rw [h3, beq_iff_eq.mp hq]⟩ (.refl _)
      exact this
    · obtain ⟨rfl, h0⟩ := hcls
      unfold noteFrame
      simp only [hf]
      refine wpAny_bind (wpAny_field he hd h1 ?_)
      rw [if_pos (show (Value.ref T != Value.none) = true by simp)]
      refine wpAny_bind (wpAny_field hT hdT h3 ?_)
      rw [if_neg hq]
      refine wpAny_bind (wpAny_setField hT hdT (Array.getElem?_eq_some_iff.mp h3).1 ?_)
      have oth : ∀ b, b ≠ T → (s.heap.update T (Obj.mapFields (·.setIfInBounds 3 Value.none))).get? b = s.heap.get? b := fun b hb => Heap.get?_update_other _ _ (Ne.symm hb)
      have nrec : ∀ b o, s.heap.get? b = some o → (∀ vs, o.data ≠ .fields vs) → b ≠ T := fun b o hb hnf z => by
        rw [z, hT] at hb; cases hb; exact hnf ts hdT
      refine wpAny_entryW hfr (fr.of_keeps fun b o hb hnf => ⟨o, (oth b (nrec b o hb hnf)).trans hb, rfl⟩) hf ((oth e (Ne.symm hTe)).trans he)
        (fun b o hbo => (oth b fun z => by rw [z, hnT] at hbo; cases hbo).trans (st b o hbo)) nw hd (Array.getElem?_eq_some_iff.mp h1).1 h0 fun h' hN => ?_
      exact hQ h' a0 ⟨hN.1, nw, hN.2.1, hN.2.2.1⟩ fun b o hb hnf => hN.2.2.2 b o ((oth b (nrec b o hb hnf)).trans hb) hnf
theorem leave_ok (hfr : A.frames = some (env :: outer)) (hf : env.frame = some L) (f : FlyB B (env :: outer) e cls s.heap)
    (hQ : ∀ h' a0, Heap.FlyingW B outer e cls a0 h' → s.heap.UpToSlots h' → Q () { s with heap := h' }) : wpAny M A (leaving env (.ref e)) Q E s := by
  unfold leaving
  refine wpAny_bind (note_ok hfr hf f fun h1 a0 hH u1 => ?_)
  refine wpAny_landsW hH fun h2 hF u2 => ?_
  obtain ⟨k1, k2, ⟨_, _, k3⟩, k4⟩ := hF
  exact hQ h2 a0 ⟨k1, k2, k3, k4⟩ (u1.trans u2)
theorem FlyB.of_flying {a0 : Value} {h : Heap} (f : Heap.FlyingW B l e cls a0 h) : FlyB B l e cls h := ⟨f.1, f.2.1, f.2.2.1, .inr ⟨a0, .none, f.2.2.2⟩⟩
end
structure Cov (X : Cx) (B : Heap) : Prop where
  keep : ∀ b o, X.s₀.heap.get? b = some o → X.H₀ b = none → b ∉ frs X.stack → b ∉ X.ex → B.get? b = some o
  there : ∀ b o, X.s₀.heap.get? b = some o → b ∉ frs X.stack → b ∉ X.ex → ∃ o', B.get? b = some o'
  pins : ∀ p ∈ X.pn, B.get? p.1 = some p.2
noncomputable def FlyX (X : Cx) (H : Hp) (e : Addr) (cls : Value) (s : Shared) : Prop := ∃ B, FlyB B X.stack e cls s.heap ∧ HOk X.prog X.w H B ∧ Cov X B
noncomputable def ClsIs (mg : Str → Option Value) (c : XD) (cls : Value) : Prop := match c with | .mk n _ => mg n = some cls
noncomputable def XLnk (X : Cx) (EE : EXK) : Prop := ∀ (pins : List (Addr × Obj)) (σ : L2.St) (H : Hp) (s : Shared) (e : Addr) (cls : Value) (c : XD), Inv X pins σ H s → FlyX X H e cls s → ClsIs X.mg c cls → EE c σ H → X.xe (.ref e) s
section
variable {X : Cx} {pins : List (Addr × Obj)} {σ : L2.St} {H : Hp} {s : Shared} {h' : Heap}
theorem IsCell.slots {h h' : Heap} {c : Addr} {v : Option Value} (u : h.UpToSlots h') (hc : h.IsCell c v) : h'.IsCell c v := by
  obtain ⟨o, e, d⟩ := hc
  obtain ⟨sl, e'⟩ := u c o e fun vs q => by rw [d] at q; cases q
  exact ⟨_, e', d⟩
theorem Inv.flown {B : Heap} {t : Nat} (I : Inv X pins σ H s) (C : Cov X B) (hok : HOk X.prog X.w H B) (st : B.StaysIn h') (u : s.heap.UpToSlots h') : Inv X [] σ H { s with heap := h', toks := t } := by
  have neL : ∀ b o, X.s₀.heap.get? b = some o → b ≠ X.env.locals := fun b o e => Nat.ne_of_lt (Nat.lt_of_lt_of_le (Heap.lt_size e) I.ok.above)
  have nstk : ∀ b o, X.s₀.heap.get? b = some o → b ∉ X.fs → b ∉ frs X.stack := fun b o e hb z => by
    rcases List.mem_cons.mp (I.stkSub b z) with z | z
    · exact neL b o e z
    · exact hb z
  have slots : ∀ b o, X.s₀.heap.get? b = some o → X.H₀ b = none → b ∈ X.fs → b ∉ X.ex → ∃ sl, h'.get? b = some { o with slots := sl } := fun b o e n hb hx => by
    obtain ⟨sl, e1⟩ := I.base.slot b o e n hb hx
    obtain ⟨_, o', eo, hd⟩ := I.ok.funs.mem hb
    rw [e] at eo; cases eo
    obtain ⟨sl', e2⟩ := u b _ e1 hd
    exact ⟨sl', e2⟩
  refine ⟨I.ok, I.os, I.bare, ⟨fun b o e n hb hx => st _ _ (C.keep b o e n (nstk b o e hb) hx), slots, I.base.free, fun b o e hx => ?_, I.base.tups, I.base.frzs, I.base.tbls⟩, ?_, fun x c e => ?_, I.free, I.freeC, fun p hp => ?_, hok.kept st, I.len⟩
  · by_cases hb : b ∈ X.fs
    · obtain ⟨sl, e1⟩ := slots b o e (I.ok.frf b hb) hb hx
      exact ⟨_, e1⟩
    · obtain ⟨o', e1⟩ := C.there b o e (nstk b o e hb) hx
      exact ⟨o', st _ _ e1⟩
  · obtain ⟨m, hn, hl⟩ := I.loc
    refine ⟨m, u.ns hn, fun i x v e1 e2 e3 => ?_⟩
    obtain ⟨w, r, l⟩ := hl i x v e1 e2 e3
    refine ⟨w, r, ?_⟩
    rcases l with l | ⟨k, c, e, z⟩
    · exact .inl l
    · exact .inr ⟨k, c, e, IsCell.slots u z⟩
  · obtain ⟨v, z⟩ := I.cell x c e
    exact ⟨v, IsCell.slots u z⟩
  · have hp' : p ∈ X.pn := by simpa using hp
    obtain ⟨e, n, ne, nf, d⟩ := I.pin p (List.mem_append_left _ hp')
    exact ⟨st _ _ (C.pins p hp'), n, ne, nf, d⟩
end
structure Flown (P : Program) (w : World) (outer : List Env) (H : Hp) (s : Shared) (H' : Hp) (B : Heap) (s' : Shared) : Prop where
  os : s'.os = s.os
  bare : PyProof.Rows.AllBare s'.gens
  keep : ∀ b o, s.heap.get? b = some o → H b = none → b ∉ frs outer → B.get? b = some o
  there : ∀ b o, s.heap.get? b = some o → b ∉ frs outer → ∃ o', B.get? b = some o'
  slot : ∀ b o, s.heap.get? b = some o → H b = none → b ∈ frs outer → ∃ sl, s'.heap.get? b = some { o with slots := sl }
  free : ∀ b o, s.heap.get? b = some o → H b = none → H' b = none
  tups : ∀ b xs, H b = some (.tup xs) → H' b = some (.tup xs)
  frzs : ∀ b o u, H b = some (.frz o u) → H' b = some (.frz o u)
  tbls : ∀ b ps, H b = some (.tbl ps) → ∃ more, H' b = some (.tbl (ps ++ more))
  hok : HOk P w H' B
noncomputable def CX1 (P : Program) (w : World) : CXT := fun outer H s E ev s' => ∃ e cls a0 B H', ev = .ref e ∧ Heap.FlyingW B outer e cls a0 s'.heap ∧ Flown P w outer H s H' B s' ∧ E cls none H'
theorem lnk1 {X : Cx} {EE : EXK} (h : XLnk X EE) : Lnk (CX1 X.prog X.w) X EE := by
  intro pins σ H s ev s' I hq
  obtain ⟨e, cls, a0, B, H', rfl, fl, F, c, hc, ee⟩ := hq
  have un : Un (frs X.stack) [] H H' s.heap s'.heap := ⟨fun b o e n hb _ => fl.1 _ _ (F.keep b o e n hb), fun b o e n hb _ => F.slot b o e n hb, fun b o e n _ => F.free b o e n, fun b o e _ => by
    by_cases hb : b ∈ frs X.stack
    · obtain ⟨sl, q⟩ := F.slot b o e (I.stkFree b hb) hb
      exact ⟨_, q⟩
    · obtain ⟨o', q⟩ := F.there b o e hb
      exact ⟨o', fl.1 _ _ q⟩, F.tups, F.frzs, F.tbls⟩
  have I' : Inv X pins σ H' s' := I.call' F.os un (F.hok.kept fl.1) F.bare fun b z => absurd z (by simp)
  refine h pins σ H' s' e cls c I' ⟨B, .of_flying fl, F.hok, fun b o eb n hb hx => ?_, fun b o eb hb hx => ?_, fun p hp => ?_⟩ hc ee
  · have nfs : b ∉ X.fs := fun z => hb (by
      rcases I.ok.stk with q | ⟨q, _⟩
      · rw [q]; exact z
      · rw [q]; unfold frs; rw [List.filterMap_cons]; split
        · exact z
        · exact List.mem_cons_of_mem _ z)
    exact F.keep b o (I.base.keep b o eb n nfs hx) (I.base.free b o eb n hx) hb
  · obtain ⟨o', q⟩ := I.base.there b o eb hx
    exact F.there b o' q hb
  · obtain ⟨q, n, ne, nf, d⟩ := I.pin p (List.mem_append_left _ hp)
    exact F.keep p.1 p.2 q n fun z => by
      rcases List.mem_cons.mp (I.stkSub _ z) with z | z
      · exact ne z
      · exact nf z
end L3
end
section
set_option Elab.async false
set_option linter.all false
set_option maxRecDepth 100000
namespace L3
open PySem PySem.Spec L2
section
variable {P : Program} {w : World} {K : PySem.W.Frag} {mg : Str → Option Value} {base : Heap} {f : Addr} {fd : FuncData}
theorem fnx {x qual : Str} {st : Stmt} {N ps : List Str} {k n nn : Nat} {ms : MS} {m : List D → M D} (F : Fun K x qual st f fd) (S : FnScope N ps (defScope st)) (hps : ps.length = n) (hN : N.length = nn) (hm : ∀ ds, m ds = runB nn ms ds)
    (hbody : ∀ (X : Cx) (EE : EXK) (cdv : Value) (A : Around) (outer : List Env) (s : Shared) (H : Hp) (E : XK), X = cxOf (CX1 P w) P w K mg base N qual (defScope st) f cdv A outer s H E → Room k (A.deeper (PyProof.Rows.envOfC qual (defScope st) s.heap.objs.size f cdv)) →
      XLnk X EE → PassesOwn (model P w) X.A X.env X.xe → QSs X EE (defBody st) ms) :
    FnOk P w K mg base (CX1 P w) (k + 1) f fd ps (spOf K mg n m) := by
  subst hps hN
  have e : m = fun ds => runB N.length ms ds := funext hm
  subst e
  obtain ⟨oc, od, kV, doc, pm, an, cdv, ct, osl, rfl, lk, hcd⟩ := F.ex
  refine fn_of lk hcd S (fun vs H Q E h => h.len) fun A outer s H vs Q E hr h => ?_
  obtain ⟨ds, ρ, G, hn, hp, rs, ok⟩ := h
  refine ⟨_, hbody _ (fun c σ H' => ∀ cls, ClsIs mg c cls → E cls none H') cdv A outer s H E rfl hr ?_ PassesOwn.leaving, ds.map some ++ List.replicate (N.length - ds.length) none, ρ, G, ⟨srep_start rs, hp⟩, ?_⟩
  · intro pins σ H' s' e cls c I fx hc ee
    obtain ⟨B, fb, hok, cov⟩ := fx
    refine leave_ok (L := s.heap.objs.size) I.ok.frames rfl fb fun h' a0 fl u => ?_
    have I' : Inv _ [] σ H' { s' with heap := h' } := Inv.flown (t := s'.toks) I cov hok fl.1 u
    have neL : ∀ b o, s.heap.get? b = some o → b ∉ frs outer → b ∉ frs (PyProof.Rows.envOfC qual (defScope st) s.heap.objs.size f cdv :: outer) := fun b o e hb z => by
      rcases List.mem_cons.mp (I.stkSub b z) with z | z
      · exact absurd (Heap.lt_size e) (by rw [show b = s.heap.objs.size from z]; exact Nat.lt_irrefl _)
      · exact hb z
    refine ⟨e, cls, a0, B, H', rfl, fl, ⟨I'.os, I'.bare, fun b o eb nb hb => cov.keep b o eb nb (neL b o eb hb) (by intro z; exact absurd (show b ∈ ([] : List Addr) from z) (by simp)), fun b o eb hb => cov.there b o eb (neL b o eb hb) (by intro z; exact absurd (show b ∈ ([] : List Addr) from z) (by simp)),
      fun b o eb nb hb => I'.base.slot b o eb nb hb (by intro z; exact absurd (show b ∈ ([] : List Addr) from z) (by simp)), fun b o eb nb => I'.base.free b o eb nb (by intro z; exact absurd (show b ∈ ([] : List Addr) from z) (by simp)), I'.base.tups, I'.base.frzs, I'.base.tbls, hok⟩, ee cls hc⟩
  · dsimp only [runB] at ok
    cases q : ms (ds.map some ++ List.replicate (N.length - ds.length) none) G with
    | stuck => rw [q] at ok; exact ok
    | nx τ G' => rw [q] at ok; exact fun σ' H' ρ' f ab => ok .non H' ρ' f ab.hp (by unfold Rep; rfl)
    | rt d G' => rw [q] at ok; exact fun v H' ρ' f hp r => ok v H' ρ' f hp r
    | bk τ G' => rw [q] at ok; exact ok.elim
    | ct τ G' => rw [q] at ok; exact ok.elim
    | xn c τ G' => rw [q] at ok; exact fun σ' H' ρ' f ab cls hc => ok cls H' ρ' hc f ab.hp
end
abbrev bmVE : List Value := [.type "ValueError", .type "Exception", .type "BaseException", .type "object"]
theorem exc_obj {K : PySem.W.Frag} {h : Heap} {C : Addr} (X : K.In h) (e : PySem.W.excIn K C bmVE "ValueError.__new__" = true) :
    ∃ bm N nm q bs hdct sn sub ab col dd k0 k1 k2 k3 k5 mN, h.get? C = some (excClassObj nm q C N bs bm hdct sn sub ab col dd k0 k1 k2 k3 k5 "ValueError.__new__") ∧ h.Ns N mN ∧ mN "__init__" = none ∧ OwnTail h bmVE bm := by
  unfold PySem.W.excIn at e
  split at e
  · rename_i dd cd sl ho
    split at e
    · rename_i C' bm k0 k1 k2 k3 n k5 hm hs
      simp only [Bool.and_eq_true, beq_iff_eq, Bool.not_eq_true'] at e
      obtain ⟨⟨⟨⟨⟨rfl, rfl⟩, hdel⟩, ht⟩, hok⟩, hni⟩ := e
      obtain ⟨nm, bs, mro, ns, qn, hd, sn, sub, ab, col, del⟩ := cd
      dsimp only at hm hdel hok hni
      subst hm hdel
      have hl : sl = #[k0, k1, k2, k3, some (.builtin "ValueError.__new__"), k5] := by
        cases sl with
        | mk l => exact congrArg Array.mk hs
      subst hl
      exact ⟨bm, ns, nm, qn, bs, hd, sn, sub, ab, col, dd, k0, k1, k2, k3, k5, _, X _ _ ho, .of_isNs (PySem.W.isNs_of_in X hok), PySem.W.nsMap_none_of_in X hok hni, PySem.W.tail_of_in X ht⟩
    · cases e
  · cases e
theorem frames_of {h B base : Heap} : ∀ {l : List Env}, h.FunFrames base l → (∀ b ∈ frs l, B.get? b = none) → h.FunFrames B l
  | [], _, _ => trivial
  | env :: r, ⟨hk, ⟨L, o, hf, _, ho, hd⟩, hr⟩, hB => by
    have hm : ∀ b, b = L ∨ b ∈ frs r → b ∈ frs (env :: r) := fun b hb => by
      unfold frs; rw [List.filterMap_cons, hf]
      rcases hb with z | z
      · rw [z]; exact List.mem_cons_self
      · exact List.mem_cons_of_mem _ z
    exact ⟨hk, ⟨L, o, hf, hB L (hm L (.inl rfl)), ho, hd⟩, frames_of hr fun b hb => hB b (hm b (.inr hb))⟩
theorem hok_hide {P : Program} {w : World} {H : Hp} {h B : Heap} (x : HOk P w H h) (k : ∀ b o, H b ≠ none → h.get? b = some o → B.get? b = some o) : HOk P w H B := fun a o e =>
  (x a o e).stay (fun b u hb q => k b u (by
    rcases hb with z | z
    · rw [z, e]; simp
    · rw [z]; simp) q) (fun _ q => q) fun _ _ q => q
section
variable {X : Cx} {EE : EXK} {pins : List (Addr × Obj)} {σ : L2.St} {H : Hp} {s : Shared}
theorem flyX_made {h' : Heap} {e : Addr} {C : Addr} {args : List Value} (I : Inv X pins σ H s) (hm : Heap.MadeExcOf s.heap h' e (.ref C) args) : FlyX X H e (.ref C) { s with heap := h' } := by
  have hg : ∀ b o, s.heap.get? b = some o → b ∉ frs X.stack → (PySem.W.hideAll s.heap (frs X.stack)).get? b = some o := fun b o e hb => PySem.W.hideAll_get _ e hb
  have nfs : ∀ b, b ∉ frs X.stack → b ∉ X.fs := fun b hb z => hb (by
    rcases I.ok.stk with q | ⟨q, _⟩
    · rw [q]; exact z
    · rw [q]; unfold frs; rw [List.filterMap_cons]; split
      · exact z
      · exact List.mem_cons_of_mem _ z)
  obtain ⟨t, he, _, _⟩ := hm.there
  refine ⟨PySem.W.hideAll s.heap (frs X.stack), ⟨fun b o q => hm.keeps b o (PySem.W.of_hideAll _ q), ?_, ?_, .inl ⟨_, _, _, he, rfl, rfl, rfl, rfl⟩⟩, ?_, ⟨fun b o q n hb hx => ?_, fun b o q hb hx => ?_, fun p hp => ?_⟩⟩
  · cases q : (PySem.W.hideAll s.heap (frs X.stack)).get? e with
    | none => rfl
    | some o => have := PySem.W.of_hideAll _ q; rw [hm.new] at this; cases this
  · exact (frames_of I.stack fun b hb => PySem.W.hideAll_none _ hb).of_keeps fun b o q _ => ⟨o, hm.keeps b o q, rfl⟩
  · exact hok_hide I.hok fun b o n q => hg b o q fun z => n (I.stkFree b z)
  · exact hg b o (I.base.keep b o q n (nfs b hb) hx) hb
  · obtain ⟨o', q'⟩ := I.base.there b o q hx
    exact ⟨o', hg b o' q' hb⟩
  · obtain ⟨q, n, ne, nf, d⟩ := I.pin p (List.mem_append_left _ hp)
    exact hg _ _ q fun z => (List.mem_cons.mp (I.stkSub _ z)).elim ne nf
noncomputable def sRaise (x : Str) (m : DS → M (List D)) : MS := fun τ => sBind (m τ) (fun ds G => if ds.length ≤ sizeLine then .xn (.mk x ds) τ G else .stuck) fun c G => .xn c τ G
theorem qs_raise {x : Str} {C : Addr} {np cpos pos : Pos} {e : Expr} {es : List Expr} {m : DS → M (List D)} (hc : X.calm = true) (hx : XLnk X EE) (hm : X.mg x = some (.ref C)) (hq : PySem.W.excIn X.K C bmVE "ValueError.__new__" = true) (hg : Gl X x) (hd : (x == ("__debug__" : Str)) = false)
    (ha : QA X EE (e :: es) m) (he : starEach (e :: es) X.env = (false, eval e X.env) :: starEach es X.env) (hpl : (backTo cpos (starEach es X.env)).any (·.1) = false) :
    QS X EE (.Raise (some (.Call (.Name x np) (e :: es) [] cpos)) none pos) (sRaise x m) := by
  intro pins s σ H Dd I h
  obtain ⟨τ, ρ, G, ab, ok⟩ := bindAS (k := fun τ ds G => if ds.length ≤ sizeLine then .xn (.mk x ds) τ G else .stuck) h
  obtain ⟨bm, N, nm, q, bs, hdct, sn, sub, ab', col, dd, k0, k1, k2, k3, k5, mN, hC, hN, hni, T⟩ := exc_obj I.ok.mod.kin hq
  refine wpAny_Raise_call_subU (C := C) (nm := nm) (q := q) (N := N) (bs := bs) (bm := bm) (hdct := hdct) (sn := sn) (sub := sub) (ab := ab') (col := col) (dd := dd) (k0 := k0) (k1 := k1) (k2 := k2) (k3 := k3) (k5 := k5) PySem.F.excBase_ValueError (bmB := bmVE) (by decide +kernel) PySem.F.excBase_ValueError (mN := mN) (T.hasType PySem.F.excBase_ValueError.hasBase) (I.ok.hd hc)
    (by rw [he]; show (false || (backTo cpos (starEach es X.env)).any (·.1)) = false; rw [hpl]; rfl) hni (ld_glob I hg hm ⟨rfl, ?_⟩ hd)
  have h1 := ha cpos pins s σ H _ I ⟨τ, ρ, G, ab, ok⟩
  rw [he] at h1 ⊢
  refine Calls.evalArgs_plain (wpAny_mono h1 (fun us s2 h2 => ?_) fun _ _ z => z)
  obtain ⟨vs, H2, I2, r2, τ2, ρ2, G2, ds, ab2, rs, ok2⟩ := h2
  by_cases hl : ds.length ≤ sizeLine
  · rw [if_pos hl] at ok2
    refine ⟨rfl, by show us.length ≤ _; rw [← r2.length, ← rs.length]; exact hl, I2.bk _ _ hC, hN.keeps I2.bk, T.keeps I2.bk, fun h' e hmade => ?_⟩
    exact hx pins σ H2 _ e (.ref C) (.mk x ds) (I2.kept (t' := s2.toks) hmade.keeps) (flyX_made I2 hmade) hm (ok2 σ H2 ρ2 .refl ab2)
  · rw [if_neg hl] at ok2; exact ok2.elim
end
end L3
end
section
set_option Elab.async false
set_option linter.all false
set_option maxRecDepth 100000
namespace L3
open PySem PySem.Spec L2
noncomputable abbrev Cx.to (X : Cx) (E : Value → Shared → Prop) (pn : List (Addr × Obj)) : Cx := { X with xe := E, pn := pn }
noncomputable abbrev Cx.hand (X : Cx) (e : Addr) : Cx := { X with A := X.A.mark (some (.ref e)), calm := false, xe := fun _ _ => False }
theorem ok_to {X : Cx} (ok : X.Ok) (E : Value → Shared → Prop) (pn : List (Addr × Obj)) : (Cx.to X E pn).Ok := ⟨ok.mod, ok.kind, ok.glob, ok.blt, ok.above, ok.inj, ok.has, ok.cab, ok.hd, ok.frames, ok.stk, ok.exf, ok.bs, ok.bsz, ok.noex, ok.exfs, ok.funs, ok.frf⟩
theorem ok_of {X : Cx} {E : Value → Shared → Prop} {pn : List (Addr × Obj)} (ok : (Cx.to X E pn).Ok) : X.Ok := ⟨ok.mod, ok.kind, ok.glob, ok.blt, ok.above, ok.inj, ok.has, ok.cab, ok.hd, ok.frames, ok.stk, ok.exf, ok.bs, ok.bsz, ok.noex, ok.exfs, ok.funs, ok.frf⟩
theorem ok_hand {X : Cx} (ok : X.Ok) (e : Addr) : (Cx.hand X e).Ok := ⟨ok.mod, ok.kind, ok.glob, ok.blt, ok.above, ok.inj, ok.has, ok.cab, fun z => absurd z Bool.false_ne_true, ok.frames, ok.stk, ok.exf, ok.bs, ok.bsz, ok.noex, ok.exfs, ok.funs, ok.frf⟩
section
variable {X : Cx} {EE : EXK} {pins : List (Addr × Obj)} {σ : L2.St} {H : Hp} {s : Shared} {E : Value → Shared → Prop}
theorem inv_to (I : Inv X pins σ H s) (E : Value → Shared → Prop) : Inv (Cx.to X E (X.pn ++ pins)) [] σ H s := ⟨ok_to I.ok _ _, I.os, I.bare, I.base, I.loc, I.cell, I.free, I.freeC, fun p hp => I.pin p (by simpa using hp), I.hok, I.len⟩
theorem inv_of {pins' : List (Addr × Obj)} (I : Inv (Cx.to X E (X.pn ++ pins)) pins' σ H s) : Inv X pins σ H s := ⟨ok_of I.ok, I.os, I.bare, I.base, I.loc, I.cell, I.free, I.freeC, fun p hp => I.pin p (List.mem_append_left _ hp), I.hok, I.len⟩
theorem inv_hand (I : Inv X pins σ H s) (e : Addr) : Inv (Cx.hand X e) pins σ H s := ⟨ok_hand I.ok e, I.os, I.bare, I.base, I.loc, I.cell, I.free, I.freeC, I.pin, I.hok, I.len⟩
theorem inv_unhand {e : Addr} (ok : X.Ok) (I : Inv (Cx.hand X e) pins σ H s) : Inv X pins σ H s := ⟨ok, I.os, I.bare, I.base, I.loc, I.cell, I.free, I.freeC, I.pin, I.hok, I.len⟩
theorem sp_unhand {e : Addr} {Dd : Ends} {f : Flow} (ok : X.Ok) (h : SP (Cx.hand X e) pins Dd f s) : SP X pins Dd f s := by
  cases f with
  | next => obtain ⟨σ', H', I, q⟩ := h; exact ⟨σ', H', inv_unhand ok I, q⟩
  | brk => obtain ⟨σ', H', I, q⟩ := h; exact ⟨σ', H', inv_unhand ok I, q⟩
  | cont => obtain ⟨σ', H', I, q⟩ := h; exact ⟨σ', H', inv_unhand ok I, q⟩
  | ret u => obtain ⟨v, σ', H', I, r, q⟩ := h; exact ⟨v, σ', H', inv_unhand ok I, r, q⟩
theorem sp_of {pins' : List (Addr × Obj)} {Dd : Ends} {f : Flow} (h : SP (Cx.to X E (X.pn ++ pins)) pins' Dd f s) : SP X pins Dd f s := by
  cases f with
  | next => obtain ⟨σ', H', I, q⟩ := h; exact ⟨σ', H', inv_of I, q⟩
  | brk => obtain ⟨σ', H', I, q⟩ := h; exact ⟨σ', H', inv_of I, q⟩
  | cont => obtain ⟨σ', H', I, q⟩ := h; exact ⟨σ', H', inv_of I, q⟩
  | ret u => obtain ⟨v, σ', H', I, r, q⟩ := h; exact ⟨v, σ', H', inv_of I, r, q⟩
noncomputable def FlyT (X : Cx) (H : Hp) (e : Addr) (cls : Value) (s : Shared) : Prop := ∃ B a0 fl, (B.StaysIn s.heap ∧ B.get? e = none ∧ s.heap.FunFrames B X.stack ∧ s.heap.TracedAtW B e cls a0 fl) ∧ HOk X.prog X.w H B ∧ Cov X B
noncomputable def QH (X : Cx) (EE : EXK) (hs : List ExceptHandler) (mh : XD → MS) : Prop := ∀ (σ : L2.St) (H : Hp) (s : Shared) (Dd : Ends) (e : Addr) (cls : Value) (c : XD), Inv X [] σ H s → FlyT X H e cls s → ClsIs X.mg c cls →
  (∃ τ ρ G, Ab X.K X.mg σ H τ ρ G ∧ OkS X.K X.mg EE H ρ Dd (mh c τ G)) → wpAny (model X.prog X.w) X.A (handleBy (.ref e) X.env hs) (SP X [] Dd) X.xe s
noncomputable def noXS : Res → Res
  | .xn _ _ _ => .stuck
  | r => r
noncomputable def hNil : XD → MS := fun _ _ _ => .stuck
noncomputable def hCons (p : Str → Option Bool) (m : MS) (r : XD → MS) : XD → MS := fun c τ G => match c with
  | .mk n _ => match p n with
    | some true => noXS (m τ G)
    | some false => r c τ G
    | none => .stuck
theorem qh_nil : QH X EE [] hNil := fun _ _ _ _ _ _ _ _ _ _ ⟨_, _, _, _, ok⟩ => ok.elim
theorem qh_cons {p : Str → Option Bool} {x : Str} {cv : Value} {np pos : Pos} {b0 : Stmt} {suite : List Stmt} {rest : List ExceptHandler} {m : MS} {mr : XD → MS} (hm : X.mg x = some cv) (hp : ∀ n b cls, p n = some b → X.mg n = some cls → PySem.W.exmOne X.K cls cv = some b) (hg : Gl X x) (hd : (x == ("__debug__" : Str)) = false)
    (hb : ∀ e, QSs (Cx.hand X e) EE0 (b0 :: suite) m) (hr : QH X EE rest mr) : QH X EE (.ExceptHandler (some (.Name x np)) none (b0 :: suite) pos :: rest) (hCons p m mr) := by
  intro σ H s Dd e cls c I ft hc hok
  obtain ⟨n, args⟩ := c
  refine wpAny_handleBy_cons (codeAny_handlers_test ?_) (by intro z; cases z)
  have Ih := inv_hand I e
  refine ld_glob (X := Cx.hand X e) Ih hg hm ?_ hd
  have ft' := ft
  obtain ⟨B, a0, fl, ⟨st, nw, fr, tr⟩, hkb, cov⟩ := ft'
  obtain ⟨ob, hob, hcls⟩ := tr.there
  have LT : PySem.W.Looks (model X.prog X.w) s.heap (typeOf (.ref e)) cls := by subst hcls; exact (PySem.W.Looks.ld hob).andThen .now
  cases q : p n with
  | none =>
    obtain ⟨τ, ρ, G, ab, ok⟩ := hok
    dsimp only [hCons] at ok
    rw [q] at ok
    exact ok.elim
  | some b =>
    refine (PySem.W.exm_one I.kIn LT (hp n b cls q hc)).here ?_
    obtain ⟨τ, ρ, G, ab, ok⟩ := hok
    dsimp only [hCons] at ok
    rw [q] at ok
    cases b with
    | false => exact hr σ H s Dd e cls (.mk n args) I ft hc ⟨τ, ρ, G, ab, ok⟩
    | true =>
      refine codeAny_handlers_suite ?_
      refine wpAny_setFlight_noneW st fr tr fun h' k1 k2 k3 k4 => ?_
      have I' : Inv X [] σ H { s with heap := h' } := Inv.flown (t := s.toks) I cov hkb k1 fun b o hb hn => ⟨o.slots, k4 b o hb hn⟩
      refine wpAny_mono (hb e [] _ σ H Dd (inv_hand I' e) ⟨τ, ρ, G, ab, ?_⟩) (fun f s2 h2 => ?_) fun _ _ z => False.elim z
      · dsimp only at ok
        cases r : m τ G with
        | stuck => rw [r] at ok; exact ok
        | nx τ' G' => rw [r] at ok; exact ok
        | rt d G' => rw [r] at ok; exact ok
        | bk τ' G' => rw [r] at ok; exact ok
        | ct τ' G' => rw [r] at ok; exact ok
        | xn c τ' G' => rw [r] at ok; exact ok.elim
      · exact sp_unhand I.ok h2
noncomputable def sTry (mb : MS) (mh : XD → MS) (me : MS) : MS := fun τ G => match mb τ G with
  | .nx τ' G' => me τ' G'
  | .xn c τ' G' => mh c τ' G'
  | r => r
theorem qs_try {body orelse : List Stmt} {h0 : ExceptHandler} {hs : List ExceptHandler} {pos : Pos} {mb me : MS} {mh : XD → MS} (hst : X.stack = X.env :: X.outer) (hfr : ∃ L, X.env.frame = some L)
    (hb : ∀ (E' : Value → Shared → Prop) (pn : List (Addr × Obj)) (EE' : EXK), XLnk (Cx.to X E' pn) EE' → PassesOwn (model X.prog X.w) X.A X.env E' → QSs (Cx.to X E' pn) EE' body mb)
    (hh : ∀ (pn : List (Addr × Obj)), QH (Cx.to X X.xe pn) EE (h0 :: hs) mh) (he : QSs X EE orelse me) : QS X EE (.Try body (h0 :: hs) orelse [] pos) (sTry mb mh me) := by
  intro pins s σ H Dd I h
  obtain ⟨τ, ρ, G, ab, ok⟩ := h
  refine wpAny_Try_except ?_
  obtain ⟨L, hL⟩ := hfr
  refine wpAny_mono (hb (fun e s₁ => wpAny (model X.prog X.w) X.A (noteFrame e X.env) (fun _ s₂ => wpAny (model X.prog X.w) X.A (setFlight e none) (fun _ s₃ => wpAny (model X.prog X.w) X.A (handleBy e X.env (h0 :: hs)) (SP X pins Dd) X.xe s₃) X.xe s₂) X.xe s₁) (X.pn ++ pins)
    (fun c σ' H' => ∃ τ' ρ' G', Fut X.K H H' ρ ρ' ∧ Ab X.K X.mg σ' H' τ' ρ' G' ∧ OkS X.K X.mg EE H' ρ' Dd (mh c τ' G')) ?_ PassesOwn.looking [] s σ H { Dd with nx := liftS X.K X.mg EE me Dd } (inv_to I _) ?_) (fun f s1 h1 => ?_) fun _ _ z => z
  · intro pins' σ' H' s' e cls c I' fx hc ee
    obtain ⟨B, fb, hok, cov⟩ := fx
    have hfr' : X.A.frames = some (X.env :: X.outer) := by rw [← hst]; exact I.ok.frames
    have fb' : FlyB B (X.env :: X.outer) e cls s'.heap := by rw [← hst]; exact fb
    refine note_ok hfr' hL fb' fun h1 a0 hH u1 => ?_
    refine wpAny_landsW hH fun h2 hF u2 => ?_
    obtain ⟨τ', ρ', G', _, ab', ok'⟩ := ee
    have I2 : Inv (Cx.to X X.xe (X.pn ++ pins)) [] σ' H' { s' with heap := h2 } := by
      have z := Inv.flown (t := s'.toks) I' cov hok hF.1 (u1.trans u2)
      exact ⟨ok_to (ok_of z.ok) _ _, z.os, z.bare, z.base, z.loc, z.cell, z.free, z.freeC, z.pin, z.hok, z.len⟩
    refine wpAny_mono (hh (X.pn ++ pins) σ' H' { s' with heap := h2 } Dd e cls c I2 ⟨B, a0, .none, ⟨hF.1, hF.2.1, by show h2.FunFrames B X.stack; rw [hst]; exact hF.2.2.1, hF.2.2.2⟩, hok, ⟨cov.keep, cov.there, cov.pins⟩⟩ hc ⟨τ', ρ', G', ab', ok'⟩) (fun f s3 h3 => sp_of h3) fun _ _ z => z
  · refine ⟨τ, ρ, G, ab, ?_⟩
    dsimp only [sTry] at ok
    cases q : mb τ G with
    | stuck => rw [q] at ok; exact ok
    | nx τ' G' => rw [q] at ok; exact fun σ' H' ρ' f ab' => ⟨τ', ρ', G', ab', ok.fut f⟩
    | rt d G' => rw [q] at ok; exact ok
    | bk τ' G' => rw [q] at ok; exact ok
    | ct τ' G' => rw [q] at ok; exact ok
    | xn c τ' G' => rw [q] at ok; exact fun σ' H' ρ' f ab' => ⟨τ', ρ', G', f, ab', ok.fut f⟩
  · cases f with
    | next =>
      obtain ⟨σ', H', I', q⟩ := h1
      exact he pins s1 σ' H' Dd (inv_of I') q
    | brk => exact sp_of h1
    | cont => exact sp_of h1
    | ret u => exact sp_of h1
end
end L3
end
section
set_option Elab.async false
set_option linter.all false
set_option maxRecDepth 100000
namespace L3
open PySem PySem.Spec L2
noncomputable def closOf (env : Env) : List (Str × NameKind) → List (Str × Addr) → List (Str × Addr)
  | [], acc => acc
  | (n, k) :: r, acc => closOf env r (if k == .free then (match env.cells.lookup n with | some c => (n, c) :: acc | none => acc) else acc)
theorem closureFor_eq {scope : Scope} {env : Env} (h : ∀ x ∈ scope.names, x.2 = .free → ∃ c, env.cells.lookup x.1 = some c) : closureFor scope env = pure (closOf env scope.names []) := by
  unfold closureFor
  have key : ∀ (names : List (Str × NameKind)) (acc : List (Str × Addr)), (∀ x ∈ names, x.2 = .free → ∃ c, env.cells.lookup x.1 = some c) →
      (forIn names acc fun x r => match x with | (name, kind) => if (kind == NameKind.free) = true then do let y ← cellOf env name; pure (ForInStep.yield ((name, y) :: r)) else pure (ForInStep.yield r)) = (pure (closOf env names acc) : Sem (List (Str × Addr))) := by
    intro names
    induction names with
    | nil => intro acc _; rfl
    | cons x r ih =>
      intro acc hx
      obtain ⟨n, k⟩ := x
      rw [List.forIn_cons]
      by_cases hk : (k == NameKind.free) = true
      · obtain ⟨c, hc⟩ := hx (n, k) List.mem_cons_self (eq_of_beq hk)
        have e : cellOf env n = pure c := by unfold cellOf; rw [hc]
        simp only [if_pos hk, e, pure_bind]
        rw [ih _ fun y hy => hx y (List.mem_cons_of_mem _ hy)]
        show _ = pure (closOf env r (if (k == NameKind.free) = true then (match env.cells.lookup n with | some c => (n, c) :: acc | none => acc) else acc))
        rw [if_pos hk, hc]
      · simp only [if_neg hk, pure_bind]
        rw [ih _ fun y hy => hx y (List.mem_cons_of_mem _ hy)]
        show _ = pure (closOf env r (if (k == NameKind.free) = true then (match env.cells.lookup n with | some c => (n, c) :: acc | none => acc) else acc))
        rw [if_neg hk]
  have k2 := key scope.names [] h
  first
    | (rw [k2]; rfl)
    | (simp only [k2, pure_bind])
    | exact k2
theorem clos_sub {env : Env} : ∀ (names : List (Str × NameKind)) (acc : List (Str × Addr)), (∀ y c, acc.lookup y = some c → env.cells.lookup y = some c) → ∀ y c, (closOf env names acc).lookup y = some c → env.cells.lookup y = some c
  | [], acc, h, y, c, e => h y c e
  | (n, k) :: r, acc, h, y, c, e => by
    refine clos_sub r _ (fun z d ez => ?_) y c e
    by_cases hk : (k == NameKind.free) = true
    · rw [if_pos hk] at ez
      cases q : env.cells.lookup n with
      | none => rw [q] at ez; exact h z d ez
      | some c' =>
        rw [q] at ez
        dsimp only at ez
        rw [List.lookup_cons] at ez
        cases hz : z == n with
        | true => rw [hz] at ez; cases ez; rw [eq_of_beq hz]; exact q
        | false => rw [hz] at ez; exact h z d ez
    · rw [if_neg hk] at ez
      exact h z d ez
theorem clos_has {env : Env} : ∀ (names : List (Str × NameKind)) (acc : List (Str × Addr)) (y : Str), ((∃ c, acc.lookup y = some c) ∨ ((y, NameKind.free) ∈ names ∧ ∃ c, env.cells.lookup y = some c)) → ∃ c, (closOf env names acc).lookup y = some c
  | [], acc, y, h => by
    rcases h with h | ⟨h, _⟩
    · exact h
    · cases h
  | (n, k) :: r, acc, y, h => by
    refine clos_has r _ y ?_
    rcases h with ⟨c, h⟩ | ⟨h, c, hc⟩
    · left
      by_cases hk : (k == NameKind.free) = true
      · rw [if_pos hk]
        cases q : env.cells.lookup n with
        | none => exact ⟨c, h⟩
        | some c' =>
          dsimp only
          rw [List.lookup_cons]
          cases hz : y == n with
          | true => exact ⟨c', rfl⟩
          | false => exact ⟨c, h⟩
      · rw [if_neg hk]; exact ⟨c, h⟩
    · rcases List.mem_cons.mp h with e | h
      · cases e
        left
        rw [if_pos (by rfl), hc]
        dsimp only
        exact ⟨c, by rw [List.lookup_cons, beq_self_eq_true]⟩
      · exact .inr ⟨h, c, hc⟩
end L3
end
section
set_option Elab.async false
set_option linter.all false
set_option maxRecDepth 100000
namespace L3
open PySem PySem.Spec L2 PyProof.Rows
noncomputable def mask {α : Type} : List Bool → List (Option α) → List (Option α)
  | _, [] => []
  | [], _ :: r => none :: mask [] r
  | k :: ks, o :: r => (if k then o else none) :: mask ks r
theorem mask_length {α : Type} : ∀ (ks : List Bool) (l : List (Option α)), (mask ks l).length = l.length
  | _, [] => by unfold mask; rfl
  | [], _ :: r => by unfold mask; simp [mask_length [] r]
  | k :: ks, o :: r => by unfold mask; simp [mask_length ks r]
theorem mask_get {α : Type} {v : α} : ∀ {ks : List Bool} {l : List (Option α)} {i : Nat}, (mask ks l)[i]? = some (some v) → ks[i]? = some true ∧ l[i]? = some (some v)
  | ks, [], i, h => by unfold mask at h; simp at h
  | [], o :: r, 0, h => by unfold mask at h; simp at h
  | [], o :: r, i + 1, h => by
    unfold mask at h
    have := (mask_get (ks := []) (l := r) (i := i) (by simpa using h)).1
    simp at this
  | k :: ks, o :: r, 0, h => by
    unfold mask at h
    cases k with
    | true => simpa using h
    | false => simp at h
  | k :: ks, o :: r, i + 1, h => by
    unfold mask at h
    have := mask_get (ks := ks) (l := r) (i := i) (by simpa using h)
    simpa using this
theorem mask_of {α : Type} {v : α} : ∀ {ks : List Bool} {l : List (Option α)} {i : Nat}, ks[i]? = some true → l[i]? = some (some v) → (mask ks l)[i]? = some (some v)
  | ks, [], i, _, h => by simp at h
  | [], o :: r, i, h, _ => by simp at h
  | k :: ks, o :: r, 0, h, e => by unfold mask; simp at h e; simp [h, e]
  | k :: ks, o :: r, i + 1, h, e => by
    unfold mask
    have := mask_of (ks := ks) (l := r) (i := i) (by simpa using h) (by simpa using e)
    simpa using this
noncomputable def relK (env : Env) (n : Str) (k : NameKind) : NameKind := if (k == .free && env.scope.kind == .function && env.kindOf n == some .cell) then .cell else k
theorem lookup_relabel {env : Env} {y : Str} : ∀ (names : List (Str × NameKind)), (names.map fun (n, k) => if (k == NameKind.free && env.scope.kind == .function && env.kindOf n == some .cell) then (n, NameKind.cell) else (n, k)).lookup y = (names.lookup y).map (relK env y)
  | [] => rfl
  | (n, k) :: r => by
    have ih := lookup_relabel (env := env) (y := y) r
    rw [List.map_cons, List.lookup_cons]
    by_cases hc : (k == NameKind.free && env.scope.kind == .function && env.kindOf n == some .cell) = true
    · rw [if_pos hc, List.lookup_cons]
      cases hy : y == n with
      | true =>
        have e : y = n := eq_of_beq hy
        subst e
        simp [relK, hc]
      | false => exact ih
    · rw [if_neg hc, List.lookup_cons]
      cases hy : y == n with
      | true =>
        have e : y = n := eq_of_beq hy
        subst e
        simp [relK, hc]
      | false => exact ih
structure CompSc (osc : Scope) (N : List Str) (scope : Scope) (xs : List Str) (ks : List Bool) : Prop where
  nd : xs.Nodup
  kind : scope.kind = .function
  nocell : ∀ y ∈ scope.names, y.2 ≠ .cell
  names : ∀ y ∈ scope.names, y.2 = .local → scope.names.lookup y.1 = some .local
  loc : ∀ x ∈ xs, scope.names.lookup x = some .local
  free : ∀ y ∈ scope.names, y.2 = .free → osc.names.lookup y.1 = some .cell ∨ osc.names.lookup y.1 = some .free
  capB : ((ks.zip N).all fun p => !p.1 || decide (scope.names.lookup p.2 = some .free)) = true
theorem CompSc.cap {osc : Scope} {N : List Str} {scope : Scope} {xs : List Str} {ks : List Bool} (S : CompSc osc N scope xs ks) : ∀ i < ks.length, ks[i]? = some true → ∀ y ∈ N[i]?, scope.names.lookup y = some .free := fun i _ hk y hy => by
  have h := List.all_eq_true.mp S.capB (true, y) (List.mem_of_getElem? (i := i) (by rw [List.getElem?_zip_eq_some]; exact ⟨hk, hy⟩))
  simpa using h
noncomputable def cxC (X : Cx) (scope : Scope) (cl : List (Str × Addr)) (xs : List Str) (C : Addr) (pins : List (Addr × Obj)) (s : Shared) (H : Hp) (fp : List Addr) (E : Value → Shared → Prop) : Cx where
  prog := X.prog
  w := X.w
  K := X.K
  mg := X.mg
  base := X.base
  A := X.A
  N := xs ++ X.N
  s₀ := s
  H₀ := H
  env := compEnvC scope cl C X.env
  outer := X.stack
  stack := X.stack
  ex := fp
  fn := fun _ => false
  calm := X.calm
  pn := X.pn ++ pins
  xe := E
section
variable {X : Cx} {scope : Scope} {xs : List Str} {x : Str} {ks : List Bool} {pins : List (Addr × Obj)} {σ : L2.St} {H : Hp} {s s4 : Shared} {fp : List Addr} {E : Value → Shared → Prop} {h1 : Heap}
theorem mem_lookup {α β : Type} [BEq α] [LawfulBEq α] : ∀ {l : List (α × β)} {a : α} {b : β}, l.lookup a = some b → (a, b) ∈ l
  | [], _, _, h => by simp at h
  | (a', b') :: r, a, b, h => by
    rw [List.lookup_cons] at h
    cases hz : a == a' with
    | true => rw [hz] at h; cases h; rw [eq_of_beq hz]; exact List.mem_cons_self
    | false => rw [hz] at h; exact List.mem_cons_of_mem _ (mem_lookup h)
theorem comp_vis (S : CompSc X.env.scope X.N scope xs ks) {cl : List (Str × Addr)} {C : Addr} {y : Str} (h : (compEnvC scope cl C X.env).kindOf y = some .cell ∨ (compEnvC scope cl C X.env).kindOf y = some .free) : scope.names.lookup y = some .free := by
  have h' : (scope.names.lookup y).map (relK X.env y) = some .cell ∨ (scope.names.lookup y).map (relK X.env y) = some .free := by
    rw [← lookup_relabel]; exact h
  cases q : scope.names.lookup y with
  | none => rw [q] at h'; rcases h' with h' | h' <;> cases h'
  | some k =>
    rw [q] at h'
    cases k with
    | free => rfl
    | cell => exact absurd rfl (S.nocell _ (mem_lookup q))
    | _ => rcases h' with h' | h' <;> simp [relK] at h'
theorem comp_seen (S : CompSc X.env.scope X.N scope xs ks) {cl : List (Str × Addr)} {C : Addr} {y : Str} (h : scope.names.lookup y = some .free) : (compEnvC scope cl C X.env).kindOf y = some .cell ∨ (compEnvC scope cl C X.env).kindOf y = some .free := by
  have e : (compEnvC scope cl C X.env).kindOf y = (scope.names.lookup y).map (relK X.env y) := lookup_relabel scope.names
  rw [e, h]
  unfold relK
  dsimp only [Option.map]
  split
  · exact .inl rfl
  · exact .inr rfl
theorem comp_local (S : CompSc X.env.scope X.N scope xs ks) (hx : x ∈ xs) {cl : List (Str × Addr)} {C : Addr} : (compEnvC scope cl C X.env).kindOf x = some .local := by
  have e : (compEnvC scope cl C X.env).kindOf x = (scope.names.lookup x).map (relK X.env x) := lookup_relabel scope.names
  rw [e, S.loc x hx]
  rfl
theorem comp_start (S : CompSc X.env.scope X.N scope xs ks) (I : Inv X pins σ H s) (hf : ∀ b ∈ fp, FpOk X pins H b ∧ b < s.heap.objs.size) (hn : h1.Ns s.heap.objs.size fun _ => none) (hk : ∀ b o, s.heap.get? b = some o → h1.get? b = some o) (t : Nat) :
    Inv (cxC X scope (closOf X.env scope.names []) xs s.heap.objs.size pins s H fp E) [] (List.replicate xs.length none ++ mask ks σ) H { s with heap := h1, toks := t } := by
  have cs : ∀ y c, (closOf X.env scope.names []).lookup y = some c → X.env.cells.lookup y = some c := clos_sub scope.names [] fun y c e => by simp at e
  have lt : ∀ b o, s.heap.get? b = some o → b ≠ s.heap.objs.size := fun b o e => Nat.ne_of_lt (Heap.lt_size e)
  have celllt : ∀ y c, X.env.cells.lookup y = some c → ∃ v, s.heap.IsCell c v := fun y c e => I.cell y c e
  have fsSub : ∀ b, b ≠ X.env.locals → b ∉ X.fs → b ∉ frs X.stack := fun b h1 h2 h3 => (List.mem_cons.mp (I.stkSub b h3)).elim h1 h2
  refine ⟨⟨I.ok.mod, ?_, I.ok.glob, I.ok.blt, Nat.le_refl _, fun y z c e1 e2 => I.ok.inj y z c (cs y c e1) (cs z c e2), fun y hy => ?_, fun y c h _ => absurd (show false = true from h) Bool.false_ne_true, I.ok.hd, I.ok.frames, .inl rfl, fun b hb => ⟨Nat.ne_of_lt (hf b hb).2, fun y c e => (hf b hb).1.2.2.2.2.1 y c (cs y c e)⟩, I.bs,
      Nat.le_trans I.ok.bsz I.sz, fun b o e hb => ?_, fun b hb => fsSub b (hf b hb).1.2.1 (hf b hb).1.2.2.1, I.stack, I.stkFree⟩, rfl, I.bare, Un.kept hk, ⟨_, hn, fun i y v e1 e2 e3 => ?_⟩, fun y c e => ?_, I.hok.fresh (Nat.le_refl _), fun y c e => I.freeC y c (cs y c e), fun p hp => ?_, I.hok.kept hk, ?_⟩
  · show (relabel scope X.env).kind = .function
    exact S.kind
  · have hfree := comp_vis S hy
    have hm := mem_lookup hfree
    refine clos_has scope.names [] y (.inr ⟨hm, ?_⟩)
    exact I.ok.has y (S.free _ hm rfl)
  · rcases (hf b hb).1.2.2.2.1 with z | z
    · exact I.ok.noex b o e z
    · exact absurd (Nat.lt_of_lt_of_le (Heap.lt_size (I.ok.bs b o e).1) z) (Nat.lt_irrefl _)
  · by_cases hlt : i < xs.length
    · rw [List.getElem?_append_left (by simpa using hlt), List.getElem?_replicate] at e2
      rw [if_pos hlt] at e2; cases e2
    · obtain ⟨j, rfl⟩ : ∃ j, i = xs.length + j := ⟨i - xs.length, by omega⟩
      have e2' : (mask ks σ)[j]? = some (some v) := by
        rw [List.getElem?_append_right (by simp)] at e2
        simpa using e2
      obtain ⟨hks, eσ⟩ := mask_get e2'
      have e1' : X.N[j]? = some y := by
        have : (xs ++ X.N)[xs.length + j]? = some y := e1
        rw [List.getElem?_append_right (by omega)] at this
        simpa using this
      have hfree : scope.names.lookup y = some .free := S.cap j (List.getElem?_eq_some_iff.mp hks).1 hks y (by rw [e1']; rfl)
      obtain ⟨m, hm, hl⟩ := I.loc
      have hkind := S.free _ (mem_lookup hfree) rfl
      obtain ⟨u, r, l⟩ := hl j y v e1' eσ (hkind.elim (fun z => .inr (.inl z)) fun z => .inr (.inr z))
      refine ⟨u, r, .inr ⟨comp_seen S hfree, ?_⟩⟩
      rcases l with ⟨k, _⟩ | ⟨k, c, ec, hc⟩
      · have k' : X.env.scope.names.lookup y = some .local := k
        rcases hkind with z | z <;> (rw [k'] at z; cases z)
      · obtain ⟨c', ec'⟩ := clos_has (env := X.env) scope.names [] y (.inr ⟨mem_lookup hfree, c, ec⟩)
        have := cs y c' ec'
        rw [ec] at this; cases this
        exact ⟨c, ec', hc.keeps hk⟩
  · obtain ⟨v, hc⟩ := celllt y c (cs y c e)
    exact ⟨v, hc.keeps hk⟩
  · have hp' : p ∈ X.pn ++ pins := by
      have : p ∈ (X.pn ++ pins) ++ [] := hp
      simpa using this
    obtain ⟨e, n, ne, nf, d⟩ := I.pin p hp'
    exact ⟨hk _ _ e, n, lt _ _ e, fsSub _ ne nf, d⟩
  · show (List.replicate xs.length none ++ mask ks σ).length = (xs ++ X.N).length
    simp [mask_length, I.len]
theorem comp_store {Xc : Cx} {cl : List (Str × Addr)} {C : Addr} {σ0 : L2.St} {own : List (Option V)} {n : Nat} {v : V} {u : Value} {A' : Around} {Q : Unit → Shared → Prop} {E' : Value → Shared → Prop} {M' : Model} {px : Pos} {s0 : Shared} {H0 H1 : Hp} {s1 : Shared} {pins' : List (Addr × Obj)}
    (S : CompSc X.env.scope X.N scope xs ks) (e : Xc = cxC X scope cl xs C pins s0 H0 fp E) (hol : own.length = xs.length) (hx : xs[n]? = some x) (I : Inv Xc pins' (own ++ mask ks σ0) H1 s1) (r : RelV v u) (h : ∀ s', Inv Xc pins' (own.set n (some v) ++ mask ks σ0) H1 s' → Q () s') :
    wpAny M' A' (assign (.Name x px) Xc.env u) Q E' s1 := by
  subst e
  obtain ⟨m, hn, hl⟩ := id I.loc
  have hkl := comp_local (cl := cl) (C := C) S (List.mem_of_getElem? hx)
  refine wpAny_assign_Name (wpAny_storeName_local hkl hn (fun h' hn' hs => ?_) (by rw [show (cxC X scope cl xs C pins s0 H0 fp E).env.scope.kind = .function from S.kind]; rfl))
  refine h _ ?_
  have neL : ∀ b o, s0.heap.get? b = some o → b ≠ C := fun b o e => Nat.ne_of_lt (Nat.lt_of_lt_of_le (Heap.lt_size e) I.ok.above)
  obtain ⟨oL, _, _, hoL, _⟩ := id hn
  have hfree : H1 C = none := I.free
  refine ⟨I.ok, I.os, I.bare, ⟨fun b o e n hb hx => ?_, fun b o e n hb hx => ?_, I.base.free, fun b o e hx => ?_, I.base.tups, I.base.frzs, I.base.tbls⟩, ⟨_, hn', fun j y v' e1 e2 e3 => ?_⟩, fun y c e => ?_, I.free, I.freeC, fun p hp => ?_, fun b ob e => ?_, by simpa using I.len⟩
  · exact (hs.2 b (neL b o e)).trans (I.base.keep b o e n hb hx)
  · obtain ⟨sl, e1⟩ := I.base.slot b o e n hb hx
    exact ⟨sl, (hs.2 b (neL b o e)).trans e1⟩
  · obtain ⟨o', e1⟩ := I.base.there b o e hx
    exact ⟨o', (hs.2 b (neL b o e)).trans e1⟩
  · have hnl : n < xs.length := (List.getElem?_eq_some_iff.mp hx).1
    by_cases hlt : j < xs.length
    · have ey : xs[j]? = some y := by
        have : (xs ++ X.N)[j]? = some y := e1
        rwa [List.getElem?_append_left hlt] at this
      rw [List.getElem?_append_left (by simp; omega)] at e2
      by_cases hj : n = j
      · subst hj
        rw [hx] at ey; cases ey
        rw [List.getElem?_set, if_pos rfl, if_pos (by omega)] at e2
        cases e2
        exact ⟨u, r, .inl ⟨hkl, by simp⟩⟩
      · rw [List.getElem?_set_ne hj] at e2
        have hne : y ≠ x := by
          rintro rfl
          obtain ⟨h1, e1'⟩ := List.getElem?_eq_some_iff.mp hx
          obtain ⟨h2, e2'⟩ := List.getElem?_eq_some_iff.mp ey
          exact hj ((List.getElem_inj S.nd).mp (e1'.trans e2'.symm))
        obtain ⟨u', r', q⟩ := hl j y v' e1 (by rw [List.getElem?_append_left (by omega)]; exact e2) e3
        refine ⟨u', r', ?_⟩
        rcases q with ⟨k, e⟩ | ⟨k, c, e, z⟩
        · exact .inl ⟨k, by simpa [hne] using e⟩
        · exact .inr ⟨k, c, e, z.sameBut hs (I.cne y c e)⟩
    · obtain ⟨j, rfl⟩ : ∃ k, j = xs.length + k := ⟨j - xs.length, by omega⟩
      have e2' : (mask ks σ0)[j]? = some (some v') := by
        rw [List.getElem?_append_right (by simp; omega)] at e2
        simpa [hol] using e2
      obtain ⟨u', r', q⟩ := hl (xs.length + j) y v' e1 (by rw [List.getElem?_append_right (by omega)]; simpa [hol] using e2') e3
      refine ⟨u', r', ?_⟩
      rcases q with ⟨k, e⟩ | ⟨k, c, e, z⟩
      · obtain ⟨hks, _⟩ := mask_get e2'
        have e1' : X.N[j]? = some y := by
          have : (xs ++ X.N)[xs.length + j]? = some y := e1
          rw [List.getElem?_append_right (by omega)] at this
          simpa using this
        have hfr : scope.names.lookup y = some .free := S.cap j (List.getElem?_eq_some_iff.mp hks).1 hks y (by rw [e1']; rfl)
        rcases comp_seen (cl := cl) (C := C) S hfr with z | z
        · have k' : (compEnvC scope cl C X.env).kindOf y = some .local := k
          rw [k'] at z; cases z
        · have k' : (compEnvC scope cl C X.env).kindOf y = some .local := k
          rw [k'] at z; cases z
      · exact .inr ⟨k, c, e, z.sameBut hs (I.cne y c e)⟩
  · obtain ⟨w', z⟩ := I.cell y c e
    exact ⟨w', z.sameBut hs (I.cne y c e)⟩
  · obtain ⟨e, n, ne, nf, d⟩ := I.pin p hp
    exact ⟨(hs.2 p.1 ne).trans e, n, ne, nf, d⟩
  · refine (I.hok b ob e).stay (fun c w' hc q => (hs.2 c ?_).trans q) (fun _ q => q) fun _ _ q => q
    intro ec
    rcases hc with hc | hc
    · have : H1 C = some ob := by rw [← (show c = C from ec), hc]; exact e
      rw [hfree] at this; cases this
    · have : H1 C = some (.own b) := by rw [← (show c = C from ec)]; exact hc
      rw [hfree] at this; cases this
noncomputable def ownN : V → Hp → List V → Prop := fun x _ vs => vs = [x]
noncomputable def Own (X : Cx) (scope : Scope) (xs : List Str) (ks : List Bool) (tg : Expr) (ow : V → Hp → List V → Prop) : Prop :=
  ∀ (cl : List (Str × Addr)) (C : Addr) (pins : List (Addr × Obj)) (s0 : Shared) (H0 : Hp) (fp : List Addr) (E : Value → Shared → Prop) (Xc : Cx) (σ0 : L2.St) (own : List (Option V)) (x : V) (vs : List V) (u : Value) (H1 : Hp) (s1 : Shared) (pins' : List (Addr × Obj)) (E' : Value → Shared → Prop) (Q : Unit → Shared → Prop),
    Xc = cxC X scope cl xs C pins s0 H0 fp E → own.length = xs.length → Inv Xc pins' (own ++ mask ks σ0) H1 s1 → RelV x u → ow x H1 vs →
    (vs.length = xs.length → ∀ s', Inv Xc pins' (vs.map some ++ mask ks σ0) H1 s' → Q () s') → wpAny (model X.prog X.w) X.A (assign tg Xc.env u) Q E' s1
theorem own_name {px : Pos} (S : CompSc X.env.scope X.N scope [x] ks) : Own X scope [x] ks (.Name x px) ownN := by
  intro cl C pins s0 H0 fp E Xc σ0 own v vs u H1 s1 pins' E' Q e ho I r hv h
  cases hv
  match own, ho with
  | [a], _ => exact comp_store (own := [a]) (n := 0) S e rfl rfl I r fun s' I' => h rfl s' I'
end
end L3
end
section
set_option Elab.async false
set_option linter.all false
set_option maxRecDepth 100000
namespace L3
open PySem PySem.Spec L2
theorem compLoop_gen {prog : Program} {w : World} {A : Around} {R : Result → Shared → Prop} {s : Shared} {elt target iter : Expr} {ifs : List Expr} {scope : Scope} {pos : Pos} {it acc : Value} {env : Env} (I : Nat → Shared → Prop)
    (turn : ∀ (n : Nat) (s : Shared), I n s → wpAny (model prog w) A (pyNext it) (fun r s₁ => match r with
      | none => R (.ok .next) s₁
      | some v => wpAny (model prog w) A (letOwnedTupleGo target it v) (fun _ s₁' => wpAny (model prog w) A (assign target env v) (fun _ s₂ => wpAny (model prog w) A (forIn ifs true fun c r => if r = true then do let ok ← isTrue c env (eval c env); pure (ForInStep.yield ok) else pure (ForInStep.yield r)) (fun ok s₃ => if ok = true then wpAny (model prog w) A (eval elt env) (fun x s₄ => wpAny (model prog w) A (call (.builtin "list.append") [acc, x]) (fun _ s₅ => ∃ m, m < n ∧ I m s₅) (notedBy (model prog w) A env fun e s' => R (.error e) s') s₄) (notedBy (model prog w) A env fun e s' => R (.error e) s') s₃ else ∃ m, m < n ∧ I m s₃) (notedBy (model prog w) A env fun e s' => R (.error e) s') s₂) (notedBy (model prog w) A env fun e s' => R (.error e) s') s₁') (notedBy (model prog w) A env fun e s' => R (.error e) s') s₁) (notedBy (model prog w) A env fun e s' => R (.error e) s') s) (n : Nat) (h : I n s) :
    codeAny (model prog w) A (.compLoop (.ListComp elt [⟨target, iter, ifs, 0⟩] scope pos) 0 it acc env) R s := by
  refine codeAny_loop rfl I (fun n s hI => ?_) n h
  refine wpAny_noted ?_
  rw [compTurn_list]
  refine wpAny_bind (wpAny_standAt (wpAny_bind (wpAny_mono (turn n s hI) (fun r s₁ h₁ => ?_) fun _ _ z => z)))
  cases r with
  | none => exact wpAny_pure h₁
  | some v =>
    refine wpAny_bind (wpAny_mono h₁ (fun _ s₂ h₂ => wpAny_bind (wpAny_mono h₂ (fun _ s₃ h₃ => wpAny_bind (wpAny_mono h₃ (fun ok s₄ h₄ => ?_) fun _ _ z => z)) fun _ _ z => z)) fun _ _ z => z)
    cases ok with
    | false => exact wpAny_pure ⟨rfl, h₄⟩
    | true => exact wpAny_bind (wpAny_bind (wpAny_mono h₄ (fun x s₅ h₅ => wpAny_bind (wpAny_mono h₅ (fun _ s₆ h₆ => wpAny_pure (wpAny_pure ⟨rfl, h₆⟩)) fun _ _ z => z)) fun _ _ z => z))
noncomputable def CT (X : Cx) (ifs : List Expr) (tt : TT) : Prop := ∀ (pins : List (Addr × Obj)) (s : Shared) (σ : L2.St) (H : Hp) (Q : Bool → Hp → Prop), Inv X pins σ H s → tt σ H Q →
  wpAny (model X.prog X.w) X.A (forIn ifs true fun c r => if r = true then do let ok ← isTrue c X.env (eval c X.env); pure (ForInStep.yield ok) else pure (ForInStep.yield r)) (TP X pins σ Q) X.xe s
theorem ct_nil {X : Cx} : CT X [] (fun _ H Q => Q true H) := fun _ _ _ H _ I h => wpAny_tests_nil ⟨H, I, h⟩
theorem ct_one {X : Cx} {c : Expr} {t : TT} (h : PT X c t) : CT X [c] t := fun pins s σ H Q I q => wpAny_tests_one (h pins s σ H Q I q)
noncomputable def tComp (wi : TI) (ks : List Bool) (ow : V → Hp → List V → Prop) (tt : TT) (te : TE) : TE := fun σ H Q => wi σ H fun J H1 => ∀ D, H1 D = none → ∃ W : Nat → Nat → Hp → Prop, (∃ m, W 0 m (upd H1 D (.lst []))) ∧ ∀ i m H, W i m H →
   (J.stop i H ∧ Q (.ref D) H) ∨ (J.go i H ∧ ∀ x H', J.yld i H x H' → ∃ vs, ow x H' vs ∧ tt (vs.map some ++ mask ks σ) H' fun b H2 => if b = true then te (vs.map some ++ mask ks σ) H2 fun v H3 => ∃ ys, H3 D = some (.lst ys) ∧ ys.length < sizeLine ∧ ∃ m', m' < m ∧ W (i + 1) m' (upd H3 D (.lst (ys ++ [v]))) else ∃ m', m' < m ∧ W (i + 1) m' H2)
section
variable {X : Cx} {scope : Scope} {xs : List Str} {tg : Expr} {ow : V → Hp → List V → Prop} {ks : List Bool} {pins : List (Addr × Obj)} {σ : L2.St} {H : Hp} {s s4 : Shared} {fp : List Addr} {E : Value → Shared → Prop} {h1 : Heap} {elt iter : Expr} {ifs : List Expr} {px pos : Pos} {tt : TT} {te : TE} {wi : TI}
theorem frames_move {h h' B B' : Heap} : ∀ {l : List Env}, h.FunFrames B l → (∀ b ∈ frs l, ∀ o, h.get? b = some o → (∀ vs, o.data ≠ .fields vs) → ∃ o', h'.get? b = some o' ∧ o'.data = o.data) → (∀ b ∈ frs l, B'.get? b = none) → h'.FunFrames B' l
  | [], _, _, _ => trivial
  | env :: r, ⟨hk, ⟨L, o, hf, _, ho, hd⟩, hr⟩, hm, hB => by
    have sub : ∀ b, b = L ∨ b ∈ frs r → b ∈ frs (env :: r) := fun b hb => by
      unfold frs; rw [List.filterMap_cons, hf]
      rcases hb with z | z
      · rw [z]; exact List.mem_cons_self
      · exact List.mem_cons_of_mem _ z
    obtain ⟨o', e1, e2⟩ := hm L (sub L (.inl rfl)) o ho hd
    exact ⟨hk, ⟨L, o', hf, hB L (sub L (.inl rfl)), e1, by rw [e2]; exact hd⟩, frames_move hr (fun b hb => hm b (sub b (.inr hb))) fun b hb => hB b (sub b (.inr hb))⟩
theorem comp_raise {EE : EXK} {D C e : Addr} {cls : Value} {c : XD} {pins' : List (Addr × Obj)} {σ' : L2.St} {H' HD : Hp} {s3 s' : Shared} {cl : List (Str × Addr)} {RE : Value → Shared → Prop} (hXL : XLnk X EE) (hst : ∃ env0 outer0 L, X.stack = env0 :: outer0 ∧ X.env.frame = env0.frame ∧ env0.frame = some L)
    (I3 : Inv X pins σ HD s3) (hC : C = s3.heap.objs.size) (f3 : ∀ b ∈ fp, FpOk X pins HD b ∧ b < s3.heap.objs.size)
    (hRE : ∀ s'' : Shared, (∃ m, s''.heap.Ns C m ∧ ∀ h', Heap.SameBut C s''.heap h' → ∀ cenv : Env, cenv.locals = C → wpAny (model X.prog X.w) X.A (passOn "comprehension.variables-let-go" (.ref e) cenv : Sem Value) (fun _ _ => False) X.xe { s'' with heap := h' }) → RE (.ref e) s'')
    (I' : Inv (cxC X scope cl xs C pins s3 HD fp E) pins' σ' H' s') (fx : FlyX (cxC X scope cl xs C pins s3 HD fp E) H' e cls s') (hc : ClsIs X.mg c cls) (ee : EE c σ H') :
    notedBy (model X.prog X.w) X.A (compEnvC scope cl C X.env) RE (.ref e) s' := by
  obtain ⟨B, fb, hok, cov⟩ := fx
  obtain ⟨env0, outer0, L, h1, h2, h3⟩ := hst
  show wpAny _ X.A (noteFrame (.ref e) (compEnvC scope cl C X.env)) _ _ s'
  rw [note_frame (show (compEnvC scope cl C X.env).frame = env0.frame from h2)]
  have hfr : X.A.frames = some (env0 :: outer0) := by rw [← h1]; exact I3.ok.frames
  have fb' : FlyB B (env0 :: outer0) e cls s'.heap := by rw [← h1]; exact fb
  refine note_ok hfr h3 fb' fun h5 a0 hH u5 => ?_
  obtain ⟨k1, k2, k3, oe, vs, T, oT, ts, he, hcls, hd, hv1, hnT, hTe, hT, hdT, ht3⟩ := hH
  have k3' : h5.FunFrames B X.stack := by rw [h1]; exact k3
  obtain ⟨m, hm, _⟩ := id I'.loc
  have hm5 : h5.Ns C m := u5.ns hm
  refine hRE _ ⟨m, hm5, fun h6 sb cenv _ => ?_⟩
  obtain ⟨oC, esC, epC, hoC, hdC, _⟩ := id hm5
  have neC : ∀ {b : Addr} {o : Obj} {ws : Array Value}, h5.get? b = some o → o.data = .fields ws → b ≠ C := fun {b o ws} q d z => by
    rw [z, hoC] at q; cases q; rw [hdC] at d; cases d
  have he6 := (sb.2 e (neC he hd)).trans he
  have hT6 := (sb.2 T (neC hT hdT)).trans hT
  have sz3 : 3 < ts.size := (Array.getElem?_eq_some_iff.mp ht3).1
  unfold passOn setFlight
  refine wpAny_bind (wpAny_field he6 hd hv1 ?_)
  rw [if_neg (show ¬ ((Value.ref T == Value.none) = true) by simp)]
  have fin : X.xe (.ref e) { s' with heap := h6.update T (Obj.mapFields (·.setIfInBounds 3 (cenv.frame.elim .none fun f => rawInt f))) } := by
    have othT : ∀ b, b ≠ T → (h6.update T (Obj.mapFields (·.setIfInBounds 3 (cenv.frame.elim .none fun f => rawInt f)))).get? b = h6.get? b := fun b hb => Heap.get?_update_other _ _ (Ne.symm hb)
    have oth : ∀ b, b ≠ T → b ≠ C → (h6.update T (Obj.mapFields (·.setIfInBounds 3 (cenv.frame.elim .none fun f => rawInt f)))).get? b = h5.get? b := fun b hb hb2 => (othT b hb).trans (sb.2 b hb2)
    generalize hh7 : h6.update T (Obj.mapFields (·.setIfInBounds 3 (cenv.frame.elim .none fun f => rawInt f))) = h7 at othT oth
    have hT7 : h7.get? T = some (Obj.mapFields (·.setIfInBounds 3 (cenv.frame.elim .none fun f => rawInt f)) oT) := by rw [← hh7]; exact Heap.get?_update_self _ hT6 (Obj.isFreed_of_fields (Obj.data_mapFields hdT _))
    have BnT : ∀ b o, B.get? b = some o → b ≠ T := fun b o q z => by rw [z, hnT] at q; cases q
    have stB : ∀ b o, (B.hide C).get? b = some o → h7.get? b = some o := fun b o q => by
      have q' := Heap.of_hide q
      have nC : b ≠ C := fun z => by rw [z, Heap.hide_self] at q; cases q
      rw [oth b (BnT b o q') nC]
      exact k1 b o q'
    have hide : ∀ b o, b ≠ C → B.get? b = some o → (B.hide C).get? b = some o := fun b o z q => (Heap.hide_ne B z).trans q
    have lt3 : ∀ b o, s3.heap.get? b = some o → b ≠ C := fun b o q => by rw [hC]; exact Nat.ne_of_lt (Heap.lt_size q)
    have hokB : HOk X.prog X.w H' (B.hide C) := hok_hide hok fun b o n q => hide b o (fun z => n (by rw [z]; exact I'.free)) q
    have nfs : ∀ b, b ∉ frs X.stack → b ∉ X.fs := fun b hb z => hb (by
      rcases I3.ok.stk with q | ⟨q, _⟩
      · rw [q]; exact z
      · rw [q]; unfold frs; rw [List.filterMap_cons]; split
        · exact z
        · exact List.mem_cons_of_mem _ z)
    have slot : ∀ b o, s3.heap.get? b = some o → b ∈ frs X.stack → ∃ sl, h7.get? b = some { o with slots := sl } := fun b o q hb => by
      obtain ⟨_, o', q', hnf⟩ := I3.stack.mem hb
      rw [q] at q'; cases q'
      obtain ⟨sl, e1⟩ := I'.base.slot b o q (I3.stkFree b hb) hb fun z => (I'.ok.exfs b z) hb
      obtain ⟨sl', e2⟩ := u5 b _ e1 hnf
      refine ⟨sl', ?_⟩
      rw [oth b (fun z => by rw [z, hT] at e2; cases e2; exact hnf _ hdT) (lt3 b o q)]
      exact e2
    have un : Un (frs X.stack) fp HD H' s3.heap h7 := ⟨fun b o q n hb hx => stB b o (hide b o (lt3 b o q) (cov.keep b o q n hb hx)), fun b o q n hb hx => slot b o q hb, fun b o q n hx => I'.base.free b o q n hx, fun b o q hx => by
      by_cases hb : b ∈ frs X.stack
      · obtain ⟨sl, z⟩ := slot b o q hb
        exact ⟨_, z⟩
      · obtain ⟨o', z⟩ := cov.there b o q hb hx
        exact ⟨o', stB b o' (hide b o' (lt3 b o q) z)⟩, I'.base.tups, I'.base.frzs, I'.base.tbls⟩
    have I7 : Inv X pins σ H' { s' with heap := h7 } := I3.call' (ch := fp) I'.os un (hokB.kept stB) I'.bare fun b hb => by
      obtain ⟨g0, g1, g2, g3, g4, g5⟩ := (f3 b hb).1
      exact ⟨g3, g1, g4, g5⟩
    have nfp : ∀ b o, X.s₀.heap.get? b = some o → b ∉ X.ex → b ∉ fp := fun b o q hx hb => by
      obtain ⟨g0, g1, g2, g3, g4, g5⟩ := (f3 b hb).1
      rcases g3 with z | z
      · exact hx z
      · exact absurd (Nat.lt_of_lt_of_le (Heap.lt_size q) z) (Nat.lt_irrefl _)
    refine hXL pins σ H' _ e cls c I7 ⟨B.hide C, ⟨stB, ?_, ?_, .inr ⟨a0, _, oe, vs, T, _, _, ?_, hcls, hd, hv1, ?_, hTe, hT7, Obj.data_mapFields hdT _, by simp [sz3]; rfl⟩⟩, hokB, ⟨fun b o q n hb hx => ?_, fun b o q hb hx => ?_, fun p hp => ?_⟩⟩ hc ee
    · cases q : (B.hide C).get? e with
      | none => rfl
      | some o => have := Heap.of_hide q; rw [k2] at this; cases this
    · refine frames_move k3' (fun b hb o q hnf => ?_) fun b hb => ?_
      · refine ⟨o, ?_, rfl⟩
        show h7.get? b = some o
        rw [oth b (fun z => by rw [z, hT] at q; cases q; exact hnf _ hdT) ?_]
        · exact q
        · obtain ⟨_, o', q', _⟩ := I3.stack.mem hb
          exact lt3 b o' q'
      · cases q : (B.hide C).get? b with
        | none => rfl
        | some o => have := Heap.of_hide q; rw [(k3'.mem hb).1] at this; cases this
    · exact (oth e (Ne.symm hTe) (neC he hd)).trans he
    · cases q : (B.hide C).get? T with
      | none => rfl
      | some o => have := Heap.of_hide q; rw [hnT] at this; cases this
    · have q3 := I3.base.keep b o q n (nfs b hb) hx
      exact hide b o (lt3 b o q3) (cov.keep b o q3 (I3.base.free b o q n hx) hb (nfp b o q hx))
    · obtain ⟨o', q3⟩ := I3.base.there b o q hx
      obtain ⟨o'', z⟩ := cov.there b o' q3 hb (nfp b o q hx)
      exact ⟨o'', hide b o'' (lt3 b o' q3) z⟩
    · exact hide _ _ (lt3 _ _ (I3.pin p (List.mem_append_left _ hp)).1) (cov.pins p (List.mem_append_left _ hp))
  first
    | (refine wpAny_bind (wpAny_pure ?_); refine wpAny_bind (wpAny_bind (wpAny_field he6 hd hv1 ?_)))
    | refine wpAny_bind (wpAny_bind (wpAny_field he6 hd hv1 ?_))
  rw [if_pos (show (Value.ref T != Value.none) = true by simp)]
  exact wpAny_setField hT6 hdT sz3 (wpAny_throw fin)
theorem comp_block {Q : VK} {J : It} {it : Addr} {tn : Nat → Heap → Prop} {RR : Value → Addr → Result → Shared → Prop} {EE : EXK} (hXL : XLnk X EE) (hst : ∃ env0 outer0 L, X.stack = env0 :: outer0 ∧ X.env.frame = env0.frame ∧ env0.frame = some L) (S : CompSc X.env.scope X.N scope xs ks) (how : Own X scope xs ks tg ow) (hc : X.calm = true) (I : Inv X pins σ H s)
    (T : Turn X.prog X.w X.K tg J fp it tn) (st : tn 0 s.heap) (hf : ∀ b ∈ fp, FpOk X pins H b)
    (hb : ∀ (cl : List (Str × Addr)) (C : Addr) (pins : List (Addr × Obj)) (s0 : Shared) (H0 : Hp) (fp : List Addr) (E : Value → Shared → Prop), XLnk (cxC X scope cl xs C pins s0 H0 fp E) (fun c _ H' => EE c σ H') → CT (cxC X scope cl xs C pins s0 H0 fp E) ifs tt ∧ PE (cxC X scope cl xs C pins s0 H0 fp E) elt te)
    (hw : ∀ D, H D = none → ∃ W : Nat → Nat → Hp → Prop, (∃ m, W 0 m (upd H D (.lst []))) ∧ ∀ i m H, W i m H →
      (J.stop i H ∧ Q (.ref D) H) ∨ (J.go i H ∧ ∀ x H', J.yld i H x H' → ∃ vs, ow x H' vs ∧ tt (vs.map some ++ mask ks σ) H' fun b H2 => if b = true then te (vs.map some ++ mask ks σ) H2 fun v H3 => ∃ ys, H3 D = some (.lst ys) ∧ ys.length < sizeLine ∧ ∃ m', m' < m ∧ W (i + 1) m' (upd H3 D (.lst (ys ++ [v]))) else ∃ m', m' < m ∧ W (i + 1) m' H2))
    (hRR : ∀ (D C : Addr) (s' : Shared) (H' : Hp) (m : Str → Option Value), Inv X pins σ H' s' → s'.heap.Ns C m → H' C = none → C ≠ X.env.locals → X.s₀.heap.objs.size ≤ C → (∀ x c, X.env.cells.lookup x = some c → c ≠ C) → (∀ p ∈ X.pn ++ pins, p.1 ≠ C) → Q (.ref D) H' → RR (.ref D) C (.ok .next) s')
    (hRE : ∀ (acc : Value) (C e : Addr) (s'' : Shared), (∃ m, s''.heap.Ns C m ∧ ∀ h', Heap.SameBut C s''.heap h' → ∀ cenv : Env, cenv.locals = C → wpAny (model X.prog X.w) X.A (passOn "comprehension.variables-let-go" (.ref e) cenv : Sem Value) (fun _ _ => False) X.xe { s'' with heap := h' }) → RR acc C (.error (.ref e)) s'') :
    wpAny (model X.prog X.w) X.A (newList []) (fun acc s₃ => wpAny (model X.prog X.w) X.A (newFunctionEnv scope X.env.globals (closOf X.env scope.names []) [] X.env.qual none .none (some X.env)) (fun cenv s₄ =>
      codeAny (model X.prog X.w) X.A (.compStart (.ListComp elt [⟨tg, iter, ifs, 0⟩] scope pos) 0 (.ref it) acc { cenv with scope := relabel scope X.env }) (RR acc cenv.locals) s₄) E s₃) E s := by
  refine wpAny_newObj_type (wpAny_newFunctionEnv S.nocell (by intro y hy; simp at hy) (fun h₁ hns₁ hsb₁ => ?_) S.kind)
  have I3 : Inv X pins σ (upd H s.heap.objs.size (.lst [])) { s with heap := s.heap.push { cls := .type "list", dict := none, data := .seq ([] : List Value).toArray } } :=
    I.laid (t' := s.toks) (fun b o e => Heap.get?_push_of_some _ e) (Nat.le_refl _) ⟨Nat.zero_le _, [], 0, .nil, Heap.get?_push_size _ rfl⟩
  have hfree := I.hok.fresh (Nat.le_refl s.heap.objs.size)
  generalize hs3 : ({ s with heap := s.heap.push { cls := .type "list", dict := none, data := .seq ([] : List Value).toArray } } : Shared) = s3 at I3 hns₁ hsb₁ ⊢
  have hsz : s3.heap.objs.size = s.heap.objs.size + 1 := by rw [← hs3]; exact Heap.size_push ..
  have old3 : ∀ b o, s.heap.get? b = some o → s3.heap.get? b = some o := fun b o e => by rw [← hs3]; exact Heap.get?_push_of_some _ e
  have fplt : ∀ b ∈ fp, b < s.heap.objs.size := fun b hb' => by
    obtain ⟨o, e, _⟩ := T.obj 0 _ st b hb'
    exact Heap.lt_size e
  have f3 : ∀ b ∈ fp, FpOk X pins (upd H s.heap.objs.size (.lst [])) b ∧ b < s3.heap.objs.size := fun b hb' =>
    ⟨⟨by rw [upd_ne (Nat.ne_of_lt (fplt b hb'))]; exact (hf b hb').1, (hf b hb').2⟩, by rw [hsz]; exact Nat.lt_succ_of_lt (fplt b hb')⟩
  have keep1 : ∀ b o, s3.heap.get? b = some o → h₁.get? b = some o := fun b o e => hsb₁.extBut b o (Nat.ne_of_lt (Heap.lt_size e)) (Heap.get?_push_of_some _ e)
  obtain ⟨W, ⟨m0, w0⟩, turn⟩ := hw s.heap.objs.size hfree
  generalize hX : cxC X scope (closOf X.env scope.names []) xs s3.heap.objs.size pins s3 (upd H s.heap.objs.size (.lst [])) fp (notedBy (model X.prog X.w) X.A (compEnvC scope (closOf X.env scope.names []) s3.heap.objs.size X.env) fun e s' => RR (.ref s.heap.objs.size) s3.heap.objs.size (.error e) s') = Xc
  have I4 : Inv Xc [] (List.replicate xs.length none ++ mask ks σ) (upd H s.heap.objs.size (.lst [])) { s3 with heap := h₁, toks := s3.toks + ([] : List (Str × Value)).length } := by
    rw [← hX]
    exact comp_start S I3 f3 (by simpa using hns₁) keep1 _
  have hbe : CT Xc ifs tt ∧ PE Xc elt te := by
    rw [← hX]
    exact hb _ _ _ _ _ _ _ fun pins' σ' H' s' e cls c I' fx hc ee => comp_raise (RE := fun e s' => RR (.ref s.heap.objs.size) s3.heap.objs.size (.error e) s') (D := s.heap.objs.size) hXL hst I3 rfl f3 (fun s'' => hRE _ _ e s'') I' fx hc ee
  have eprog : Xc.prog = X.prog := by rw [← hX]; rfl
  have ew : Xc.w = X.w := by rw [← hX]; rfl
  have eK : Xc.K = X.K := by rw [← hX]; rfl
  have eA : Xc.A = X.A := by rw [← hX]; rfl
  have ecalm : Xc.calm = true := by rw [← hX]; exact hc
  have exe : Xc.xe = notedBy (model X.prog X.w) X.A Xc.env fun e s' => RR (.ref s.heap.objs.size) s3.heap.objs.size (.error e) s' := by rw [← hX]; rfl
  have eenv : Xc.env = compEnvC scope (closOf X.env scope.names []) s3.heap.objs.size X.env := by rw [← hX]; rfl
  have estk : Xc.stack = X.stack := by rw [← hX]; rfl
  have fok : ∀ {H' : Hp}, (∀ b ∈ fp, H' b = none) → ∀ b ∈ fp, FpOk Xc [] H' b := fun {H'} hn b hb' => by
    obtain ⟨g0, g1, g2, g3, g4, g5⟩ := (f3 b hb').1
    rw [← hX]
    refine ⟨hn b hb', Nat.ne_of_lt (f3 b hb').2, fun z => (List.mem_cons.mp (I3.stkSub b z)).elim g1 g2, .inl hb', fun y c e => g4 y c (clos_sub scope.names [] (fun y c e => by simp at e) y c e), fun p hp => g5 p ?_⟩
    have : p ∈ (X.pn ++ pins) ++ [] := hp
    simpa using this
  have fin : ∀ (s' : Shared) (H' : Hp) (a0 : List (Option V)), Inv Xc [] (a0 ++ mask ks σ) H' s' → Q (.ref s.heap.objs.size) H' → RR (.ref s.heap.objs.size) s3.heap.objs.size (.ok .next) s' := fun s' H' a0 I' q => by
    have hloc := I'.loc
    obtain ⟨m, hm, _⟩ := hloc
    have hC : H' s3.heap.objs.size = none := by have := I'.free; rw [eenv] at this; exact this
    have hU : Un (frs X.stack) fp (upd H s.heap.objs.size (.lst [])) H' s3.heap s'.heap := by
      have := I'.base
      rw [← hX] at this
      exact this
    have hos : s'.os = s3.os := by have := I'.os; rw [← hX] at this; exact this
    have hhok : HOk X.prog X.w H' s'.heap := by have := I'.hok; rw [← hX] at this; exact this
    have I5 : Inv X pins σ H' s' := I3.call' hos hU hhok I'.bare fun b hb' => by
      obtain ⟨g0, g1, g2, g3, g4, g5⟩ := (f3 b hb').1
      exact ⟨g3, g1, g4, g5⟩
    refine hRR _ _ s' H' m I5 (by rw [eenv] at hm; exact hm) hC (Nat.ne_of_gt I3.lt) (Nat.le_trans I3.sz (Nat.le_refl _)) (fun y c e z => ?_) (fun p hp z => ?_) q
    · obtain ⟨v, hv⟩ := I3.cell y c e
      exact absurd hv.lt (by rw [z]; exact Nat.lt_irrefl _)
    · exact absurd (Heap.lt_size (I3.pin p hp).1) (by rw [z]; exact Nat.lt_irrefl _)
  have loop : codeAny (model X.prog X.w) X.A (.compLoop (.ListComp elt [⟨tg, iter, ifs, 0⟩] scope pos) 0 (.ref it) (.ref s.heap.objs.size) Xc.env) (RR (.ref s.heap.objs.size) s3.heap.objs.size)
      { s3 with heap := h₁, toks := s3.toks + ([] : List (Str × Value)).length } := by
    refine compLoop_gen (fun n s' => ∃ i a0 H', a0.length = xs.length ∧ Inv Xc [] (a0 ++ mask ks σ) H' s' ∧ tn i s'.heap ∧ (∀ b ∈ fp, H' b = none) ∧ W i n H') ?_ m0 ⟨0, List.replicate xs.length none, _, by simp, I4, T.keep 0 _ _ st fun b hb' o e => keep1 b o (old3 b o e), fun b hb' => (f3 b hb').1.1, w0⟩
    rintro n s5 ⟨i, a0, H5, la0, I5, st5, fr5, w5⟩
    rcases turn i n H5 w5 with ⟨stop, q⟩ | ⟨go, step⟩
    · have hd := T.done Xc eprog ew eK ecalm i [] s5 _ H5 (fun _ _ => False) I5 (fok fr5) st5 stop
      rw [eA] at hd
      refine wpAny_mono hd (fun r s6 hr => ?_) (fun _ _ z => False.elim z)
      obtain ⟨rfl, I6⟩ := hr
      exact fin s6 H5 a0 I6 q
    · have hd := T.item Xc eprog ew eK ecalm i [] s5 _ H5 (fun _ _ => False) I5 (fok fr5) st5 go
      rw [eA] at hd
      refine wpAny_mono hd (fun r s6 hr => ?_) (fun _ _ z => False.elim z)
      obtain ⟨u, rfl, h6⟩ := hr
      refine wpAny_mono h6 (fun _ s7 hq => ?_) (fun _ _ z => False.elim z)
      obtain ⟨v, H7, I7, r7, y7, st7, fr7⟩ := hq
      obtain ⟨vs, hvs, step⟩ := step v H7 y7
      have I7' : Inv Xc (pinsAt fp s7.heap) (a0 ++ mask ks σ) H7 s7 := by
        have := Inv.pinned (pins := []) I7 (fok fr7) (T.obj _ _ st7)
        simpa using this
      have back : ∀ {σ' : L2.St} {H' : Hp} {s' : Shared}, Inv Xc (pinsAt fp s7.heap) σ' H' s' → Inv Xc [] σ' H' s' ∧ tn (i + 1) s'.heap ∧ ∀ b ∈ fp, H' b = none := fun {σ' H' s'} I' => by
        refine ⟨I'.pins_of fun p hp => absurd hp (by simp), T.keep _ _ _ st7 fun b hb' o e => (I'.pin (b, o) (List.mem_append_right _ (mem_pinsAt hb' e))).1, fun b hb' => ?_⟩
        obtain ⟨o, e, d⟩ := T.obj _ _ st7 b hb'
        exact (I'.pin (b, o) (List.mem_append_right _ (mem_pinsAt hb' e))).2.1
      refine how _ _ _ _ _ _ _ Xc σ a0 v vs u H7 s7 _ _ _ hX.symm la0 I7' r7 hvs fun hlv s8 I8' => ?_
      have ht := hbe.1 _ s8 _ H7 _ I8' step
      rw [eprog, ew, eA, exe] at ht
      refine wpAny_mono ht (fun okb s9 h9 => ?_) (fun _ _ z => z)
      obtain ⟨H9, I9, q9⟩ := h9
      cases okb with
      | false =>
        rw [if_neg Bool.false_ne_true] at q9 ⊢
        obtain ⟨m', hm', w'⟩ := q9
        obtain ⟨I9', st9, fr9⟩ := back I9
        exact ⟨m', hm', i + 1, vs.map some, H9, by simpa using hlv, I9', st9, fr9, w'⟩
      | true =>
        rw [if_pos rfl] at q9 ⊢
        have he := hbe.2 _ s9 _ H9 _ I9 q9
        rw [eprog, ew, eA, exe] at he
        refine wpAny_mono he (fun y s10 h10 => ?_) (fun _ _ z => z)
        obtain ⟨yv, H10, I10, r10, ys, hD, hlen, m', hm', w'⟩ := h10
        have ha := mt_append (X := Xc) _ s10 _ H10 (.ref s.heap.objs.size) [yv] (.ref s.heap.objs.size) [y] (fun _ H' => ∃ m', m' < n ∧ W (i + 1) m' H') I10 rfl (.cons r10 .nil) ⟨_, ys, yv, rfl, rfl, hD, hlen, m', hm', w'⟩
        rw [eprog, ew, eA, exe] at ha
        refine wpAny_mono ha (fun _ s11 h11 => ?_) (fun _ _ z => z)
        obtain ⟨_, H11, I11, _, m'', hm'', w''⟩ := h11
        obtain ⟨I11', st11, fr11⟩ := back I11
        exact ⟨m'', hm'', i + 1, vs.map some, H11, by simpa using hlv, I11', st11, fr11, w''⟩
  rw [eenv] at loop
  exact codeAny_compStart_list loop (T.self X.A 0 _ _ _ (T.keep 0 _ _ st fun b hb' o e => keep1 b o (old3 b o e)) loop)
theorem pe_comp {EE : EXK} {tt : L2.St → TT} {te : L2.St → TE} (hXL : XLnk X EE) (hst : ∃ env0 outer0 L, X.stack = env0 :: outer0 ∧ X.env.frame = env0.frame ∧ env0.frame = some L) (S : CompSc X.env.scope X.N scope xs ks) (how : Own X scope xs ks tg ow) (hc : X.calm = true) (hi : PI X tg iter wi)
    (hb : ∀ (σ : L2.St) (cl : List (Str × Addr)) (C : Addr) (pins : List (Addr × Obj)) (s0 : Shared) (H0 : Hp) (fp : List Addr) (E : Value → Shared → Prop), XLnk (cxC X scope cl xs C pins s0 H0 fp E) (fun c _ H' => EE c σ H') → CT (cxC X scope cl xs C pins s0 H0 fp E) ifs (tt σ) ∧ PE (cxC X scope cl xs C pins s0 H0 fp E) elt (te σ))
    (hs : ∀ x, foldedSetIterable iter X.env x = pure x := by intro _; rfl) : PE X (.ListComp elt [⟨tg, iter, ifs, 0⟩] scope pos) (fun σ => tComp wi ks ow (tt σ) (te σ) σ) := by
  intro pins s σ H Q I h
  rw [eval_ListComp]
  refine wpAny_comprehension_free (use := none) rfl hs (closureFor_eq fun y hy hfr => I.ok.has y.1 (S.free y hy hfr)) S.kind S.names (thn (hi pins s σ H _ I h) fun v s1 h1 => thn h1 fun itv s2 h2 => ?_)
  obtain ⟨it, fp, tn, J, H2, rfl, I2, T, st2, f2, q⟩ := h2
  refine comp_block (RR := fun acc C => compPost (model X.prog X.w) X.A X.xe none (EP X pins σ Q) acc C) hXL hst S how hc I2 T st2 f2 (hb σ) q ?_ (fun _ _ _ _ z => z)
  intro D C s' H' m I' hn hC h1 h2 h3 h4 q'
  refine ⟨m, hn, fun h' sb => ?_⟩
  exact ⟨.ref D, H', I'.turned (t' := s'.toks) (fun b o hb e => (sb.2 b hb).trans e) hC h1 (.inr h2) h3 h4, rfl, q'⟩
end
end L3
end
section
set_option Elab.async false
set_option linter.all false
set_option maxRecDepth 100000
namespace L3
open PySem PySem.Spec L2
noncomputable def oN : D → Option (List D) := fun d => some [d]
noncomputable def oT (n : Nat) : D → Option (List D)
  | .tup xs => if xs.length = n then some xs else none
  | _ => none
noncomputable def OwnD (K : PySem.W.Frag) (mg : Str → Option Value) (ow : V → Hp → List V → Prop) (gO : D → Option (List D)) : Prop :=
  ∀ (ρ : List Addr) (H : Hp) (d : D) (v : V) (os : List D), Rep K mg ρ H d v → gO d = some os → ∃ vs, ow v H vs ∧ Reps K mg ρ H os vs
theorem ownD_name {K : PySem.W.Frag} {mg : Str → Option Value} : OwnD K mg ownN oN := fun ρ H d v os r e => by
  cases e
  exact ⟨[v], rfl, .cons r .nil⟩
noncomputable def FutN (K : PySem.W.Frag) (mg : Str → Option Value) (H H' : Hp) (ρ : List Addr) : Prop := Fut K H H' ρ ρ ∧ ∀ G, HAb K mg H ρ G → HAb K mg H' ρ G
theorem FutN.refl {K : PySem.W.Frag} {mg : Str → Option Value} {H : Hp} {ρ : List Addr} : FutN K mg H H ρ := ⟨.refl, fun _ h => h⟩
noncomputable def compOne (gO : D → Option (List D)) (ks : List Bool) (tt : DS → M Bool) (te : DS → M D) (n : Nat) (d : D) (τ : DS) (G : DH) : Out Unit := match gO d with
  | none => .stuck
  | some os => match tt (os.map some ++ mask ks τ) G with
  | .ok true G1 => match te (os.map some ++ mask ks τ) G1 with
    | .ok v G2 => match G2[n]? with
      | some (.lst ys) => if ys.length < sizeLine then .ok () (G2.set n (.lst (ys ++ [v]))) else .stuck
      | _ => .stuck
    | .exn c G2 => .exn c G2
    | .stuck => .stuck
  | .ok false G1 => .ok () G1
  | .exn c G1 => .exn c G1
  | .stuck => .stuck
noncomputable def compP (gO : D → Option (List D)) (ks : List Bool) (tt : DS → M Bool) (te : DS → M D) (n : Nat) : List D → DS → DH → Out D
  | [], _, G => .ok (.obj n) G
  | d :: r, τ, G => match compOne gO ks tt te n d τ G with
    | .ok _ G' => compP gO ks tt te n r τ G'
    | .exn c G' => .exn c G'
    | .stuck => .stuck
noncomputable def compO (gO : D → Option (List D)) (ks : List Bool) (tt : DS → M Bool) (te : DS → M D) (n src : Nat) : Nat → Nat → DS → DH → Out D
  | 0, _, _, _ => .stuck
  | f + 1, k, τ, G => match G[src]? with
    | some (.lst xs) => match xs[k]? with
      | none => .ok (.obj n) G
      | some d => match compOne gO ks tt te n d τ G with
        | .ok _ G' => compO gO ks tt te n src f (k + 1) τ G'
        | .exn c G' => .exn c G'
        | .stuck => .stuck
    | _ => .stuck
noncomputable def eComp (gO : D → Option (List D)) (ks : List Bool) (m : DS → M D) (tt : DS → M Bool) (te : DS → M D) : DS → M D := fun τ => (m τ).bind fun d G => match d with
  | .obj k => match G[k]? with
    | some (.lst xs) => compO gO ks tt te G.length k (xs.length + 1) 0 τ (G ++ [.lst []])
    | _ => .stuck
  | .tup xs => compP gO ks tt te G.length xs τ (G ++ [.lst []])
  | .con xs => compP gO ks tt te G.length xs τ (G ++ [.lst []])
  | .str z => compP gO ks tt te G.length (z.cps.toList.map fun c => .str ⟨#[c]⟩) τ (G ++ [.lst []])
  | _ => .stuck
noncomputable def eCompR (rng : List D → Option (List D)) (gO : D → Option (List D)) (ks : List Bool) (m : DS → M (List D)) (tt : DS → M Bool) (te : DS → M D) : DS → M D := fun τ => (m τ).bind fun ds G => match rng ds with
  | some xs => compP gO ks tt te G.length xs τ (G ++ [.lst []])
  | none => .stuck
section
variable {X : Cx} {EE : EXK} {gO : D → Option (List D)} {ow : V → Hp → List V → Prop} {xs : List Str} {tg : Expr} {ks : List Bool} {tt : DS → M Bool} {te : DS → M D}
theorem srep_mask {K : PySem.W.Frag} {mg : Str → Option Value} {σ : L2.St} {H : Hp} {τ : DS} {ρ : List Addr} {os : List D} {vs : List V} (h : SRep K mg H ρ σ τ) (r : Reps K mg ρ H os vs) : SRep K mg H ρ (vs.map some ++ mask ks σ) (os.map some ++ mask ks τ) := by
  have hl := r.length
  refine ⟨by simp [mask_length, h.1, hl], fun i e he => ?_⟩
  by_cases hi : i < os.length
  · rw [List.getElem?_append_left (by simpa using hi), List.getElem?_map] at he
    cases q : os[i]? with
    | none => rw [q] at he; cases he
    | some d =>
      rw [q] at he; cases he
      obtain ⟨v, e1, r1⟩ := r.get q
      exact ⟨v, by rw [List.getElem?_append_left (by simp; omega), List.getElem?_map, e1]; rfl, r1⟩
  · rw [List.getElem?_append_right (by simp; omega)] at he
    obtain ⟨h1, h2⟩ := mask_get he
    obtain ⟨w, e1, r1⟩ := h.2 _ e h2
    refine ⟨w, ?_, r1⟩
    rw [List.getElem?_append_right (by simp; omega)]
    have := mask_of h1 e1
    simpa [hl] using this
noncomputable def EEc (EE : EXK) (σ : L2.St) : EXK := fun c _ H' => EE c σ H'
theorem comp_turn (hO : OwnD X.K X.mg ow gO) {W : Hp → Prop} {n : Nat} {p : Addr} {σ : L2.St} {H : Hp} {τ : DS} {ρ : List Addr} {G : DH} {d : D} {v : V} (ab : Ab X.K X.mg σ H τ ρ G) (r : Rep X.K X.mg ρ H d v) (hn : ρ[n]? = some p)
    (hW : match compOne gO ks tt te n d τ G with
      | .stuck => False
      | .ok _ G' => ∀ H' ρ', Fut X.K H H' ρ ρ' → Ab X.K X.mg σ H' τ ρ' G' → W H'
      | .exn c G' => ∀ H' ρ', Fut X.K H H' ρ ρ' → Ab X.K X.mg σ H' τ ρ' G' → EE c σ H') :
    ∃ vs, ow v H vs ∧ liftT X.K X.mg (EEc EE σ) tt (vs.map some ++ mask ks σ) H fun b H2 => if b = true then liftE X.K X.mg (EEc EE σ) te (vs.map some ++ mask ks σ) H2 fun u H3 => ∃ ys, H3 p = some (.lst ys) ∧ ys.length < sizeLine ∧ W (upd H3 p (.lst (ys ++ [u]))) else W H2 := by
  unfold compOne at hW
  cases qo : gO d with
  | none => rw [qo] at hW; exact hW.elim
  | some os =>
  rw [qo] at hW
  dsimp only at hW
  obtain ⟨us, hus, rus⟩ := hO ρ H d v os r qo
  refine ⟨us, hus, ?_⟩
  refine ⟨_, ρ, G, ⟨srep_mask ab.st rus, ab.hp⟩, ?_⟩
  cases q : tt (os.map some ++ mask ks τ) G with
  | stuck => rw [q] at hW; exact hW
  | exn c G1 => rw [q] at hW; exact fun H' ρ' f ab' => hW H' ρ' f ⟨ab.st.mono f, ab'.hp⟩
  | ok b G1 =>
    rw [q] at hW
    intro H1 ρ1 f1 ab1
    cases b with
    | false =>
      rw [if_neg Bool.false_ne_true]
      exact hW H1 ρ1 f1 ⟨ab.st.mono f1, ab1.hp⟩
    | true =>
      rw [if_pos rfl]
      dsimp only at hW
      refine ⟨_, ρ1, G1, ab1, ?_⟩
      cases q2 : te (os.map some ++ mask ks τ) G1 with
      | stuck => rw [q2] at hW; exact hW
      | exn c G2 => rw [q2] at hW; exact fun H' ρ' f ab' => hW H' ρ' (f1.trans f) ⟨ab.st.mono (f1.trans f), ab'.hp⟩
      | ok u G2 =>
        rw [q2] at hW
        dsimp only at hW
        intro w H2 ρ2 f2 ab2 r2
        cases q3 : G2[n]? with
        | none => rw [q3] at hW; exact hW.elim
        | some o =>
          cases o with
          | lst ys =>
            rw [q3] at hW
            dsimp only at hW
            by_cases hl : ys.length < sizeLine
            · rw [if_pos hl] at hW
              dsimp only at hW
              obtain ⟨p', vs, e1, e2, rs⟩ := ab2.hp.lst q3
              have f12 := f1.trans f2
              rw [f12.get hn] at e1; cases e1
              refine ⟨vs, e2, by rw [← rs.length]; exact hl, ?_⟩
              have f3 : Fut X.K H2 (upd H2 p (.lst (vs ++ [w]))) ρ2 ρ2 := fut_set e2 ρ2
              exact hW _ ρ2 (f12.trans f3) ⟨ab.st.mono (f12.trans f3), ab2.hp.put (ds := ys) (f12.get hn) e2 (rs.append (.cons r2 .nil))⟩
            · rw [if_neg hl] at hW; exact hW.elim
theorem comp_items (hO : OwnD X.K X.mg ow gO) {Q : VK} {J : It} {H0 : Hp} {σ : L2.St} {ρ0 : List Addr} {G0 : DH} {τ : DS} (ds : List D)
    (go : ∀ i H ρ, i < ds.length → Fut X.K H0 H ρ0 ρ → J.go i H) (stop : ∀ i H ρ, ds.length ≤ i → Fut X.K H0 H ρ0 ρ → J.stop i H)
    (yld : ∀ i d H ρ x H', ds[i]? = some d → Fut X.K H0 H ρ0 ρ → J.yld i H x H' → FutN X.K X.mg H H' ρ ∧ Rep X.K X.mg ρ H' d x)
    (ab : Ab X.K X.mg σ H0 τ ρ0 G0) (ok : OkE X.K X.mg EE H0 σ τ ρ0 (compP gO ks tt te G0.length ds τ (G0 ++ [.lst []])) Q) :
    ∀ D, H0 D = none → ∃ W : Nat → Nat → Hp → Prop, (∃ m, W 0 m (upd H0 D (.lst []))) ∧ ∀ i m H, W i m H →
      (J.stop i H ∧ Q (.ref D) H) ∨ (J.go i H ∧ ∀ x H', J.yld i H x H' → ∃ vs, ow x H' vs ∧ liftT X.K X.mg (EEc EE σ) tt (vs.map some ++ mask ks σ) H' fun b H2 => if b = true then liftE X.K X.mg (EEc EE σ) te (vs.map some ++ mask ks σ) H2 fun v H3 => ∃ ys, H3 D = some (.lst ys) ∧ ys.length < sizeLine ∧ ∃ m', m' < m ∧ W (i + 1) m' (upd H3 D (.lst (ys ++ [v]))) else ∃ m', m' < m ∧ W (i + 1) m' H2) := by
  intro D hD
  have f0 : Fut X.K H0 (upd H0 D (.lst [])) ρ0 (ρ0 ++ [D]) := (fut_new hD ρ0).trans (fut_more ρ0 D)
  have ab0 : Ab X.K X.mg σ (upd H0 D (.lst [])) τ (ρ0 ++ [D]) (G0 ++ [.lst []]) := ab.fut f0 (ab.hp.more hD .nil)
  have hn0 : (ρ0 ++ [D])[G0.length]? = some D := by rw [← ab.hp.hl, getElem?_concat_self]
  refine ⟨fun i m H => i ≤ ds.length ∧ m = ds.length - i ∧ ∃ ρ G, Ab X.K X.mg σ H τ ρ G ∧ Fut X.K H0 H ρ0 ρ ∧ ρ[G0.length]? = some D ∧ OkE X.K X.mg EE H σ τ ρ (compP gO ks tt te G0.length (ds.drop i) τ G) Q,
    ⟨ds.length, Nat.zero_le _, rfl, ρ0 ++ [D], _, ab0, f0, hn0, by simpa using ok.fut f0⟩, ?_⟩
  rintro i m H ⟨hi, rfl, ρ, G, ab, f, hn, ok⟩
  by_cases hlt : i < ds.length
  · refine .inr ⟨go i H ρ hlt f, fun x H' y => ?_⟩
    obtain ⟨⟨fN, hN⟩, rx⟩ := yld i ds[i] H ρ x H' (List.getElem?_eq_getElem hlt) f y
    replace ok := OkE.fut fN ok
    replace ab : Ab X.K X.mg σ H' τ ρ G := ab.fut fN (hN _ ab.hp)
    replace f := f.trans fN
    rw [List.drop_eq_getElem_cons hlt] at ok
    unfold compP at ok
    refine comp_turn hO (W := fun H3 => ∃ m', m' < ds.length - i ∧ i + 1 ≤ ds.length ∧ m' = ds.length - (i + 1) ∧ ∃ ρ G, Ab X.K X.mg σ H3 τ ρ G ∧ Fut X.K H0 H3 ρ0 ρ ∧ ρ[G0.length]? = some D ∧ OkE X.K X.mg EE H3 σ τ ρ (compP gO ks tt te G0.length (ds.drop (i + 1)) τ G) Q)
        ab rx hn ?_
    cases e : compOne gO ks tt te G0.length ds[i] τ G with
    | stuck => rw [e] at ok; exact ok
    | exn c G' => rw [e] at ok; exact ok
    | ok _ G' =>
      rw [e] at ok
      exact fun H3 ρ3 f3 ab3 => ⟨ds.length - (i + 1), by omega, hlt, rfl, ρ3, G', ab3, f.trans f3, f3.get hn, ok.fut f3⟩
  · have e : i = ds.length := by omega
    subst e
    refine .inl ⟨stop _ H ρ (Nat.le_refl _) f, ?_⟩
    rw [List.drop_eq_nil_of_le (Nat.le_refl _)] at ok
    exact ok _ H ρ .refl ab (by unfold Rep; exact ⟨D, rfl, hn⟩)
theorem comp_obj (hO : OwnD X.K X.mg ow gO) {Q : VK} {H0 : Hp} {σ : L2.St} {ρ0 : List Addr} {G0 : DH} {τ : DS} {k fuel : Nat} {p : Addr} (hk : ρ0[k]? = some p)
    (ab : Ab X.K X.mg σ H0 τ ρ0 G0) (ok : OkE X.K X.mg EE H0 σ τ ρ0 (compO gO ks tt te G0.length k fuel 0 τ (G0 ++ [.lst []])) Q) :
    ∀ D, H0 D = none → ∃ W : Nat → Nat → Hp → Prop, (∃ m, W 0 m (upd H0 D (.lst []))) ∧ ∀ i m H, W i m H →
      ((Itl X.K p).stop i H ∧ Q (.ref D) H) ∨ ((Itl X.K p).go i H ∧ ∀ x H', (Itl X.K p).yld i H x H' → ∃ vs, ow x H' vs ∧ liftT X.K X.mg (EEc EE σ) tt (vs.map some ++ mask ks σ) H' fun b H2 => if b = true then liftE X.K X.mg (EEc EE σ) te (vs.map some ++ mask ks σ) H2 fun v H3 => ∃ ys, H3 D = some (.lst ys) ∧ ys.length < sizeLine ∧ ∃ m', m' < m ∧ W (i + 1) m' (upd H3 D (.lst (ys ++ [v]))) else ∃ m', m' < m ∧ W (i + 1) m' H2) := by
  intro D hD
  have f0 : Fut X.K H0 (upd H0 D (.lst [])) ρ0 (ρ0 ++ [D]) := (fut_new hD ρ0).trans (fut_more ρ0 D)
  have ab0 : Ab X.K X.mg σ (upd H0 D (.lst [])) τ (ρ0 ++ [D]) (G0 ++ [.lst []]) := ab.fut f0 (ab.hp.more hD .nil)
  have hn0 : (ρ0 ++ [D])[G0.length]? = some D := by rw [← ab.hp.hl, getElem?_concat_self]
  refine ⟨fun i m H => ∃ ρ G, Ab X.K X.mg σ H τ ρ G ∧ Fut X.K H0 H ρ0 ρ ∧ ρ[G0.length]? = some D ∧ OkE X.K X.mg EE H σ τ ρ (compO gO ks tt te G0.length k m i τ G) Q,
    ⟨fuel, ρ0 ++ [D], _, ab0, f0, hn0, ok.fut f0⟩, ?_⟩
  rintro i m H ⟨ρ, G, ab, f, hn, ok⟩
  cases m with
  | zero => exact ok.elim
  | succ m =>
    unfold compO at ok
    cases q : G[k]? with
    | none => rw [q] at ok; exact ok.elim
    | some o =>
      cases o with
      | lst ds =>
        rw [q] at ok
        dsimp only at ok
        obtain ⟨p', xs, e1, e2, rs⟩ := ab.hp.lst q
        rw [f.get hk] at e1; cases e1
        cases qd : ds[i]? with
        | none =>
          rw [qd] at ok
          have hl : xs.length ≤ i := by rw [← rs.length]; exact List.getElem?_eq_none_iff.mp qd
          exact .inl ⟨⟨xs, .of e2, hl⟩, ok _ H ρ .refl ab (by unfold Rep; exact ⟨D, rfl, hn⟩)⟩
        | some d =>
          rw [qd] at ok
          dsimp only at ok
          obtain ⟨x0, ex, rx⟩ := rs.get qd
          refine .inr ⟨⟨xs, x0, .of e2, ex⟩, fun x H' y => ?_⟩
          obtain ⟨rfl, y⟩ := y
          have e3 := y xs (.of e2)
          rw [ex] at e3; cases e3
          refine comp_turn hO (W := fun H3 => ∃ m', m' < m + 1 ∧ ∃ ρ G, Ab X.K X.mg σ H3 τ ρ G ∧ Fut X.K H0 H3 ρ0 ρ ∧ ρ[G0.length]? = some D ∧ OkE X.K X.mg EE H3 σ τ ρ (compO gO ks tt te G0.length k m' (i + 1) τ G) Q)
              ab rx hn ?_
          cases e : compOne gO ks tt te G0.length d τ G with
          | stuck => rw [e] at ok; exact ok
          | exn c G' => rw [e] at ok; exact ok
          | ok _ G' =>
            rw [e] at ok
            exact fun H3 ρ3 f3 ab3 => ⟨m, Nat.lt_succ_self _, ρ3, G', ab3, f.trans f3, f3.get hn, ok.fut f3⟩
variable {scope : Scope} {elt iter a b : Expr} {ifs : List Expr} {px pos : Pos} {m : DS → M D}
theorem comp_lift (hO : OwnD X.K X.mg ow gO) {σ : L2.St} {H : Hp} {Q : VK} (h : liftE X.K X.mg EE (eComp gO ks m tt te) σ H Q) :
    tComp (fun σ H R => liftE X.K X.mg EE m σ H fun x H1 => (∃ p, x = .ref p ∧ (∃ xs, SqL X.K H1 p xs) ∧ R (Itl X.K p) H1) ∨ (∃ p, x = .ref p ∧ (∃ xs, SqT X.K H1 p xs) ∧ R (Itt X.K p) H1) ∨ ∃ z, x = .str z ∧ R (Its z) H1) ks ow (liftT X.K X.mg (EEc EE σ) tt) (liftE X.K X.mg (EEc EE σ) te) σ H Q := by
  obtain ⟨τ, ρ, G, ab, ok⟩ := bindEE (k := fun τ d G => match d with
    | .obj k => match G[k]? with
      | some (.lst xs) => compO gO ks tt te G.length k (xs.length + 1) 0 τ (G ++ [.lst []])
      | _ => .stuck
    | .tup xs => compP gO ks tt te G.length xs τ (G ++ [.lst []])
    | .con xs => compP gO ks tt te G.length xs τ (G ++ [.lst []])
    | .str z => compP gO ks tt te G.length (z.cps.toList.map fun c => .str ⟨#[c]⟩) τ (G ++ [.lst []])
    | _ => .stuck) h
  refine ⟨τ, ρ, G, ab, ?_⟩
  cases e : m τ G with
  | stuck => rw [e] at ok; exact ok
  | exn c G' => rw [e] at ok; exact ok
  | ok d G' =>
    rw [e] at ok
    intro v H1 ρ1 f1 ab1 r1
    obtain ⟨τ2, ρ2, G2, d2, ab2, r2, ok2⟩ := ok v H1 ρ1 f1 ab1 r1
    cases d2 <;> try exact ok2.elim
    case obj n =>
      dsimp only at ok2
      unfold Rep at r2
      obtain ⟨p, rfl, e1⟩ := r2
      cases q : G2[n]? with
      | none => rw [q] at ok2; exact ok2.elim
      | some o =>
        cases o with
        | lst xs =>
          rw [q] at ok2
          obtain ⟨p', vs, e2, h2, rs⟩ := ab2.hp.lst q
          rw [e1] at e2; cases e2
          exact .inl ⟨p, rfl, ⟨vs, .of h2⟩, comp_obj hO e1 ab2 ok2⟩
    case tup xs =>
      unfold Rep at r2
      obtain ⟨p, vs, rfl, sq, rs⟩ := r2
      refine .inr (.inl ⟨p, rfl, ⟨vs, sq⟩, comp_items hO xs (fun i H' ρ' hi f => ?_) (fun i H' ρ' hi f => ?_) (fun i d' H' ρ' x H'' hd f y => ?_) ab2 ok2⟩)
      · rw [rs.length] at hi
        exact ⟨vs, vs[i], f.tup _ _ sq, List.getElem?_eq_getElem hi⟩
      · exact ⟨vs, f.tup _ _ sq, by rw [← rs.length]; exact hi⟩
      · obtain ⟨rfl, y⟩ := y
        obtain ⟨w', ew, rw'⟩ := rs.get hd
        have := y vs (f.tup _ _ sq)
        rw [ew] at this; cases this
        exact ⟨.refl, rw'.mono f⟩
    case con xs =>
      unfold Rep at r2
      obtain ⟨p, vs, rfl, sq, rs⟩ := r2
      refine .inl ⟨p, rfl, ⟨vs, sq.seq⟩, comp_items hO xs (fun i H' ρ' hi f => ?_) (fun i H' ρ' hi f => ?_) (fun i d' H' ρ' x H'' hd f y => ?_) ab2 ok2⟩
      · rw [rs.length] at hi
        exact ⟨vs, vs[i], (f.con _ _ sq).seq, List.getElem?_eq_getElem hi⟩
      · exact ⟨vs, (f.con _ _ sq).seq, by rw [← rs.length]; exact hi⟩
      · obtain ⟨rfl, y⟩ := y
        obtain ⟨w', ew, rw'⟩ := rs.get hd
        have := y vs (f.con _ _ sq).seq
        rw [ew] at this; cases this
        exact ⟨.refl, rw'.mono f⟩
    case str z =>
      unfold Rep at r2; subst r2
      refine .inr (.inr ⟨z, rfl, comp_items hO (z.cps.toList.map fun c => .str ⟨#[c]⟩) (fun i H' ρ' hi f => ?_) (fun i H' ρ' hi f => ?_) (fun i d' H' ρ' x H'' hd f y => ?_) ab2 ok2⟩)
      · simpa [Its] using hi
      · simpa [Its] using hi
      · obtain ⟨rfl, c, hc, rfl⟩ := y
        rw [List.getElem?_map] at hd
        have : z.cps.toList[i]? = some c := by simpa using hc
        rw [this] at hd
        cases hd
        exact ⟨.refl, by unfold Rep; rfl⟩
noncomputable def CompB (X : Cx) (scope : Scope) (xs : List Str) (ifs : List Expr) (elt : Expr) (tt : DS → M Bool) (te : DS → M D) : Prop :=
  ∀ (cl : List (Str × Addr)) (C : Addr) (pins : List (Addr × Obj)) (s0 : Shared) (H0 : Hp) (fp : List Addr) (E : Value → Shared → Prop) (EE : EXK), XLnk (cxC X scope cl xs C pins s0 H0 fp E) EE → CT (cxC X scope cl xs C pins s0 H0 fp E) ifs (liftT X.K X.mg EE tt) ∧ QE (cxC X scope cl xs C pins s0 H0 fp E) EE elt te
noncomputable def tYes : DS → M Bool := fun _ => M.ret true
theorem compB_nil (h : ∀ (cl : List (Str × Addr)) (C : Addr) (pins : List (Addr × Obj)) (s0 : Shared) (H0 : Hp) (fp : List Addr) (E : Value → Shared → Prop) (EE : EXK), XLnk (cxC X scope cl xs C pins s0 H0 fp E) EE → QE (cxC X scope cl xs C pins s0 H0 fp E) EE elt te) : CompB X scope xs [] elt tYes te :=
  fun cl C pins s0 H0 fp E EE hx => ⟨fun pins' s σ H Q I ⟨τ, ρ, G, ab, ok⟩ => ct_nil pins' s σ H Q I (ok H ρ .refl ab), h cl C pins s0 H0 fp E EE hx⟩
theorem compB_one {c : Expr} (h : ∀ (cl : List (Str × Addr)) (C : Addr) (pins : List (Addr × Obj)) (s0 : Shared) (H0 : Hp) (fp : List Addr) (E : Value → Shared → Prop) (EE : EXK), XLnk (cxC X scope cl xs C pins s0 H0 fp E) EE → QT (cxC X scope cl xs C pins s0 H0 fp E) EE c tt ∧ QE (cxC X scope cl xs C pins s0 H0 fp E) EE elt te) : CompB X scope xs [c] elt tt te :=
  fun cl C pins s0 H0 fp E EE hx => ⟨ct_one (h cl C pins s0 H0 fp E EE hx).1, (h cl C pins s0 H0 fp E EE hx).2⟩
noncomputable def HasFr (X : Cx) : Prop := ∃ env0 outer0 L, X.stack = env0 :: outer0 ∧ X.env.frame = env0.frame ∧ env0.frame = some L
theorem qe_comp (hx : XLnk X EE) (hst : HasFr X) (S : CompSc X.env.scope X.N scope xs ks) (how : Own X scope xs ks tg ow) (hO : OwnD X.K X.mg ow gO) (hc : X.calm = true) (ha : QE X EE iter m) (hb : CompB X scope xs ifs elt tt te) (hs : ∀ x, foldedSetIterable iter X.env x = pure x := by intro _; rfl) :
    QE X EE (.ListComp elt [⟨tg, iter, ifs, 0⟩] scope pos) (eComp gO ks m tt te) := PE.mono (pe_comp (tt := fun σ => liftT X.K X.mg (EEc EE σ) tt) (te := fun σ => liftE X.K X.mg (EEc EE σ) te) hx hst S how hc (PI.any ha) (fun σ cl C pins s0 H0 fp E => hb cl C pins s0 H0 fp E _) hs) fun _ _ _ h => comp_lift hO h
variable {ma : DS → M (List D)}
end
end L3
end
section
set_option Elab.async false
set_option linter.all false
set_option maxRecDepth 100000
namespace L3
open PySem PySem.Spec L2
theorem room200 {k : Nat} {A : Around} (r : Room k A) : A.units + 200 < cLine := by have := r.un; omega
theorem qe_fn {X : Cx} {EE : EXK} {x : Str} {f : Addr} {pos : Pos} (hm : X.mg x = some (.ref f)) (hg : Gl X x := by rfl) (hd : (x == ("__debug__" : Str)) = false := by decide) : QE X EE (.Name x pos) (eC (.fn x)) :=
  qe_C (pe_glob hg hm (v := .ref f) rfl hd) fun _ _ => by unfold Rep; exact ⟨f, rfl, hm⟩
noncomputable def spLaw (K : PySem.W.Frag) : Sp := fun vs H Q _ => ∃ (a : Addr) (ns : List Int), vs = [.ref a] ∧ SqC K H a (ns.map V.int) ∧ ns.length ≤ 63 ∧ ∀ H', Q (.bl true) H'
theorem sqC_of {K : PySem.W.Frag} {H : Hp} {a : Addr} {xs : List V} (hO : Only H) (h : SqL K H a xs) : SqC K H a xs := by
  rcases h with (h | ⟨o, h⟩) | h
  · rcases hO a with z | ⟨o, ys, z⟩
    · rw [h] at z; cases z
    · rw [h] at z; cases z
  · exact .inl ⟨o, h⟩
  · exact .inr h
theorem spLaw_of {K : PySem.W.Frag} {mg : Str → Option Value} {m : List D → M D} (hm : ∀ ns : List Int, ns.length ≤ 63 → ∃ G, m [.con (ns.map .int)] [] = .ok (.bl true) G) (vs : List V) (H : Hp) (Q : VK) (E : XK) (h : spLaw K vs H Q E) : spOf K mg 1 m vs H Q E := by
  obtain ⟨a, ns, rfl, sq, hl, q⟩ := h
  obtain ⟨G, e⟩ := hm ns hl
  refine ⟨[.con (ns.map .int)], [], [], rfl, ⟨rfl, List.nodup_nil, fun n o e => by simp at e⟩, .cons (by unfold Rep; exact ⟨a, _, rfl, sq, .ints ns⟩) .nil, ?_⟩
  rw [e]
  intro v H' ρ' _ _ r
  unfold Rep at r
  subst r
  exact q H'
end L3
end
section
set_option Elab.async false
set_option linter.all false
set_option maxRecDepth 100000
namespace L3
open PySem PySem.Spec L2
noncomputable def nostar : Expr → Bool
  | .Starred .. => false
  | _ => true
noncomputable def plainT : Expr → Bool
  | .UnaryOp .Not _ _ => false
  | .BoolOp .. => false
  | .IfExp .. => false
  | .Compare .. => false
  | _ => true
noncomputable def nofold : Expr → Bool
  | .Set .. => false
  | _ => true
noncomputable def noswap : Expr → Bool
  | .ListComp .. => false
  | .SetComp .. => false
  | .DictComp .. => false
  | _ => true
noncomputable def nobase : Expr → Bool
  | .Call (.Name _ _) [] [] _ => false
  | _ => true
noncomputable def plainix : Expr → Bool
  | .Slice .. => false
  | _ => true
noncomputable def nostars : List Expr → Bool
  | [] => true
  | e :: es => nostar e && nostars es
theorem star_of {e : Expr} (h : nostar e = true) (es : List Expr) (env : Env) : starEach (e :: es) env = (false, eval e env) :: starEach es env := by
  cases e <;> first | rfl | cases h
theorem isTrue_of {e : Expr} (h : plainT e = true) (env : Env) (whole : Sem Value) : isTrue e env whole = (do let v ← whole; standAt e.pos; holding [v] (truthy v)) := by
  cases e <;> first | rfl | cases h | (rename_i op _ _; cases op <;> first | rfl | cases h)
theorem fold_of {e : Expr} (h : nofold e = true) (env : Env) (x : Value) : foldedSetIterable e env x = pure x := by
  cases e <;> first | rfl | cases h
theorem swap_of {e : Expr} (h : noswap e = true) (t : Option Expr) (l : Nat) (env : Env) : swapsWith e t l env = pure false := by
  cases e <;> first | rfl | cases h
theorem base_of {e : Expr} (h : nobase e = true) (n : Str) (env : Env) : attributeBase e n env (eval e env) = eval e env := by
  unfold attributeBase
  split
  · cases h
  · rfl
theorem ix_of {e : Expr} (h : plainix e = true) : PlainIx e := fun o i => by
  cases e <;> first | rfl | cases h
theorem mark_of {e : Expr} (h : nofold e = true) (op : CmpOp) : behindInMarks op e = false := by
  cases e <;> first | rfl | cases h
theorem stars_any {env : Env} {pos : Pos} : ∀ {es : List Expr}, nostars es = true → (backTo pos (starEach es env)).any (·.1) = false
  | [], _ => rfl
  | e :: es, h => by
    have h' : nostar e = true ∧ nostars es = true := by simpa [nostars] using h
    rw [star_of h'.1]
    have ih := stars_any (env := env) (pos := pos) h'.2
    show (false || (backTo pos (starEach es env)).any (·.1)) = false
    rw [ih]; rfl
theorem stars_all {env : Env} {pos : Pos} : ∀ {es : List Expr}, nostars es = true → (backTo pos (starEach es env)).all (fun x => !x.1) = true
  | [], _ => rfl
  | e :: es, h => by
    have h' : nostar e = true ∧ nostars es = true := by simpa [nostars] using h
    rw [star_of h'.1]
    have ih := stars_all (env := env) (pos := pos) h'.2
    show (!false && (backTo pos (starEach es env)).all (fun x => !x.1)) = true
    rw [ih]; rfl
theorem few_of {env : Env} {pos : Pos} {es : List Expr} (h : nostars es = true) (hl : es.length < 30) : ((backTo pos (starEach es env)).all (fun x => !x.1) && (backToKw pos (keywordEach [] env)).all (fun x => x.1.isSome)
      && decide (es.length + ([] : List Keyword).length + (if ([] : List Keyword).isEmpty then 0 else 1) < 30)) = true := by
  rw [stars_all h]
  simp only [Bool.true_and, Bool.and_eq_true, decide_eq_true_eq]
  exact ⟨rfl, by simpa using hl⟩
section
variable {X : Cx} {EE : EXK} {a b c e o : Expr} {es : List Expr} {ma mb mc me mo : DS → M D} {pos p apos cpos : Pos} {m : DS → M (List D)} {ms mt : MS} {x : Str} {ks : List Bool} {tt : DS → M Bool} {te : DS → M D}
theorem ra_cons {m : DS → M D} {r : DS → M (List D)} (ha : QE X EE e m) (hr : QA X EE es r) (h : nostar e = true := by rfl) : QA X EE (e :: es) (aCons m r) := qa_cons ha hr (star_of h _ _)
theorem re_var (i : Nat) (hv : Vis X.env.scope x) (hd : (x == ("__debug__" : Str)) = false ∧ (x == ("__classdict__" : Str)) = false) (hN : X.N[i]? = some x := by rfl) : QE X EE (.Name x pos) (eVar i) := qe_var i hN hv hd.1 hd.2
theorem re_glob {d : D} (h : GlobD X.K X.mg x d) (hg : Gl X x) (hd : (x == ("__debug__" : Str)) = false ∧ (x == ("__classdict__" : Str)) = false) : QE X EE (.Name x pos) (eC d) := qe_glob h hg hd.1
theorem re_fn {f : Addr} (hm : X.mg x = some (.ref f)) (hg : Gl X x) (hd : (x == ("__debug__" : Str)) = false ∧ (x == ("__classdict__" : Str)) = false) : QE X EE (.Name x pos) (eC (.fn x)) := qe_fn hm hg hd.1
theorem re_index (ha : QE X EE a ma) (hb : QE X EE b mb) (h : plainix b = true := by rfl) : QE X EE (.Subscript a b pos) (eOp dIx ma mb) := qe_index ha hb (ix_of h)
theorem re_in (hu : X.A.units + 200 < cLine) (ha : QE X EE a ma) (hb : QE X EE b mb) (h : nofold b = true := by rfl) : QE X EE (.Compare a [.In] [b] pos) (eOp (dIn false) ma mb) := qe_in hu ha hb (mark_of h _)
theorem rt_cmp {op : CmpOp} {f : D → D → M D} (ho : OpR X (compareOp op) (rD X EE f)) (ha : QE X EE a ma) (hb : QE X EE b mb) (h : nofold b = true := by rfl) : QT X EE (.Compare a [op] [b] pos) (tBl (eOp f ma mb)) := qt_cmp ho ha hb (mark_of h _)
theorem rt_tru (ha : QE X EE a ma) (h : plainT a = true := by rfl) : QT X EE a (tTruth dTru ma) := qt_tru ha (isTrue_of h _)
theorem re_callB {id : String} {f : List D → M D} (hc : CallR X (.builtin id) (rCD X EE f)) (hm : X.mg x = none) (hg : Gl X x) (hv : bootBuiltins x = some (.builtin id)) (ha : QA X EE (e :: es) m) (hn : x ≠ "__name__" := by decide) (hdb : (x == ("__debug__" : Str)) = false := by decide) (h : nostars (e :: es) = true := by rfl) :
    QE X EE (.Call (.Name x p) (e :: es) [] pos) (eArgs f m) := by
  have h' : nostar e = true ∧ nostars es = true := by simpa [nostars] using h
  exact qe_callB hc callD_self hm ha hg hv hn hdb (star_of h'.1 _ _) (stars_any h'.2)
theorem re_callTy {id : String} {f : List D → M D} (hc : CallR X (.type id) (rCD X EE f)) (hm : X.mg x = none) (hg : Gl X x) (hv : bootBuiltins x = some (.type id)) (ha : QA X EE (e :: es) m) (hn : x ≠ "__name__" := by decide) (hdb : (x == ("__debug__" : Str)) = false := by decide) (h : nostars (e :: es) = true := by rfl) :
    QE X EE (.Call (.Name x p) (e :: es) [] pos) (eArgs f m) := by
  have h' : nostar e = true ∧ nostars es = true := by simpa [nostars] using h
  exact qe_callTy hc callD_self hm ha hg hv hn hdb (star_of h'.1 _ _) (stars_any h'.2)
theorem re_len (hm : X.mg "len" = none) (hg : Gl X "len") (ha : QA X EE [e] m) (h : nostars [e] = true := by rfl) : QE X EE (.Call (.Name "len" p) [e] [] pos) (eArgs dLen m) := re_callB call_lenD hm hg PySem.boot_len ha (by decide) (by decide) h
theorem re_all (hc : X.calm = true) (hm : X.mg "all" = none) (hg : Gl X "all") (ha : QA X EE [e] m) (h : nostars [e] = true := by rfl) : QE X EE (.Call (.Name "all" p) [e] [] pos) (eArgs (dAll false) m) := re_callB (call_allD hc) hm hg PyProof.Rows.boot_all ha (by decide) (by decide) h
theorem re_max2 (hc : X.calm = true) (hm : X.mg "max" = none) (hg : Gl X "max") (ha : QA X EE [e, a] m) (h : nostars [e, a] = true := by rfl) : QE X EE (.Call (.Name "max" p) [e, a] [] pos) (eArgs (dInt2L fun i j => if j > i then j else i) m) := re_callB (call_maxD hc) hm hg PyProof.Rows.boot_max ha (by decide) (by decide) h
theorem re_isi (c : Ty) {pt : Pos} (hc : c ≠ .non) (hm : X.mg "isinstance" = none) (hmt : X.mg x = none) (hg : Gl X "isinstance") (hgt : Gl X x) (ha : QE X EE a ma) (hb : bootBuiltins x = some (.type c.nm)) (hnt : x ≠ "__name__") (hdt : (x == ("__debug__" : Str)) = false) (h : nostar a = true := by rfl) :
    QE X EE (.Call (.Name "isinstance" p) [a, .Name x pt] [] pos) (eIsi c ma) := qe_isi c hc hm hmt ha hb hg hgt hnt hdt (star_of h _ _) (star_of rfl _ _) (stars_any (es := [.Name x pt]) rfl)
theorem re_call {CX : CXT} {k n : Nat} {f : Addr} {fd : FuncData} {ps : List Str} {mf : List D → M D} (F : FnOk X.prog X.w X.K X.mg X.base CX k f fd ps (spOf X.K X.mg n mf)) (hr : Room k X.A) (hm : X.mg x = some (.ref f)) (hk : PySem.W.keepIn X.K (.ref f) = true) (hb : Binds X.K fd ps []) (hx : Lnk CX X EE) (hg : Gl X x)
    (hd : (x == ("__debug__" : Str)) = false ∧ (x == ("__classdict__" : Str)) = false) (ha : QA X EE (e :: es) m) (h : nostars (e :: es) = true := by rfl) : QE X EE (.Call (.Name x p) (e :: es) [] pos) (eCall n mf m) := by
  have h' : nostar e = true ∧ nostars es = true := by simpa [nostars] using h
  exact qe_call F hr hm hk hb hx ha hg hd.1 (star_of h'.1 _ _) (stars_any h'.2)
theorem re_call0 {CX : CXT} {k : Nat} {f : Addr} {fd : FuncData} {ps : List Str} {mf : List D → M D} (F : FnOk X.prog X.w X.K X.mg X.base CX k f fd ps (spOf X.K X.mg 0 mf)) (hr : Room k X.A) (hm : X.mg x = some (.ref f)) (hk : PySem.W.keepIn X.K (.ref f) = true) (hb : Binds X.K fd ps []) (hx : Lnk CX X EE) (hg : Gl X x)
    (hd : (x == ("__debug__" : Str)) = false ∧ (x == ("__classdict__" : Str)) = false) : QE X EE (.Call (.Name x p) [] [] pos) (eCall 0 mf aNil) := qe_call0 F hr hm hk hb hx hg hd.1
theorem re_append (ho : QE X EE o mo) (ha : QA X EE [e] m) (hb : nobase o = true := by rfl) (h : nostars [e] = true := by rfl) (hline : (apos.endLine == cpos.line) = true := by rfl) : QE X EE (.Call (.Attribute o "append" apos) [e] [] cpos) (eMethT "list" dAppend mo m) := by
  have h' : nostar e = true ∧ nostars [] = true := by simpa [nostars] using h
  exact qe_append ho ha (base_of hb _ _) (few_of h (by simp)) hline (star_of h'.1 _ _) (stars_any (es := []) rfl)
theorem re_pop (ho : QE X EE o mo) (hb : nobase o = true := by rfl) (hline : (apos.endLine == cpos.line) = true := by rfl) : QE X EE (.Call (.Attribute o "pop" apos) [] [] cpos) (eMethT "list" dPop mo aNil) := qe_pop ho (base_of hb _ _) hline
theorem rs_expr (he : QE X EE a ma) (h : noswap a = true := by rfl) : QS X EE (.Expr a pos) (sExpr ma) := qs_expr he (swap_of h _ _ _)
theorem rs_set {i : Nat} {pos' : Pos} (hN : X.N.Nodup) (hx : Loc X.env.scope x) (he : QE X EE a ma) (hf : X.fn x = true ∨ X.env.scope.names.lookup x = some .local) (hi : X.N[i]? = some x := by rfl) (h : noswap a = true := by rfl) : QS X EE (.Assign [.Name x pos'] a pos) (sSet i ma) := qs_set hN he hi hx (swap_of h _ _ _) hf
theorem rg_name {i : Nat} (hN : X.N.Nodup) (hx : Loc X.env.scope x) (hf : X.fn x = true ∨ X.env.scope.names.lookup x = some .local) (hi : X.N[i]? = some x := by rfl) : QG X (.Name x pos) (gN i) := qg_name hN hi hx hf
theorem rs_for {tg : Expr} {g : TgD} {body : List Stmt} (hp : PassesOwn (model X.prog X.w) X.A X.env X.xe) (hc : X.calm = true) (ha : QE X EE a ma) (hg : QG X tg g) (hb : QSs X EE body ms) (h : nofold a = true := by rfl) : QS X EE (.For tg a body [] pos) (sForIn g ma ms) := qs_for hp hc ha hg hb (fold_of h _)
theorem rs_forR1 {tg : Expr} {g : TgD} {body : List Stmt} {pc : Pos} (hp : PassesOwn (model X.prog X.w) X.A X.env X.xe) (hc : X.calm = true) (hm : X.mg "range" = none) (hgl : Gl X "range") (ha : QA X EE [a] m) (hg : QG X tg g) (hb : QSs X EE body ms) (h : nostar a = true := by rfl) :
    QS X EE (.For tg (.Call (.Name "range" p) [a] [] pc) body [] pos) (sForRng rng1 g m ms) := qs_forR1 hp hc hm ha hg hb hgl (star_of h _ _) (fold_of rfl _)
variable {scope : Scope} {elt iter tg : Expr} {xs : List Str} {ow : V → Hp → List V → Prop} {gO : D → Option (List D)} {ifs : List Expr} {px : Pos}
theorem re_comp (hx : XLnk X EE) (hst : HasFr X) (S : CompSc X.env.scope X.N scope xs ks) (how : Own X scope xs ks tg ow) (hO : OwnD X.K X.mg ow gO) (hc : X.calm = true) (ha : QE X EE iter ma) (hb : CompB X scope xs ifs elt tt te) (h : nofold iter = true := by rfl) : QE X EE (.ListComp elt [⟨tg, iter, ifs, 0⟩] scope pos) (eComp gO ks ma tt te) := qe_comp hx hst S how hO hc ha hb (fold_of h _)
theorem cv_loc {cl : List (Str × Addr)} {C : Addr} {pins : List (Addr × Obj)} {s0 : Shared} {H0 : Hp} {fp : List Addr} {E : Value → Shared → Prop} (S : CompSc X.env.scope X.N scope xs ks) (h : x ∈ xs) : Vis (cxC X scope cl xs C pins s0 H0 fp E).env.scope x := .inl (comp_local (cl := cl) (C := C) S h)
theorem cv_free {cl : List (Str × Addr)} {C : Addr} {pins : List (Addr × Obj)} {s0 : Shared} {H0 : Hp} {fp : List Addr} {E : Value → Shared → Prop} {y : Str} (S : CompSc X.env.scope X.N scope xs ks) (h : scope.names.lookup y = some .free) : Vis (cxC X scope cl xs C pins s0 H0 fp E).env.scope y := .inr (comp_seen (cl := cl) (C := C) S h)
theorem cv_glob {cl : List (Str × Addr)} {C : Addr} {pins : List (Addr × Obj)} {s0 : Shared} {H0 : Hp} {fp : List Addr} {E : Value → Shared → Prop} {y : Str} (h : scope.names.lookup y = some .globalImplicit) : Gl (cxC X scope cl xs C pins s0 H0 fp E) y := by
  show (compEnvC scope cl C X.env).kindOf y = some .globalImplicit
  have e : (compEnvC scope cl C X.env).kindOf y = (scope.names.lookup y).map (relK X.env y) := lookup_relabel scope.names
  rw [e, h]; rfl
end
theorem rs_raise {X : Cx} {EE : EXK} {x : Str} {C : Addr} {np cpos pos : Pos} {e : Expr} {es : List Expr} {m : DS → M (List D)} (hc : X.calm = true) (hx : XLnk X EE) (hm : X.mg x = some (.ref C)) (hq : PySem.W.excIn X.K C bmVE "ValueError.__new__" = true) (hg : Gl X x) (hd : (x == ("__debug__" : Str)) = false ∧ (x == ("__classdict__" : Str)) = false)
    (ha : QA X EE (e :: es) m) (h : nostars (e :: es) = true := by rfl) : QS X EE (.Raise (some (.Call (.Name x np) (e :: es) [] cpos)) none pos) (sRaise x m) := by
  have h' : nostar e = true ∧ nostars es = true := by simpa [nostars] using h
  exact qs_raise hc hx hm hq hg hd.1 ha (star_of h'.1 _ _) (stars_any h'.2)
end L3
end
section
set_option Elab.async false
set_option linter.all false
set_option maxRecDepth 100000
namespace L3
open PySem PySem.Spec L2 Builtin Builtin.Str
section
variable {X : Cx} {EE : EXK}
theorem split_call {prog : Program} {w : World} {A : Around} {E : Value → Shared → Prop} {s : Shared} {x y : Str} {t u : Tok} {Q : Value → Shared → Prop} (hy : (y.length == 0) = false) (hsz : x.length + 2 ≤ sizeLine)
    (hq : ∀ (l : List (Str × Tok)) (k : Nat), l.map (·.1) = Txt.split x y → Q (.ref s.heap.objs.size) { s with heap := s.heap.push { cls := .type "list", data := .seq (strValues l).toArray }, toks := k }) :
    wpAny (model prog w) A (call (.builtin "str.split") [.str x t, .str y u]) Q E s := by
  have hpb : (partsBetween x (occurrences x y 0 x.length (x.length + 1)) y.length).length ≤ sizeLine := by
    rw [length_partsBetween]
    have := StrLaws.occ_length_le x y 0 x.length (x.length + 1)
    omega
  unfold Txt.split at hq
  cases h1 : (decide (x.length < y.length) || decide (strKind x < strKind y)) with
  | true =>
    rw [h1, if_pos rfl] at hq
    exact call_meets F.slot_str_split (typeIs_str _ _ _) F.entry_str_split (F.args_str_split_2 _ _) (meets_str_split_cannot_occur x y t u h1) (hq [(x, t)] s.toks rfl)
  | false =>
    rw [h1, if_neg Bool.false_ne_true] at hq
    cases hf : (occurrences x y 0 x.length (x.length + 1)).isEmpty with
    | true =>
      rw [hf, if_pos rfl] at hq
      exact call_meets F.slot_str_split (typeIs_str _ _ _) F.entry_str_split (F.args_str_split_2 _ _) (meets_str_split_not_found x y t u h1 hy hf) (hq [(x, t)] s.toks rfl)
    | false =>
      rw [hf, if_neg Bool.false_ne_true] at hq
      refine call_meets F.slot_str_split (typeIs_str _ _ _) F.entry_str_split (F.args_str_split_2 _ _) (meets_str_split_sep x y t u h1 hy hf (by omega) hpb) ?_
      have := hq (numbered s.toks (partsBetween x (occurrences x y 0 x.length (x.length + 1)) y.length)) (s.toks + (partsBetween x (occurrences x y 0 x.length (x.length + 1)) y.length).length) (numbered_texts _ _)
      rw [← strsFrom_eq] at this
      exact this
noncomputable def dSplit : D → List D → M D
  | .str x, [.str y] => fun G => if y.length ≠ 0 ∧ x.length + 2 ≤ sizeLine then dNew ((Txt.split x y).map .str) G else .stuck
  | _, _ => M.stop
theorem Vals.strs : ∀ (l : List (Str × Tok)), Vals ((l.map (·.1)).map V.str) (strValues l)
  | [] => .nil
  | p :: r => .cons ⟨_, rfl⟩ (Vals.strs r)
theorem Reps.strs {K : PySem.W.Frag} {mg : Str → Option Value} {ρ : List Addr} {H : Hp} : ∀ (l : List Str), Reps K mg ρ H (l.map D.str) (l.map V.str)
  | [] => .nil
  | p :: r => .cons (by unfold Rep; rfl) (Reps.strs r)
theorem mt_splitD : MtR X "str.split" (rMD X EE dSplit) := by
  intro pins s σ0 H x xs v us Q I rx rxs ⟨σ, τ, ρ, G, d, ds, ab, rd, rds, ok⟩
  cases d <;> try exact ok.elim
  rename_i z
  match ds, ok with
  | [], ok => exact ok.elim
  | a :: _ :: _, ok => cases a <;> exact ok.elim
  | [y], ok =>
    cases y <;> try exact ok.elim
    rename_i y
    obtain ⟨yv, rfl, ry⟩ := reps1 rds
    unfold Rep at rd ry
    subst rd ry
    obtain ⟨t, rfl⟩ := rx
    obtain ⟨u, rfl, ru⟩ := vals1 rxs
    obtain ⟨t', rfl⟩ := ru
    dsimp only [dSplit] at ok
    by_cases hc : y.length ≠ 0 ∧ z.length + 2 ≤ sizeLine
    · rw [if_pos hc] at ok
      obtain ⟨hl, hn⟩ := new_ok ab (Reps.strs (Txt.split z y)) ok
      refine split_call (by simpa using hc.1) hc.2 fun l k hlk => ?_
      refine ⟨.ref s.heap.objs.size, upd H s.heap.objs.size (.lst ((Txt.split z y).map V.str)), I.laid (t' := k) (fun b o e => Heap.get?_push_of_some _ e) (Nat.le_refl _) ?_, rfl, hn _ (I.hok.fresh (Nat.le_refl _))⟩
      exact ⟨hl, strValues l, 0, by rw [← hlk]; exact Vals.strs l, Heap.get?_push_size _ rfl⟩
    · rw [if_neg hc] at ok; exact ok.elim
noncomputable def strsOf : List D → Option (List Str)
  | [] => some []
  | .str x :: r => (strsOf r).map (x :: ·)
  | _ :: _ => none
theorem strsOf_are {K : PySem.W.Frag} {mg : Str → Option Value} {ρ : List Addr} {H : Hp} : ∀ {ds : List D} {vs : List V} {us : List Value} {ts : List Str}, Reps K mg ρ H ds vs → Vals vs us → strsOf ds = some ts → ∃ l : List (Str × Tok), us = strValues l ∧ l.map (·.1) = ts
  | [], vs, us, ts, r, v, e => by unfold Reps at r; subst r; cases v; cases e; exact ⟨[], rfl, rfl⟩
  | d :: ds, vs, us, ts, r, v, e => by
    unfold Reps at r
    obtain ⟨x, r', rfl, h1, h2⟩ := r
    cases v with
    | cons v1 v2 =>
      cases d <;> try (cases e; done)
      rename_i y
      dsimp only [strsOf] at e
      cases q : strsOf ds with
      | none => rw [q] at e; cases e
      | some ts' =>
        rw [q] at e; cases e
        unfold Rep at h1; subst h1
        obtain ⟨t, rfl⟩ := v1
        obtain ⟨l, rfl, e2⟩ := strsOf_are h2 v2 q
        exact ⟨(y, t) :: l, rfl, by simp [e2]⟩
noncomputable def dJoin : D → List D → M D
  | .str x, [d] => fun G => match seqOf G d with
    | some (.lst xs) => match strsOf xs with
      | some ts => if JoinOk x ts = true then .ok (.str (Txt.join x ts)) G else .stuck
      | none => .stuck
    | _ => .stuck
  | _, _ => M.stop
theorem mt_joinD : MtR X "str.join" (rMD X EE dJoin) := by
  intro pins s σ0 H x xs v us Q I rx rxs ⟨σ, τ, ρ, G, d, ds, ab, rd, rds, ok⟩
  cases d <;> try exact ok.elim
  rename_i z
  match ds, ok with
  | [], ok => exact ok.elim
  | _ :: _ :: _, ok => exact ok.elim
  | [y], ok =>
    obtain ⟨yv, rfl, ry⟩ := reps1 rds
    unfold Rep at rd
    subst rd
    obtain ⟨t, rfl⟩ := rx
    obtain ⟨u, rfl, ru⟩ := vals1 rxs
    dsimp only [dJoin] at ok
    cases q : seqOf G y with
    | none => rw [q] at ok; exact ok.elim
    | some sk =>
      rw [q] at ok
      cases sk with
      | tup _ => exact ok.elim
      | str _ => exact ok.elim
      | lst ys =>
        dsimp only at ok
        cases qs : strsOf ys with
        | none => rw [qs] at ok; exact ok.elim
        | some ts =>
          rw [qs] at ok
          dsimp only at ok
          by_cases hj : JoinOk z ts = true
          · rw [if_pos hj] at ok
            obtain ⟨p, vs, rfl, sq, rs⟩ := seqOf_lst (pins := pins) (σ0 := σ0) (s := s) ab.hp ry q
            cases ru
            obtain ⟨its, rv, pl, _⟩ := I.list sq
            obtain ⟨l, rfl, el⟩ := strsOf_are rs rv qs
            have hq := ok (.str _) H ρ .refl ab (by unfold Rep; rfl)
            exact SC.join pl.isList el hj fun t' k => ⟨.str _, H, I.tok k, ⟨_, rfl⟩, hq⟩
          · rw [if_neg hj] at ok; exact ok.elim
noncomputable def dTupOf : List D → M D
  | [d] => fun G => match seqOf G d with
    | some (.lst xs) => dTup xs G
    | some (.tup xs) => .ok d G
    | _ => .stuck
  | _ => M.stop
theorem call_tupD : CallR X (.type "tuple") (rCD X EE dTupOf) := by
  intro pins s σ0 H xs us Q I r ⟨σ, τ, ρ, G, ds, ab, rds, ok⟩
  match ds, ok with
  | [], ok => exact ok.elim
  | _ :: _ :: _, ok => exact ok.elim
  | [y], ok =>
    obtain ⟨yv, rfl, ry⟩ := reps1 rds
    dsimp only [dTupOf] at ok
    cases q : seqOf G y with
    | none => rw [q] at ok; exact ok.elim
    | some sk =>
      rw [q] at ok
      cases sk with
      | str _ => exact ok.elim
      | tup ys =>
        obtain ⟨p, vs, rfl, sq, rs⟩ := seqOf_tup ry q
        exact call_tuple_of pins s σ0 H _ us Q I r ⟨p, vs, rfl, .inr ⟨sq, ok _ H ρ .refl ab ry⟩⟩
      | lst ys =>
        obtain ⟨p, vs, rfl, sq, rs⟩ := seqOf_lst (pins := pins) (σ0 := σ0) (s := s) ab.hp ry q
        exact call_tuple_of pins s σ0 H _ us Q I r ⟨p, vs, rfl, .inl ⟨sq, fun l hl => (tup_ok ab rs ok).2 l hl⟩⟩
variable {x : Str} {p pos apos cpos : Pos} {e o : Expr} {es : List Expr} {m : DS → M (List D)} {mo : DS → M D}
theorem re_split (ho : QE X EE o mo) (ha : QA X EE [e] m) (hb : nobase o = true := by rfl) (h : nostars [e] = true := by rfl) (hline : (apos.endLine == cpos.line) = true := by rfl) : QE X EE (.Call (.Attribute o "split" apos) [e] [] cpos) (eMethT "str" dSplit mo m) := by
  have h' : nostar e = true ∧ nostars [] = true := by simpa [nostars] using h
  exact qe_bm F.plainAttrs_str F.slot_str_split F.type_str_split mt_splitD ho ha (base_of hb _ _) (few_of h (by simp)) hline (star_of h'.1 _ _) (stars_any (es := []) rfl)
theorem re_join (ho : QE X EE o mo) (ha : QA X EE [e] m) (hb : nobase o = true := by rfl) (h : nostars [e] = true := by rfl) (hline : (apos.endLine == cpos.line) = true := by rfl) : QE X EE (.Call (.Attribute o "join" apos) [e] [] cpos) (eMethT "str" dJoin mo m) := by
  have h' : nostar e = true ∧ nostars [] = true := by simpa [nostars] using h
  exact qe_bm F.plainAttrs_str F.slot_str_join F.type_str_join mt_joinD ho ha (base_of hb _ _) (few_of h (by simp)) hline (star_of h'.1 _ _) (stars_any (es := []) rfl)
theorem boot_tuple : bootBuiltins "tuple" = some (.type "tuple") := by decide +kernel
theorem re_tuple (hm : X.mg "tuple" = none) (hg : Gl X "tuple") (ha : QA X EE [e] m) (h : nostars [e] = true := by rfl) : QE X EE (.Call (.Name "tuple" p) [e] [] pos) (eArgs dTupOf m) := re_callTy call_tupD hm hg boot_tuple ha (by decide) (by decide) h
noncomputable def eCallV (i n : Nat) (tbl : Str → Option (List D → M D)) (m : DS → M (List D)) : DS → M D := fun τ G => match τ[i]? with
  | some (some (.fn y)) => match tbl y with
    | some mf => eCall n mf m τ G
    | none => .stuck
  | _ => .stuck
theorem re_callV {CX : CXT} {i n : Nat} {tbl : Str → Option (List D → M D)} (hN : X.N[i]? = some x) (hv : Vis X.env.scope x) (hd : (x == ("__debug__" : Str)) = false ∧ (x == ("__classdict__" : Str)) = false)
    (hF : ∀ y mf, tbl y = some mf → ∃ k f fd ps, FnOk X.prog X.w X.K X.mg X.base CX k f fd ps (spOf X.K X.mg n mf) ∧ Room k X.A ∧ X.mg y = some (.ref f) ∧ PySem.W.keepIn X.K (.ref f) = true ∧ Binds X.K fd ps []) (hx : Lnk CX X EE)
    (ha : QA X EE (e :: es) m) (h : nostars (e :: es) = true := by rfl) : QE X EE (.Call (.Name x p) (e :: es) [] pos) (eCallV i n tbl m) := by
  have h' : nostar e = true ∧ nostars es = true := by simpa [nostars] using h
  intro pins s σ H Q I hq
  obtain ⟨τ, ρ, G, ab, ok⟩ := hq
  unfold eCallV at ok
  cases q : τ[i]? with
  | none => rw [q] at ok; exact ok.elim
  | some od =>
    cases od with
    | none => rw [q] at ok; exact ok.elim
    | some d =>
      rw [q] at ok
      cases d <;> try exact ok.elim
      rename_i y
      dsimp only at ok
      cases qt : tbl y with
      | none => rw [qt] at ok; exact ok.elim
      | some mf =>
        rw [qt] at ok
        obtain ⟨k, f, fd, ps, F, hr, hm, hk, hb⟩ := hF y mf qt
        obtain ⟨v, ev, rv⟩ := ab.st.2 i (.fn y) q
        unfold Rep at rv
        obtain ⟨a, rfl, ha'⟩ := rv
        rw [hm] at ha'
        cases ha'
        obtain ⟨τ1, ρ1, G1, ab1, ok1⟩ := bindAE (k := fun _ ds => if ds.length = n then mf ds else M.stop) ⟨τ, ρ, G, ab, ok⟩
        refine wpAny_Call_Name_kw (wpAny_mono (pe_var hN hv hd.1 hd.2 pins s σ H (fun v' H' => v' = .ref f ∧ H' = H) I ⟨_, ev, rfl, rfl⟩) (fun u s0 hu => ?_) fun _ _ z => z)
        obtain ⟨v', H', I0, r0, rfl, rfl⟩ := hu
        cases r0
        refine PySem.W.callWith_K (h₀ := X.base) I0.ok.mod.kin hk (thn (ha pos pins s0 σ H' _ I0 ⟨τ1, ρ1, G1, ab1, ok1⟩) fun us s1 ⟨vs, H1, I1, r, q⟩ => ⟨I1.kIn, ?_⟩) (star_of h'.1 _ _) (stars_any h'.2)
        obtain ⟨τ2, ρ2, G2, ds, ab2, rs, ok2⟩ := q
        by_cases hn : ds.length = n
        · rw [if_pos hn] at ok2
          exact run_fnD F hr hb hx I1 r ab2 rs hn ok2
        · rw [if_neg hn] at ok2
          exact ok2.elim
noncomputable def eFmt (c : Str) (m : DS → M D) : DS → M D := fun τ => if c.length ≤ sizeLine then (m τ).bind fun d => match d with
  | .str y => if (c ++ y).length ≤ sizeLine ∧ y.length ≤ sizeLine then M.ret (.str (c ++ y)) else M.stop
  | _ => M.stop else M.stop
theorem re_fmt {c : Str} {j : Nat} {p1 p2 : Pos} (ha : QE X EE e mo) : QE X EE (.JoinedStr [.Constant (.str c) j p1, .FormattedValue e (-1) none p2] pos) (eFmt c mo) := by
  intro pins s σ H Q I h
  have emp : Str.empty ++ c = c := by
    cases c with
    | mk cs => show Str.mk (#[] ++ cs) = _; simp
  obtain ⟨τ0, ρ0, G0, ab0, ok0⟩ := h
  unfold eFmt at ok0
  by_cases hc : c.length ≤ sizeLine
  · rw [if_pos hc] at ok0
    have h1 : liftE X.K X.mg EE (fun τ => (mo τ).bind fun d => match d with
        | .str y => if (c ++ y).length ≤ sizeLine ∧ y.length ≤ sizeLine then M.ret (.str (c ++ y)) else M.stop
        | _ => M.stop) σ H Q := ⟨τ0, ρ0, G0, ab0, ok0⟩
    have h2 := bindEE (k := fun _ d => match d with
        | .str y => if (c ++ y).length ≤ sizeLine ∧ y.length ≤ sizeLine then M.ret (.str (c ++ y)) else M.stop
        | _ => M.stop) h1
    refine wpAny_JoinedStr ?_
    show wpAny _ _ (eval (.Constant (.str c) j p1) X.env) _ _ s
    refine Calls.Constant_str ⟨c, _, rfl, by rw [emp]; exact hc, ?_⟩
    rw [emp]
    show wpAny _ _ (eval (.FormattedValue e (-1) none p2) X.env) _ _ _
    refine wpAny_FormattedValue_plain (wpAny_mono (ha pins { s with toks := s.toks + 1 } σ H _ (I.tok _) h2) (fun u s1 hu => ?_) fun _ _ z => z)
    obtain ⟨v, H1, I1, r1, τ, ρ, G, d, ab, rd, ok⟩ := hu
    cases d <;> try exact ok.elim
    rename_i y
    unfold Rep at rd; subst rd
    obtain ⟨t, rfl⟩ := r1
    dsimp only at ok
    by_cases hy : (c ++ y).length ≤ sizeLine ∧ y.length ≤ sizeLine
    · rw [if_pos hy] at ok
      have hq := ok (.str (c ++ y)) H1 ρ .refl ab (by unfold Rep; rfl)
      refine wpAny_formatField_str ⟨y, _, rfl, hy.1, hy.1, .str _, H1, I1.tok _, ⟨_, rfl⟩, hq⟩ ⟨y, _, rfl, hy.1, hy.1, .str _, H1, I1.tok _, ⟨_, rfl⟩, hq⟩ hy.2
    · rw [if_neg hy] at ok; exact ok.elim
  · rw [if_neg hc] at ok0; exact ok0.elim
end
end L3
end
section
set_option Elab.async false
set_option linter.all false
set_option maxRecDepth 100000
namespace L3
open PySem PySem.Spec L2 Builtin Builtin.Str
section
variable {X : Cx} {EE : EXK}
noncomputable def QEt (X : Cx) (EE : EXK) (e : Expr) (m : DS → M D) : Prop := ∀ (pins : List (Addr × Obj)) (s : Shared) (σ : L2.St) (H : Hp) (Q : VK), Inv X pins σ H s → liftE X.K X.mg EE m σ H Q →
  wpAny (model X.prog X.w) X.A (eval e X.env) (fun u s' => 0 < s'.toks ∧ EP X pins σ Q u s') X.xe s
theorem QEt.qe {e : Expr} {m : DS → M D} (h : QEt X EE e m) : QE X EE e m := fun pins s σ H Q I q => thn (h pins s σ H Q I q) fun _ _ z => z.2
noncomputable def noOcc (x y : Str) : Bool := (occurrences x y 0 x.length (x.length + 1)).isEmpty
noncomputable def dRep0 (y : Str) : D → M D
  | .str x => if noOcc x y = true then M.ret (.str x) else M.stop
  | _ => M.stop
noncomputable def dRep (y z : Str) : D → M D
  | .str x => if (y == z) = false ∧ x.length + (x.length + 1) * z.length ≤ 16777216 then M.ret (.str (Txt.replace x y z)) else M.stop
  | _ => M.stop
noncomputable def eUn (f : D → M D) (m : DS → M D) : DS → M D := fun τ => (m τ).bind f
theorem repl_call {prog : Program} {w : World} {A : Around} {E : Value → Shared → Prop} {s : Shared} {x y z : Str} {t u v : Tok} {Q : Value → Shared → Prop} (h : noOcc x y = true ∨ (u ≠ 0 ∧ v ≠ 0 ∧ u ≠ v ∧ (y == z) = false ∧ x.length + (x.length + 1) * z.length ≤ 16777216))
    (hq : ∀ t' k, s.toks ≤ k → Q (.str (Txt.replace x y z) t') { s with toks := k }) : wpAny (model prog w) A (call (.builtin "str.replace") [.str x t, .str y u, .str z v]) Q E s := by
  refine wpAny_with_toks (n := s.toks) (Nat.le_refl _) ?_
  rcases h with h | ⟨h1, h2, h3, h4, h5⟩
  · unfold noOcc at h
    refine call_gives F.slot_str_replace (typeIs_str _ _ _) F.entry_str_replace (F.args_str_replace_3 _ _ _) (gives_str_replace x y z t u v fun hf => by rw [h] at hf; cases hf) ?_
    unfold Txt.replace at hq
    rw [h] at hq ⊢
    exact fun _ => hq t s.toks (Nat.le_refl _)
  · exact SC.replace h1 h2 h3 h4 h5 fun t' k hk => hq t' k hk
variable {o : Expr} {mo : DS → M D} {y z : Str} {j1 j2 : Nat} {p1 p2 apos cpos : Pos}
theorem repl_eval {f : D → M D} (first : Bool) (hf : ∀ d r, (∀ G, f d G ≠ .stuck → ∃ x, d = .str x ∧ f d G = .ok (.str (Txt.replace x y z)) G ∧ (noOcc x y = true ∨ (first = false ∧ (y == z) = false ∧ x.length + (x.length + 1) * z.length ≤ 16777216))) ∧ r = ())
    (ho : ∀ (pins : List (Addr × Obj)) (s : Shared) (σ : L2.St) (H : Hp) (Q : VK), Inv X pins σ H s → liftE X.K X.mg EE mo σ H Q → wpAny (model X.prog X.w) X.A (eval o X.env) (fun u s' => (first = false → 0 < s'.toks) ∧ EP X pins σ Q u s') X.xe s)
    (hb : nobase o = true) (hline : (apos.endLine == cpos.line) = true) : QEt X EE (.Call (.Attribute o "replace" apos) [.Constant (.str y) j1 p1, .Constant (.str z) j2 p2] [] cpos) (eUn f mo) := by
  intro pins s σ H Q I h
  have h2 := bindEE (k := fun _ => f) h
  have hst : starEach [.Constant (.str y) j1 p1, .Constant (.str z) j2 p2] X.env = [(false, eval (.Constant (.str y) j1 p1) X.env), (false, eval (.Constant (.str z) j2 p2) X.env)] := by
    rw [star_of rfl, star_of rfl]; rfl
  refine wpAny_Call_method_late (base_of hb _ _) (few_of (es := [.Constant (.str y) j1 p1, .Constant (.str z) j2 p2]) rfl (by simp)) hline rfl (thn (ho pins s σ H _ I h2) fun v s1 hv => ?_)
  obtain ⟨ht, xv, H1, I1, r1, τ, ρ, G, d, ab, rd, ok⟩ := hv
  obtain ⟨x, rfl, e1, hcnd⟩ := (hf d ()).1 G (fun z => by rw [z] at ok; exact ok)
  unfold Rep at rd; subst rd
  obtain ⟨t, rfl⟩ := r1
  rw [e1] at ok
  have hq := ok (.str (Txt.replace x y z)) H1 ρ .refl ab (by unfold Rep; rfl)
  obtain ⟨g1, g2⟩ := tyV_is I1 (x := .str x) (v := .str x t) ⟨t, rfl⟩ (T := "str") rfl
  refine ⟨"str", "str.replace", F.plainAttrs_str, F.slot_str_replace, F.type_str_replace, g1, g2, ?_⟩
  rw [hst]
  refine Calls.callWith_builtin (by rfl) (Calls.evalArgs_plain ?_)
  refine Calls.spliced_cons (Calls.Constant_str (k := j1) (pos := p1) (Calls.spliced_cons (Calls.Constant_str (k := j2) (pos := p2) (Calls.spliced_nil ?_))))
  show wpAny _ _ (call (.builtin "str.replace") [.str x t, .str y s1.toks, .str z (s1.toks + 1)]) _ _ _
  refine repl_call ?_ fun t' k hk => ⟨?_, .str _, H1, I1.tok k, ⟨_, rfl⟩, hq⟩
  · rcases hcnd with z | ⟨z1, z2, z3⟩
    · exact .inl z
    · have := ht z1
      exact .inr ⟨Nat.ne_of_gt this, Nat.succ_ne_zero _, Nat.ne_of_lt (Nat.lt_succ_self _), z2, z3⟩
  · have hk' : s1.toks + 1 + 1 ≤ k := hk
    show 0 < k
    omega
theorem rt_rep0 (ho : QE X EE o mo) (hb : nobase o = true := by rfl) (hline : (apos.endLine == cpos.line) = true := by rfl) : QEt X EE (.Call (.Attribute o "replace" apos) [.Constant (.str y) j1 p1, .Constant (.str z) j2 p2] [] cpos) (eUn (dRep0 y) mo) :=
  repl_eval true (fun d r => ⟨fun G hn => by
    cases d <;> try exact absurd rfl hn
    rename_i x
    dsimp only [dRep0] at hn ⊢
    by_cases hc : noOcc x y = true
    · refine ⟨x, rfl, ?_, .inl hc⟩
      rw [if_pos hc]
      unfold noOcc at hc
      unfold Txt.replace
      rw [hc]; rfl
    · rw [if_neg hc] at hn; exact absurd rfl hn, rfl⟩) (fun pins s σ H Q I h => thn (ho pins s σ H Q I h) fun _ _ z => ⟨fun q => absurd q (by simp), z⟩) hb hline
theorem rt_rep (ho : QEt X EE o mo) (hb : nobase o = true := by rfl) (hline : (apos.endLine == cpos.line) = true := by rfl) : QEt X EE (.Call (.Attribute o "replace" apos) [.Constant (.str y) j1 p1, .Constant (.str z) j2 p2] [] cpos) (eUn (dRep y z) mo) :=
  repl_eval false (fun d r => ⟨fun G hn => by
    cases d <;> try exact absurd rfl hn
    rename_i x
    dsimp only [dRep] at hn ⊢
    by_cases hc : (y == z) = false ∧ x.length + (x.length + 1) * z.length ≤ 16777216
    · exact ⟨x, rfl, by rw [if_pos hc]; rfl, .inr ⟨rfl, hc⟩⟩
    · rw [if_neg hc] at hn; exact absurd rfl hn, rfl⟩) (fun pins s σ H Q I h => thn (ho pins s σ H Q I h) fun _ _ z => ⟨fun _ => z.1, z.2⟩) hb hline
end
section
theorem tup_index_meets (a : Addr) (items : Array Value) (n : Nat) (dd : Option Addr) (sl : Array (Option Value)) (x : Value) (f : Value → Bool) (j : Nat) (hj : j < items.size) (hit : f items[j] = true) (hno : ∀ m (hm : m < items.size), m < j → f items[m] = false) (he : ∀ y ∈ items, MeetsSeq.EqGives y x (f y)) :
    Meets (Builtin.«tuple.index» ⟨[.ref a, x], []⟩) (fun _ R s => s.heap.get? a = some { cls := .type "tuple", dict := dd, data := .seq items n, slots := sl } ∧ R (.ok (.ret (.int j s.toks))) { s with toks := s.toks + 1 }) := by
  refine .of_wp fun prog w A R s h => ?_
  obtain ⟨hp, g, d, tk, os⟩ := s
  obtain ⟨hl, h⟩ := h
  wp_walk using wpAny_loadPart' hl
  refine (show wpAny (model prog w) A.in1 (forIn ([:min items.size items.size] : Std.Legacy.Range) ((none, ()) : Option Fin × Unit) (fun (i : Nat) __s => match items[i]? with
    | some y => (do
      let b ← eqBool y x
      if b = true then (do let r ← retInt (i : Int); pure (ForInStep.done (some r, ()))) else pure (ForInStep.yield (none, ())))
    | _ => pure (ForInStep.yield (none, ())))) _ _ _ from ?_)
  rw [Std.Legacy.Range.forIn_eq_forIn_range']
  have hsz : ([:min items.size items.size] : Std.Legacy.Range).size = items.size := by simp [Std.Legacy.Range.size]
  rw [hsz]
  refine wpAny_forIn_list _ (fun l b s' => b = (none, ()) ∧ s' = ⟨hp, g, d, tk, os⟩ ∧ ∃ i, i ≤ j ∧ l = List.range' i (items.size - i) 1) _ ?_ ?_ _ _ ⟨rfl, rfl, 0, Nat.zero_le _, rfl⟩
  · rintro i rest b s' ⟨rfl, rfl, k, hk, hl2⟩
    obtain ⟨m, hm⟩ : ∃ m, items.size - k = m + 1 := ⟨items.size - k - 1, by omega⟩
    rw [hm, List.range'_succ] at hl2
    obtain ⟨rfl, rfl⟩ := List.cons.inj hl2
    have hlt : i < items.size := by omega
    rw [Array.getElem?_eq_getElem hlt]
    dsimp only
    refine wpAny_bind (he _ (Array.getElem_mem hlt) prog w _ _ _ _ ?_)
    by_cases hij : i = j
    · subst hij
      rw [hit]
      wp_walk
      exact ⟨_, rfl, h⟩
    · rw [hno i hlt (by omega)]
      wp_walk
      exact ⟨rfl, rfl, i + 1, by omega, by rw [show items.size - (i + 1) = m by omega]⟩
  · rintro b s' ⟨rfl, rfl, k, hk, hl2⟩
    have : items.size - k ≠ 0 := by omega
    obtain ⟨m, hm⟩ : ∃ m, items.size - k = m + 1 := ⟨items.size - k - 1, by omega⟩
    rw [hm, List.range'_succ] at hl2
    cases hl2
end
section
variable {X : Cx} {EE : EXK}
noncomputable def ixStr (y : Str) : List D → Option Nat
  | [] => none
  | .str x :: r => if x = y then some 0 else (ixStr y r).map (· + 1)
  | _ :: _ => none
noncomputable def dIndex : D → List D → M D
  | .tup xs, [.str y] => fun G => match strsOf xs, ixStr y xs with
    | some _, some j => .ok (.int j) G
    | _, _ => .stuck
  | _, _ => M.stop
theorem ixStr_spec {y : Str} : ∀ {ds : List D} {l : List (Str × Tok)} {j : Nat}, strsOf ds = some (l.map (·.1)) → ixStr y ds = some j → ∃ hj : j < (strValues l).length, (Value.isStrOf y (strValues l)[j] = true) ∧ ∀ m (hm : m < (strValues l).length), m < j → Value.isStrOf y (strValues l)[m] = false
  | [], l, j, _, h => nomatch h
  | d :: ds, l, j, e, h => by
    cases d <;> try (cases e; done)
    rename_i x
    dsimp only [strsOf] at e
    cases q : strsOf ds with
    | none => rw [q] at e; cases e
    | some ts =>
      rw [q] at e
      cases l with
      | nil => cases e
      | cons p l =>
        have e' : x = p.1 ∧ ts = l.map (·.1) := by simpa using e
        obtain ⟨rfl, rfl⟩ := e'
        dsimp only [ixStr] at h
        by_cases hx : p.1 = y
        · rw [if_pos hx] at h; cases h
          exact ⟨by simp [strValues], by simp [strValues, Value.isStrOf, hx], fun m _ hm => absurd hm (Nat.not_lt_zero _)⟩
        · rw [if_neg hx] at h
          cases qi : ixStr y ds with
          | none => rw [qi] at h; cases h
          | some i =>
            rw [qi] at h; cases h
            obtain ⟨h1, h2, h3⟩ := ixStr_spec (l := l) q qi
            refine ⟨by simpa [strValues] using h1, by simpa [strValues] using h2, fun m hm hlt => ?_⟩
            cases m with
            | zero => simpa [strValues, Value.isStrOf] using hx
            | succ m => simpa [strValues] using h3 m (by simpa [strValues] using hm) (Nat.lt_of_succ_lt_succ hlt)
theorem mt_indexD : MtR X "tuple.index" (rMD X EE dIndex) := by
  intro pins s σ0 H x xs v us Q I rx rxs ⟨σ, τ, ρ, G, d, ds, ab, rd, rds, ok⟩
  cases d <;> try exact ok.elim
  rename_i zs
  match ds, ok with
  | [], ok => exact ok.elim
  | a :: _ :: _, ok => cases a <;> exact ok.elim
  | [y], ok =>
    cases y <;> try exact ok.elim
    rename_i y
    obtain ⟨yv, rfl, ry⟩ := reps1 rds
    unfold Rep at rd ry
    obtain ⟨p, vs, rfl, sq, rs⟩ := rd
    subst ry
    cases rx
    obtain ⟨u, rfl, ru⟩ := vals1 rxs
    obtain ⟨t', rfl⟩ := ru
    dsimp only [dIndex] at ok
    cases q1 : strsOf zs with
    | none => rw [q1] at ok; exact ok.elim
    | some ts =>
      cases q2 : ixStr y zs with
      | none => rw [q1, q2] at ok; exact ok.elim
      | some j =>
        rw [q1, q2] at ok
        have hq := ok (.int j) H ρ .refl ab (by unfold Rep; rfl)
        obtain ⟨its, rv, ⟨ob, e1, e2, n, e3⟩, _⟩ := I.tuple sq
        obtain ⟨l, rfl, rfl⟩ := strsOf_are rs rv q1
        obtain ⟨h1, h2, h3⟩ := ixStr_spec q1 q2
        obtain ⟨c, dd, dt, sl⟩ := ob
        dsimp only at e2 e3
        subst e2 e3
        refine call_meets F.slot_tuple_index (show s.TypeIs (.ref p) "tuple" from ⟨_, e1, rfl⟩) F.entry_tuple_index (F.args_tuple_index_2 _ _) (tup_index_meets p (strValues l).toArray n dd sl (.str y t') (Value.isStrOf y) j (by simpa using h1) (by simpa using h2) (fun m hm hlt => by simpa using h3 m (by simpa using hm) hlt) fun z hz => ?_) ⟨e1, ⟨.int j, H, I.tok _, ⟨_, rfl⟩, hq⟩⟩
        have hz' : z ∈ strValues l := by simpa using hz
        obtain ⟨pp, _, rfl⟩ := List.mem_map.mp hz'
        intro prog w A E s Q hQ
        refine wpAny_eqBool_str ?_
        have e : Value.isStrOf y (.str pp.1 pp.2) = decide (pp.1 = y) := by
          by_cases hc : pp.1 = y
          · simp [Value.isStrOf, hc]
          · simp [Value.isStrOf, hc]
        rw [← e]
        exact hQ
variable {p pos apos cpos : Pos} {e o : Expr} {es : List Expr} {m : DS → M (List D)} {mo : DS → M D}
noncomputable def GlobT (K : PySem.W.Frag) (mg : Str → Option Value) (x : Str) : Prop := ∃ q ob, mg x = some (.ref q) ∧ K.lookup q = some ob ∧ ob.cls = .type "tuple" ∧ ob.dict = none
theorem re_indexG {x : Str} {d : D} (hD : GlobD X.K X.mg x d) (hT : GlobT X.K X.mg x) (hg : Gl X x) (hdb : (x == ("__debug__" : Str)) = false ∧ (x == ("__classdict__" : Str)) = false) (ha : QA X EE [e] m) (h : nostars [e] = true := by rfl) (hline : (apos.endLine == cpos.line) = true := by rfl) :
    QE X EE (.Call (.Attribute (.Name x p) "index" apos) [e] [] cpos) (eArgs (fun ds => dIndex d ds) m) := by
  have h' : nostar e = true ∧ nostars [] = true := by simpa [nostars] using h
  obtain ⟨q, ob, hm, hk, hc, hn⟩ := hT
  obtain ⟨u, v, hm', r, rep⟩ := hD
  rw [hm] at hm'
  cases hm'
  intro pins s σ H Q I hq
  have h2 := bindAE (k := fun _ ds => dIndex d ds) hq
  refine wpAny_Call_method_late (base_of (e := .Name x p) rfl _ _) (few_of h (by simp)) hline rfl (ld_glob I hg hm ?_ hdb.1)
  refine ⟨"tuple", "tuple.index", F.plainAttrs_tuple, F.slot_tuple_index, F.type_tuple_index, ⟨ob, I.kIn _ _ hk, hc⟩, fun a ea => ?_, ?_⟩
  · cases ea; exact ⟨ob, I.kIn _ _ hk, hn⟩
  · have hA := ha cpos pins s σ H _ I h2
    rw [star_of h'.1] at hA ⊢
    refine Calls.callWith_builtin (by rfl) (Calls.evalArgs_plain ?_)
    refine thn hA fun us s2 ⟨vs, H2, I2, r2, q2⟩ => ?_
    obtain ⟨τ, ρ, G, ds, ab, rs, ok⟩ := q2
    exact mt_indexD pins s2 σ H2 v vs (.ref q) us Q I2 r r2 ⟨σ, τ, ρ, G, d, ds, ab, rep ρ H2, rs, ok⟩
end
end L3
end
section
set_option Elab.async false
set_option linter.all false
set_option maxRecDepth 100000
namespace L3
open PySem PySem.Spec L2
noncomputable def AllX (K : PySem.W.Frag) (mg : Str → Option Value) (cv : Value) : List (Str × Bool) → Prop
  | [] => True
  | q :: r => (∃ cls, mg q.1 = some cls ∧ PySem.W.exmOne K cls cv = some q.2) ∧ AllX K mg cv r
theorem allX {K : PySem.W.Frag} {mg : Str → Option Value} {cv : Value} : ∀ {l : List (Str × Bool)}, AllX K mg cv l → ∀ (n : Str) (b : Bool) (cls : Value), l.lookup n = some b → mg n = some cls → PySem.W.exmOne K cls cv = some b
  | [], _, _, _, _, h, _ => nomatch h
  | q :: r, ⟨⟨c, h1, h2⟩, hr⟩, n, b, cls, h, hm => by
    obtain ⟨qn, qb⟩ := q
    rw [List.lookup_cons] at h
    cases e : n == qn with
    | true =>
      rw [e] at h
      cases h
      have := eq_of_beq e
      subst this
      rw [hm] at h1
      cases h1
      exact h2
    | false => rw [e] at h; exact allX hr n b cls h hm
noncomputable def AllF (CX : CXT) (X : Cx) (n : Nat) : List (Str × (List D → M D)) → Prop
  | [] => True
  | q :: r => (∃ k f fd ps, FnOk X.prog X.w X.K X.mg X.base CX k f fd ps (spOf X.K X.mg n q.2) ∧ Room k X.A ∧ X.mg q.1 = some (.ref f) ∧ PySem.W.keepIn X.K (.ref f) = true ∧ Binds X.K fd ps []) ∧ AllF CX X n r
theorem allF {CX : CXT} {X : Cx} {n : Nat} : ∀ {l : List (Str × (List D → M D))}, AllF CX X n l → ∀ (y : Str) (mf : List D → M D), l.lookup y = some mf → ∃ k f fd ps, FnOk X.prog X.w X.K X.mg X.base CX k f fd ps (spOf X.K X.mg n mf) ∧ Room k X.A ∧ X.mg y = some (.ref f) ∧ PySem.W.keepIn X.K (.ref f) = true ∧ Binds X.K fd ps []
  | [], _, _, _, h => nomatch h
  | q :: r, ⟨h1, hr⟩, y, mf, h => by
    obtain ⟨qn, qm⟩ := q
    rw [List.lookup_cons] at h
    cases e : y == qn with
    | true =>
      rw [e] at h
      cases h
      have := eq_of_beq e
      subst this
      exact h1
    | false => rw [e] at h; exact allF hr y mf h
end L3
namespace L3
open PySem PySem.Spec L2
theorem ra_c {X : Cx} {EE : EXK} {e : Expr} {es : List Expr} {m : DS → M D} {r : DS → M (List D)} (ha : QE X EE e m) (h : nostar e = true) (hr : QA X EE es r) : QA X EE (e :: es) (aCons m r) := ra_cons ha hr h
theorem ra_s {X : Cx} {EE : EXK} {x : Str} {j : Nat} {pos : Pos} {es : List Expr} {r : DS → M (List D)} (hr : QA X EE es r) : QA X EE (.Constant (.str x) j pos :: es) (aCons (eC (.str x)) r) := ra_cons qe_str hr rfl
theorem ra_i {X : Cx} {EE : EXK} {x : Int} {j : Nat} {pos : Pos} {es : List Expr} {r : DS → M (List D)} (hr : QA X EE es r) : QA X EE (.Constant (.int x) j pos :: es) (aCons (eC (.int x)) r) := ra_cons qe_int hr rfl
end L3
end
section
set_option Elab.async false
set_option linter.all false
set_option maxRecDepth 100000
namespace L3
open PySem PySem.Spec L2
end L3
end
section
set_option Elab.async false
set_option linter.all false
set_option maxRecDepth 100000
namespace L3
open PySem PySem.Spec L2
section
variable {X : Cx} {EE : EXK} {a b c e o : Expr} {es : List Expr} {ma mb mo : DS → M D} {m : DS → M (List D)} {t : DS → M Bool} {ms : MS} {pos p p2 pos2 apos cpos : Pos}
noncomputable def fuel : Nat := 100000
noncomputable def sWhile (t : DS → M Bool) (ms : MS) : Nat → MS
  | 0 => fun _ _ => .stuck
  | n + 1 => fun τ => sBind (t τ) (fun c G => if c = true then (match ms τ G with
      | .nx τ' G' => sWhile t ms n τ' G'
      | .ct τ' G' => sWhile t ms n τ' G'
      | .bk τ' G' => .nx τ' G'
      | r => r) else .nx τ G) fun c G => .xn c τ G
end
end L3
end
section
set_option Elab.async false
set_option linter.all false
set_option maxRecDepth 100000
namespace L3
open PySem PySem.Spec L2
noncomputable abbrev View := DH → Nat → Option (Option D)
noncomputable def forV (g : TgD) (body : MS) (vw : View) : Nat → Nat → MS
  | 0, _ => fun _ _ => .stuck
  | f + 1, i => fun τ G => match vw G i with
    | none => .stuck
    | some none => .nx τ G
    | some (some d) => match g d τ with
      | none => .stuck
      | some τ1 => match body τ1 G with
        | .nx τ2 G2 => forV g body vw f (i + 1) τ2 G2
        | .ct τ2 G2 => forV g body vw f (i + 1) τ2 G2
        | .bk τ2 G2 => .nx τ2 G2
        | r => r
noncomputable abbrev MI := DS → M (Nat × View)
section
variable {X : Cx} {EE : EXK} {tg iter a b : Expr} {g : TgD} {mi : MI} {ms : MS} {pos p pc : Pos} {m : DS → M (List D)}
noncomputable def sForV (g : TgD) (mi : MI) (body : MS) : MS := fun τ => sBind (mi τ) (fun x G => forV g body x.2 x.1 0 τ G) fun c G => .xn c τ G
noncomputable def compV (gO : D → Option (List D)) (ks : List Bool) (tt : DS → M Bool) (te : DS → M D) (n : Nat) (vw : View) : Nat → Nat → DS → DH → Out D
  | 0, _, _, _ => .stuck
  | f + 1, i, τ, G => match vw G i with
    | none => .stuck
    | some none => .ok (.obj n) G
    | some (some d) => match compOne gO ks tt te n d τ G with
      | .ok _ G' => compV gO ks tt te n vw f (i + 1) τ G'
      | .exn c G' => .exn c G'
      | .stuck => .stuck
variable {gO : D → Option (List D)} {ow : V → Hp → List V → Prop} {xs : List Str} {ks : List Bool} {tt : DS → M Bool} {te : DS → M D}
noncomputable def eCompV (gO : D → Option (List D)) (ks : List Bool) (mi : MI) (tt : DS → M Bool) (te : DS → M D) : DS → M D := fun τ => (mi τ).bind fun x G => compV gO ks tt te G.length x.2 x.1 0 τ (G ++ [.lst []])
variable {scope : Scope} {elt : Expr} {ifs : List Expr}
noncomputable def vEnum (d : D) : View := fun G i => match seqOf G d with
  | some (.lst xs) => some (xs[i]?.map fun x => .tup [.int i, x])
  | _ => none
noncomputable def iEnum (m : DS → M (List D)) : MI := fun τ => (m τ).bind fun ds => match ds with
  | [d] => fun G => match seqOf G d with
    | some (.lst xs) => .ok (xs.length + 1, vEnum d) G
    | _ => .stuck
  | _ => M.stop
end
end L3
end
section
set_option Elab.async false
set_option linter.all false
set_option maxRecDepth 100000
namespace L3
open PySem PySem.Spec L2
theorem lz {n : Nat} (h : n ≤ 2000000) : n ≤ sizeLine := by rw [sizeLine_eq]; omega
theorem ga0 (A : DH) (x : DO) (B : DH) : (A ++ x :: B)[A.length]? = some x := by simp
theorem ga1 (A : DH) (x y : DO) (B : DH) : (A ++ x :: y :: B)[A.length + 1]? = some y := by
  rw [List.getElem?_append_right (by omega)]; simp
theorem gs0 (A : DH) (x y : DO) (B : DH) : (A ++ x :: B).set A.length y = A ++ y :: B := by
  rw [List.set_append_right _ _ (Nat.le_refl _)]; simp
theorem gs1 (A : DH) (x y z : DO) (B : DH) : (A ++ x :: y :: B).set (A.length + 1) z = A ++ x :: z :: B := by
  rw [List.set_append_right _ _ (by omega)]; simp
theorem lstOf_app {G E : DH} {n : Nat} {o : DO} (h : G[n]? = some o) : (G ++ E)[n]? = some o := by
  rw [List.getElem?_append_left (List.getElem?_eq_some_iff.mp h).1]; exact h
theorem dEq_int (g : Bool) (i j : Int) (G : DH) : dEq g (.int i) (.int j) G = .ok (.bl (g ^^ (i == j))) G := by
  simp [dEq, dEqB, toP, PyData.canLay0, PyData.depth, PyData.eqv]
theorem dEq_str (g : Bool) (a b : Str) (G : DH) (ha : PyData.strOk a = true) (hb : PyData.strOk b = true) : dEq g (.str a) (.str b) G = .ok (.bl (g ^^ (a == b))) G := by
  simp [dEq, dEqB, toP, PyData.canLay0, PyData.depth, PyData.eqv, ha, hb]
theorem optMap_strs (G : DH) : ∀ ws : List Str, optMap (toP G deep) (ws.map D.str) = some (ws.map PyData.str)
  | [] => rfl
  | w :: ws => by
    have ih := optMap_strs G ws
    simp only [List.map_cons, optMap, ih]
    rfl
theorem inB_strs (t : Str) (ws : List Str) (G : DH) (h : PyData.strOk t = true) (hw : PyData.canLayAll0 (ws.map PyData.str) = true) : inB (.str t) (ws.map D.str) G = some (ws.any (· == t)) := by
  have e1 : toP G deep (.str t) = some (.str t) := rfl
  unfold inB
  rw [e1, optMap_strs]
  dsimp only
  have c1 : (PyData.str t).canLay0 = true := by simpa [PyData.canLay0] using h
  have c3 : min (PyData.depthAll (ws.map PyData.str)) (PyData.str t).depth ≤ 180 := by
    have : (PyData.str t).depth ≤ 180 := by simp [PyData.depth]
    omega
  rw [if_pos (by rw [c1, hw]; simpa using c3)]
  simp only [List.any_map]
  congr 1
theorem good_add {a b : Str} (ha : PyData.strOk a = true) (hb : PyData.strOk b = true) : PyData.strOk (a ++ b) = true := by
  have e : (a ++ b).cps = a.cps ++ b.cps := rfl
  unfold PyData.strOk at *
  rw [e, Array.all_append, ha, hb]; rfl
theorem len_add (a b : Str) : (a ++ b).length = a.length + b.length := by
  show (a.cps ++ b.cps).size = a.cps.size + b.cps.size
  simp
theorem atI_some {α : Type} {xs : List α} {i : Int} (h0 : 0 ≤ i) (h1 : i < xs.length) : ∃ v, atI xs i = some v ∧ xs[i.toNat]? = some v := by
  have hi : i.toNat < xs.length := by omega
  refine ⟨xs[i.toNat], ?_, List.getElem?_eq_getElem hi⟩
  have := atI_nat (xs := xs) (j := i.toNat) (v := xs[i.toNat]) (List.getElem?_eq_getElem hi)
  rwa [show ((i.toNat : Nat) : Int) = i by omega] at this
theorem rng1_of {j : Int} (h0 : 0 ≤ j) (h1 : j < 100000) : rng1 [.int j] = some ((List.range' 0 j.toNat).map fun (k : Nat) => .int (0 + (k : Int))) := by
  show (if -(2 ^ 62) ≤ j ∧ j < 2 ^ 62 then some ((List.range j.toNat).map fun (k : Nat) => D.int (0 + (k : Int))) else none) = _
  rw [if_pos ⟨by omega, by omega⟩, List.range_eq_range']
end L3
end
section
set_option Elab.async false
set_option linter.all false
set_option maxRecDepth 100000
namespace L3
open PySem PySem.Spec L2
noncomputable def Res.sq (r : Res) (k : MS) : Res := match r with
  | .nx τ G => k τ G
  | r => r
noncomputable def Out.cs (r : Out Bool) (a b : MS) (τ : DS) : Res := match r with
  | .stuck => .stuck
  | .ok c G => if c = true then a τ G else b τ G
  | .exn c G => .xn c τ G
noncomputable def Out.st (r : Out D) (i : Nat) (τ : DS) : Res := match r with
  | .stuck => .stuck
  | .ok d G => .nx (τ.set i (some d)) G
  | .exn c G => .xn c τ G
noncomputable def Out.xp (r : Out D) (τ : DS) : Res := match r with
  | .stuck => .stuck
  | .ok d G => .nx τ G
  | .exn c G => .xn c τ G
noncomputable def Out.rn (r : Out D) (τ : DS) : Res := match r with
  | .stuck => .stuck
  | .ok d G => .rt d G
  | .exn c G => .xn c τ G
noncomputable def Out.bd {α β : Type} (r : Out α) (k : α → M β) : Out β := match r with
  | .stuck => .stuck
  | .ok a G => k a G
  | .exn c G => .exn c G
noncomputable def Out.sb {α : Type} (r : Out α) (τ : DS) (k : α → DH → Res) : Res := match r with
  | .stuck => .stuck
  | .ok a G => k a G
  | .exn c G => .xn c τ G
noncomputable def Res.fn (r : Res) : Out D := match r with
  | .stuck => .stuck
  | .nx _ G' => .ok .non G'
  | .rt d G' => .ok d G'
  | .bk _ _ => .stuck
  | .ct _ _ => .stuck
  | .xn c _ G' => .exn c G'
noncomputable def Res.lp (r : Res) (k : MS) : Res := match r with
  | .nx τ G => k τ G
  | .ct τ G => k τ G
  | .bk τ G => .nx τ G
  | r => r
noncomputable def whB (m k : MS) : MS := fun τ G => (m τ G).lp k
section
variable {m k : MS} {t ta tb : DS → M Bool} {a b : MS} {τ : DS} {G : DH} {e ma mb mo : DS → M D} {i n : Nat} {d : D} {c : XD} {α β : Type} {ml : DS → M (List D)} {f : D → D → M D} {fl : List D → M D}
@[simp] theorem sSeq_l : sSeq m k τ G = (m τ G).sq k := by
  unfold sSeq Res.sq
  cases m τ G <;> rfl
@[simp] theorem sq_nx : (Res.nx τ G).sq k = k τ G := Eq.trans rfl rfl
@[simp] theorem sq_rt : (Res.rt d G).sq k = .rt d G := Eq.trans rfl rfl
@[simp] theorem sq_st : Res.stuck.sq k = .stuck := Eq.trans rfl rfl
@[simp] theorem sq_bk : (Res.bk τ G).sq k = .bk τ G := Eq.trans rfl rfl
@[simp] theorem sq_ct : (Res.ct τ G).sq k = .ct τ G := Eq.trans rfl rfl
@[simp] theorem sq_xn : (Res.xn c τ G).sq k = .xn c τ G := Eq.trans rfl rfl
@[simp] theorem sIf_l : sIf t a b τ G = (t τ G).cs a b τ := by
  unfold sIf sBind Out.cs
  cases t τ G <;> rfl
@[simp] theorem cs_t : (Out.ok true G).cs a b τ = a τ G := Eq.trans rfl rfl
@[simp] theorem cs_f : (Out.ok false G).cs a b τ = b τ G := Eq.trans rfl rfl
@[simp] theorem cs_x : (Out.exn c G).cs a b τ = .xn c τ G := Eq.trans rfl rfl
@[simp] theorem sSet_l : sSet i e τ G = (e τ G).st i τ := by
  unfold sSet sBind Out.st
  cases e τ G <;> rfl
@[simp] theorem st_ok : (Out.ok d G).st i τ = .nx (τ.set i (some d)) G := Eq.trans rfl rfl
@[simp] theorem st_x : (Out.exn c G).st i τ = .xn c τ G := Eq.trans rfl rfl
@[simp] theorem sExpr_l : sExpr e τ G = (e τ G).xp τ := by
  unfold sExpr sBind Out.xp
  cases e τ G <;> rfl
@[simp] theorem xp_ok : (Out.ok d G).xp τ = .nx τ G := Eq.trans rfl rfl
@[simp] theorem xp_x : (Out.exn c G).xp τ = .xn c τ G := Eq.trans rfl rfl
@[simp] theorem sRet_l : sRet e τ G = (e τ G).rn τ := by
  unfold sRet sBind Out.rn
  cases e τ G <;> rfl
@[simp] theorem rn_ok : (Out.ok d G).rn τ = .rt d G := Eq.trans rfl rfl
@[simp] theorem rn_x : (Out.exn c G).rn τ = .xn c τ G := Eq.trans rfl rfl
@[simp] theorem sSkip_l : sSkip τ G = .nx τ G := Eq.trans rfl rfl
@[simp] theorem sRetN_l : sRetN τ G = .rt .non G := Eq.trans rfl rfl
@[simp] theorem bd_ok {x : α} {q : α → M β} : (Out.ok x G).bd q = q x G := Eq.trans rfl rfl
@[simp] theorem bd_x {q : α → M β} : (Out.exn c G).bd q = .exn c G := Eq.trans rfl rfl
@[simp] theorem bd_s {q : α → M β} : (Out.stuck (α := α)).bd q = .stuck := Eq.trans rfl rfl
@[simp] theorem bind_l {mm : M α} {q : α → M β} : M.bind mm q G = (mm G).bd q := by
  unfold M.bind Out.bd
  cases mm G <;> rfl
@[simp] theorem ret_l {x : α} : M.ret x G = .ok x G := Eq.trans rfl rfl
@[simp] theorem stop_l : (M.stop (α := α)) G = .stuck := Eq.trans rfl rfl
@[simp] theorem eVar_l : eVar i τ G = match τ[i]? with
  | some (some d) => .ok d G
  | _ => .stuck := Eq.trans rfl rfl
@[simp] theorem eC_l : eC d τ G = .ok d G := Eq.trans rfl rfl
@[simp] theorem eOp_l : eOp f ma mb τ G = (ma τ G).bd fun x => (mb τ).bind fun y => f x y := bind_l
@[simp] theorem eArgs_l : eArgs fl ml τ G = (ml τ G).bd fl := bind_l
@[simp] theorem aNil_l : aNil τ G = .ok [] G := Eq.trans rfl rfl
@[simp] theorem aCons_l : aCons ma ml τ G = (ma τ G).bd fun x => (ml τ).bind fun xs => M.ret (x :: xs) := bind_l
noncomputable def asBl : D → M Bool
  | .bl b => M.ret b
  | _ => M.stop
@[simp] theorem tBl_l : tBl e τ G = (e τ G).bd asBl := by
  unfold tBl
  rw [bind_l]
  unfold Out.bd
  cases e τ G <;> try rfl
@[simp] theorem asBl_b {b : Bool} : asBl (.bl b) G = .ok b G := Eq.trans rfl rfl
@[simp] theorem tTruth_l {q : D → M Bool} : tTruth q e τ G = (e τ G).bd q := bind_l
@[simp] theorem tNotD_l : tNotD t τ G = (t τ G).bd fun c => M.ret (!c) := bind_l
@[simp] theorem tOrD_l : tOrD ta tb τ G = (ta τ G).bd fun c => if c = true then M.ret true else tb τ := bind_l
@[simp] theorem tAndD_l : tAndD ta tb τ G = (ta τ G).bd fun c => if c = true then tb τ else M.ret false := bind_l
@[simp] theorem eIsi_l {y : Ty} : eIsi y e τ G = (e τ G).bd (dIsi y) := bind_l
@[simp] theorem eCall_l {mf : List D → M D} : eCall n mf ml τ G = (ml τ G).bd fun ds => if ds.length = n then mf ds else M.stop := bind_l
@[simp] theorem eMethT_l {T : String} {g : D → List D → M D} : eMethT T g mo ml τ G = (mo τ G).bd fun d G => if kindOk T G d = true then (ml τ G).bd (g d) else .stuck := by
  unfold eMethT
  rw [bind_l]
  unfold Out.bd
  cases mo τ G with
  | stuck => rfl
  | exn c G => rfl
  | ok d G' => simp only [bind_l]; rfl
@[simp] theorem eIf_l : eIf t ma mb τ G = (t τ G).bd fun c => if c = true then ma τ else mb τ := bind_l
@[simp] theorem sForRng_l {rng : List D → Option (List D)} {g : TgD} {body : MS} : sForRng rng g ml body τ G = (ml τ G).sb τ fun ds G => match rng ds with
    | some xs => forP g body xs τ G
    | none => .stuck := by
  unfold sForRng sBind Out.sb
  cases ml τ G <;> rfl
@[simp] theorem sForIn_l {g : TgD} {body : MS} : sForIn g e body τ G = (e τ G).sb τ fun d G => match d with
    | .obj n => match G[n]? with
      | some (.lst xs) => forO g body n (xs.length + 1) 0 τ G
      | _ => .stuck
    | .tup xs => forP g body xs τ G
    | .con xs => forP g body xs τ G
    | .str z => forP g body (z.cps.toList.map fun c => .str ⟨#[c]⟩) τ G
    | _ => .stuck := by
  unfold sForIn sBind Out.sb
  cases e τ G <;> rfl
@[simp] theorem sForV_l {g : TgD} {mi : MI} {body : MS} : sForV g mi body τ G = (mi τ G).sb τ fun x G => forV g body x.2 x.1 0 τ G := by
  unfold sForV sBind Out.sb
  cases mi τ G <;> rfl
@[simp] theorem sb_ok {x : α} {q : α → DH → Res} : (Out.ok x G).sb τ q = q x G := Eq.trans rfl rfl
@[simp] theorem sb_x {q : α → DH → Res} : (Out.exn c G).sb τ q = .xn c τ G := Eq.trans rfl rfl
@[simp] theorem eComp_l {gO : D → Option (List D)} {ks : List Bool} {tt : DS → M Bool} {te : DS → M D} : eComp gO ks e tt te τ G = (e τ G).bd fun d G => match d with
    | .obj k => match G[k]? with
      | some (.lst xs) => compO gO ks tt te G.length k (xs.length + 1) 0 τ (G ++ [.lst []])
      | _ => .stuck
    | .tup xs => compP gO ks tt te G.length xs τ (G ++ [.lst []])
    | .con xs => compP gO ks tt te G.length xs τ (G ++ [.lst []])
    | .str z => compP gO ks tt te G.length (z.cps.toList.map fun c => .str ⟨#[c]⟩) τ (G ++ [.lst []])
    | _ => .stuck := bind_l
@[simp] theorem eCompR_l {rng : List D → Option (List D)} {gO : D → Option (List D)} {ks : List Bool} {tt : DS → M Bool} {te : DS → M D} : eCompR rng gO ks ml tt te τ G = (ml τ G).bd fun ds G => match rng ds with
    | some xs => compP gO ks tt te G.length xs τ (G ++ [.lst []])
    | none => .stuck := bind_l
@[simp] theorem eCompV_l {gO : D → Option (List D)} {ks : List Bool} {mi : MI} {tt : DS → M Bool} {te : DS → M D} : eCompV gO ks mi tt te τ G = (mi τ G).bd fun x G => compV gO ks tt te G.length x.2 x.1 0 τ (G ++ [.lst []]) := bind_l
@[simp] theorem runB_l {ds : List D} : runB n m ds G = (m (ds.map some ++ List.replicate (n - ds.length) none) G).fn := by
  unfold runB Res.fn
  cases m (ds.map some ++ List.replicate (n - ds.length) none) G <;> rfl
@[simp] theorem fn_nx : (Res.nx τ G).fn = .ok .non G := Eq.trans rfl rfl
@[simp] theorem fn_rt : (Res.rt d G).fn = .ok d G := Eq.trans rfl rfl
@[simp] theorem fn_x : (Res.xn c τ G).fn = .exn c G := Eq.trans rfl rfl
@[simp] theorem eSl_l {lo hi : DS → M (Option Int)} : eSl e lo hi τ G = (e τ G).bd fun d => (lo τ).bind fun l => (hi τ).bind fun h => dSl d l h := bind_l
@[simp] theorem oNone_l : oNone τ G = .ok none G := Eq.trans rfl rfl
noncomputable def asInt : D → M (Option Int)
  | .int i => M.ret (some i)
  | _ => M.stop
@[simp] theorem oSome_l : oSome e τ G = (e τ G).bd asInt := by
  unfold oSome
  rw [bind_l]
  unfold Out.bd
  cases e τ G <;> try rfl
@[simp] theorem asInt_i {i : Int} : asInt (.int i) G = .ok (some i) G := Eq.trans rfl rfl
noncomputable def neg1 : D → M D
  | .int i => M.ret (.int (-i))
  | _ => M.stop
@[simp] theorem eNeg_l : eNeg e τ G = (e τ G).bd neg1 := by
  unfold eNeg
  rw [bind_l]
  unfold Out.bd
  cases e τ G <;> try rfl
@[simp] theorem neg1_i {i : Int} : neg1 (.int i) G = .ok (.int (-i)) G := Eq.trans rfl rfl
@[simp] theorem iEnum_l : iEnum ml τ G = (ml τ G).bd fun ds => match ds with
  | [d] => fun G => match seqOf G d with
    | some (.lst xs) => .ok (xs.length + 1, vEnum d) G
    | _ => .stuck
  | _ => M.stop := bind_l
@[simp] theorem eCallV_l {tbl : Str → Option (List D → M D)} : eCallV i n tbl ml τ G = match τ[i]? with
  | some (some (.fn y)) => match tbl y with
    | some mf => eCall n mf ml τ G
    | none => .stuck
  | _ => .stuck := Eq.trans rfl rfl
@[simp] theorem whB_l : whB m k τ G = (m τ G).lp k := Eq.trans rfl rfl
@[simp] theorem lp_nx : (Res.nx τ G).lp k = k τ G := Eq.trans rfl rfl
@[simp] theorem lp_ct : (Res.ct τ G).lp k = k τ G := Eq.trans rfl rfl
@[simp] theorem lp_bk : (Res.bk τ G).lp k = .nx τ G := Eq.trans rfl rfl
@[simp] theorem lp_rt : (Res.rt d G).lp k = .rt d G := Eq.trans rfl rfl
@[simp] theorem lp_xn : (Res.xn c τ G).lp k = .xn c τ G := Eq.trans rfl rfl
@[simp] theorem sWhile_l : sWhile t m (n + 1) τ G = (t τ G).cs (whB m (sWhile t m n)) sSkip τ := by
  rw [sWhile]
  unfold sBind Out.cs
  dsimp only
  cases t τ G with
  | stuck => rfl
  | exn c G => rfl
  | ok b G' =>
    cases b with
    | false => rfl
    | true =>
      simp only [if_true]
      unfold whB Res.lp
      cases m τ G' <;> rfl
theorem forP_cons {g : TgD} {body : MS} {x : D} {r : List D} {τ1 : DS} (h : g x τ = some τ1) : forP g body (x :: r) τ G = (body τ1 G).lp (forP g body r) := by
  rw [forP, h]
  dsimp only
  unfold Res.lp
  cases body τ1 G <;> rfl
theorem forO_l {g : TgD} {body : MS} {xs : List D} {x : D} {τ1 : DS} {j fu src : Nat} (hs : G[src]? = some (.lst xs)) (hx : xs[j]? = some x) (h : g x τ = some τ1) : forO g body src (fu + 1) j τ G = (body τ1 G).lp (forO g body src fu (j + 1)) := by
  rw [forO, hs]
  dsimp only
  rw [hx]
  dsimp only
  rw [h]
  dsimp only
  unfold Res.lp
  cases body τ1 G <;> rfl
theorem forO_end {g : TgD} {body : MS} {xs : List D} {j fu src : Nat} (hs : G[src]? = some (.lst xs)) (hx : xs[j]? = none) : forO g body src (fu + 1) j τ G = .nx τ G := by
  rw [forO, hs]
  dsimp only
  rw [hx]
end
end L3
end
section
set_option Elab.async false
set_option linter.all false
set_option maxRecDepth 100000
namespace L3
open PySem PySem.Spec L2
noncomputable def ofL (l : List Nat) : Str := ⟨l.toArray⟩
theorem ofL_l (l : List Nat) : (ofL l).cps.toList = l := by simp [ofL]
theorem l_ofL (s : Str) : ofL s.cps.toList = s := by cases s; simp [ofL]
noncomputable def splitL (c : Nat) : List Nat → List (List Nat)
  | [] => [[]]
  | x :: xs => if x = c then [] :: splitL c xs else match splitL c xs with
    | p :: ps => (x :: p) :: ps
    | [] => [[x]]
noncomputable def joinL (s : List Nat) : List (List Nat) → List Nat
  | [] => []
  | [p] => p
  | p :: q :: ps => p ++ s ++ joinL s (q :: ps)
noncomputable def rp (c : Nat) (s : List Nat) (l : List Nat) : List Nat := l.flatMap fun x => if x = c then s else [x]
theorem splitL_ne (c : Nat) : ∀ l, splitL c l ≠ []
  | [] => by simp [splitL]
  | x :: xs => by
    unfold splitL
    split
    · simp
    · split <;> simp
theorem splitL_free (c : Nat) : ∀ l, c ∉ l → splitL c l = [l]
  | [], _ => rfl
  | x :: xs, h => by
    have h1 : ¬ x = c := fun e => h (by simp [e])
    rw [splitL, if_neg h1, splitL_free c xs fun z => h (by simp [z])]
theorem splitL_app (c : Nat) : ∀ p l, splitL c (p ++ c :: l) = splitL c p ++ splitL c l
  | [], l => by simp [splitL]
  | x :: xs, l => by
    rw [List.cons_append, splitL, splitL, splitL_app c xs l]
    by_cases h : x = c
    · rw [if_pos h, if_pos h]; rfl
    · rw [if_neg h, if_neg h]
      cases e : splitL c xs with
      | nil => exact absurd e (splitL_ne c xs)
      | cons q qs => rfl
theorem splitL_joinL (c : Nat) : ∀ ps : List (List Nat), ps ≠ [] → splitL c (joinL [c] ps) = ps.flatMap (splitL c)
  | [], h => absurd rfl h
  | [p], _ => by simp [joinL]
  | p :: q :: ps, _ => by
    rw [joinL, List.append_assoc, List.singleton_append, splitL_app, splitL_joinL c (q :: ps) (by simp)]
    simp
theorem splitL_of_free (c : Nat) (ps : List (List Nat)) (hn : ps ≠ []) (h : ∀ p ∈ ps, c ∉ p) : splitL c (joinL [c] ps) = ps := by
  rw [splitL_joinL c ps hn]
  clear hn
  induction ps with
  | nil => rfl
  | cons p ps ih => rw [List.flatMap_cons, splitL_free c p (h p (by simp)), ih fun q hq => h q (by simp [hq])]; rfl
theorem joinL_splitL (c : Nat) (s : List Nat) : ∀ l, joinL s (splitL c l) = rp c s l
  | [] => rfl
  | x :: xs => by
    have ih := joinL_splitL c s xs
    unfold splitL rp
    rw [List.flatMap_cons]
    by_cases h : x = c
    · rw [if_pos h, if_pos h]
      cases e : splitL c xs with
      | nil => exact absurd e (splitL_ne c xs)
      | cons q qs => rw [e] at ih; rw [joinL, ih]; rfl
    · rw [if_neg h, if_neg h]
      cases e : splitL c xs with
      | nil => exact absurd e (splitL_ne c xs)
      | cons q qs =>
        rw [e] at ih
        cases qs with
        | nil => rw [joinL] at ih ⊢; rw [ih]; rfl
        | cons r rs => rw [joinL] at ih ⊢; rw [List.cons_append, List.cons_append, ih]; rfl
theorem rp_app (c : Nat) (s a b : List Nat) : rp c s (a ++ b) = rp c s a ++ rp c s b := by simp [rp]
theorem rp_free (c : Nat) (s : List Nat) : ∀ l, c ∉ l → rp c s l = l
  | [], _ => rfl
  | x :: xs, h => by
    have h1 : ¬ x = c := fun e => h (by simp [e])
    have ih := rp_free c s xs fun z => h (by simp [z])
    unfold rp at ih ⊢
    rw [List.flatMap_cons, if_neg h1, ih]; rfl
theorem rp_joinL (c : Nat) (s g : List Nat) (hg : c ∉ g) : ∀ ps, rp c s (joinL g ps) = joinL g (ps.map (rp c s))
  | [] => rfl
  | [p] => rfl
  | p :: q :: ps => by
    rw [joinL, rp_app, rp_app, rp_free c s g hg, rp_joinL c s g hg (q :: ps)]
    rfl
theorem join_l (y : Str) : ∀ ps : List Str, (y.join ps).cps.toList = joinL y.cps.toList (ps.map fun p => p.cps.toList)
  | [] => by
    rw [← StrLaws.glued_eq_join]
    simp [Builtin.Str.glued, joinL, Str.empty]
  | p :: ps => by
    rw [← StrLaws.glued_eq_join]
    have key : ∀ (ps : List Str) (a : Array Nat), (List.foldl (fun acc (p : Str) => acc ++ y.cps ++ p.cps) a ps).toList = joinL y.cps.toList (a.toList :: ps.map fun p => p.cps.toList) := by
      intro ps
      induction ps with
      | nil => intro a; simp [joinL]
      | cons q qs ih =>
        intro a
        rw [List.foldl_cons, ih]
        cases qs with
        | nil => simp [joinL]
        | cons r rs => simp [joinL]
    simpa [Builtin.Str.glued] using key ps p.cps
theorem split_ne (x : Str) (c : Nat) : Txt.split x ⟨#[c]⟩ ≠ [] := by
  unfold Txt.split
  split
  · simp
  · split
    · simp
    · rw [StrLaws.partsBetween_eq]
      obtain ⟨p, r, e⟩ := StrLaws.partsFrom_ne x (Str.mk #[c]).length 0 (Builtin.Str.occurrences x ⟨#[c]⟩ 0 x.length (x.length + 1))
      rw [e]; simp
theorem split_l (x : Str) (c : Nat) : (Txt.split x ⟨#[c]⟩).map (fun p => p.cps.toList) = splitL c x.cps.toList := by
  have h1 := congrArg (fun s : Str => s.cps.toList) (StrLaws.join_split x ⟨#[c]⟩)
  rw [join_l] at h1
  rw [← h1]
  refine (splitL_of_free c _ (by simp [split_ne]) fun p hp => ?_).symm
  obtain ⟨q, hq, rfl⟩ := List.mem_map.mp hp
  exact StrLaws.split_free x c q hq
theorem split_eq (x : Str) (c : Nat) : Txt.split x ⟨#[c]⟩ = (splitL c x.cps.toList).map ofL := by
  rw [← split_l, List.map_map]
  conv => lhs; rw [← List.map_id (Txt.split x ⟨#[c]⟩)]
  exact List.map_congr_left fun p _ => (l_ofL p).symm
theorem replace_l (x z : Str) (c : Nat) : (Txt.replace x ⟨#[c]⟩ z).cps.toList = rp c z.cps.toList x.cps.toList := by
  rw [StrLaws.replace_one, join_l, split_l, joinL_splitL]
noncomputable def Wd (w : Str) : Prop := w = "(" ∨ w = ")" ∨ (w.cps.toList ≠ [] ∧ ∀ x ∈ w.cps.toList, x ≠ 32 ∧ x ≠ 40 ∧ x ≠ 41 ∧ x ≠ 10)
noncomputable def spaced (t : Str) : List Nat := rp 41 [32, 41, 32] (rp 40 [32, 40, 32] t.cps.toList)
theorem word_sp {w : Str} (h : Wd w) : (splitL 32 (rp 41 [32, 41, 32] (rp 40 [32, 40, 32] w.cps.toList))).filter (fun l => !l.isEmpty) = [w.cps.toList] := by
  rcases h with rfl | rfl | ⟨hn, h⟩
  · rfl
  · rfl
  · rw [rp_free 40 _ _ fun z => (h 40 z).2.1 rfl, rp_free 41 _ _ fun z => (h 41 z).2.2.1 rfl, splitL_free 32 _ fun z => (h 32 z).1 rfl]
    cases e : w.cps.toList with
    | nil => exact absurd e hn
    | cons a r => rfl
theorem words_l (W : List Str) (hW : W ≠ []) (h : ∀ w ∈ W, Wd w) : (splitL 32 (rp 41 [32, 41, 32] (rp 40 [32, 40, 32] (joinL [32] (W.map fun p => p.cps.toList))))).filter (fun l => !l.isEmpty) = W.map fun p => p.cps.toList := by
  rw [rp_joinL 40 _ _ (by decide), rp_joinL 41 _ _ (by decide), splitL_joinL 32 _ (by simp [hW])]
  clear hW
  induction W with
  | nil => rfl
  | cons w ws ih =>
    simp only [List.map_cons, List.flatMap_cons, List.filter_append]
    rw [word_sp (h w (by simp)), ih fun v hv => h v (by simp [hv])]
    rfl
theorem noOcc_l (x : Str) (c : Nat) (h : c ∉ x.cps.toList) : noOcc x ⟨#[c]⟩ = true := by
  unfold noOcc
  cases e : Builtin.Str.occurrences x ⟨#[c]⟩ 0 x.length (x.length + 1) with
  | nil => rfl
  | cons i r =>
    have h1 := StrLaws.occ_spec x ⟨#[c]⟩ 0 x.length (x.length + 1) i (by rw [e]; simp)
    have h2 := (StrLaws.subAt_one x c i).mp h1
    exact absurd (List.mem_of_getElem? h2) h
end L3
end
section
set_option Elab.async false
set_option linter.all false
set_option maxRecDepth 100000
namespace L3
open PySem PySem.Spec L2
section
variable {m k mb me : MS} {τ : DS} {G : DH} {e : DS → M D} {c : XD} {x : Str} {ml : DS → M (List D)} {d : D}
@[simp] theorem sRaise_l : sRaise x ml τ G = (ml τ G).sb τ fun ds G => if ds.length ≤ sizeLine then .xn (.mk x ds) τ G else .stuck := by
  unfold sRaise sBind Out.sb
  cases ml τ G <;> rfl
@[simp] theorem eUn_l {f : D → M D} : eUn f e τ G = (e τ G).bd f := bind_l
noncomputable def fmt1 (c : Str) : D → M D
  | .str y => if (c ++ y).length ≤ sizeLine ∧ y.length ≤ sizeLine then M.ret (.str (c ++ y)) else M.stop
  | _ => M.stop
theorem eFmt_l {c : Str} (h : c.length ≤ sizeLine) : eFmt c e τ G = (e τ G).bd (fmt1 c) := by
  unfold eFmt
  rw [if_pos h, bind_l]
  unfold Out.bd
  cases e τ G <;> try rfl
noncomputable def Res.tr (r : Res) (mh : XD → MS) (me : MS) : Res := match r with
  | .nx τ' G' => me τ' G'
  | .xn c τ' G' => mh c τ' G'
  | r => r
theorem sTry_l {mh : XD → MS} : sTry mb mh me τ G = (mb τ G).tr mh me := by
  unfold sTry Res.tr
  cases mb τ G <;> rfl
theorem tr_xn {mh : XD → MS} : (Res.xn c τ G).tr mh me = mh c τ G := Eq.trans rfl rfl
theorem hCons_l {p : Str → Option Bool} {r : XD → MS} {n : Str} {as : List D} : hCons p m r (.mk n as) τ G = match p n with
    | some true => noXS (m τ G)
    | some false => r (.mk n as) τ G
    | none => .stuck := Eq.trans rfl rfl
end
end L3
end
section
set_option Elab.async false
set_option linter.all false
set_option maxRecDepth 100000
set_option maxHeartbeats 4000000
namespace K16
open PySem PySem.Spec L2 L3
noncomputable def top (i : Nat) : Stmt := PySem.Challenge.pw_pathshape_k16_bad_forms.main.body.getD i (.Pass ⟨0, 0, 0, 0⟩)
noncomputable abbrev s_is_name : Stmt := top 7
noncomputable abbrev s_read_tree : Stmt := top 12
noncomputable abbrev s_read_shape : Stmt := top 13
noncomputable abbrev s_read_way : Stmt := top 14
noncomputable abbrev s_words_of : Stmt := top 15
noncomputable abbrev s_read_bracket : Stmt := top 16
noncomputable abbrev s_value_of : Stmt := top 17
noncomputable abbrev s_values_of : Stmt := top 18
noncomputable abbrev s_name_of : Stmt := top 19
noncomputable abbrev s_make_tree : Stmt := top 20
noncomputable abbrev s_make_in_shape : Stmt := top 21
noncomputable abbrev s_shape_value : Stmt := top 22
noncomputable abbrev s_rule_value : Stmt := top 23
noncomputable abbrev s_item_value : Stmt := top 24
noncomputable abbrev s_count_of : Stmt := top 25
noncomputable abbrev s_high_of : Stmt := top 26
noncomputable abbrev s_make_in_way : Stmt := top 27
noncomputable abbrev s_way_value : Stmt := top 28
noncomputable abbrev s_look_value : Stmt := top 29
noncomputable abbrev s_look_of : Stmt := top 30
noncomputable abbrev s__law_draws : Stmt := top 32
noncomputable abbrev s__law_name : Stmt := top 33
noncomputable abbrev s__law_good : Stmt := top 34
noncomputable abbrev s__law_bad_trees : Stmt := top 35
noncomputable abbrev s__law_bad_shapes : Stmt := top 36
noncomputable abbrev s__law_bad_ways : Stmt := top 37
noncomputable abbrev s__law_text : Stmt := top 38
noncomputable abbrev s__law_read : Stmt := top 39
noncomputable abbrev s_law : Stmt := top 40
noncomputable def g_COUNTS : D := .tup [.str "0", .str "1", .str "2"]
noncomputable def g_GOES : D := .tup [.str "down", .str "deep", .str "later"]
noncomputable def g_KEPT_WORDS : D := .tup [.str "start", .str "rule", .str "row", .str "mix", .str "many", .str "any", .str "kind", .str "not", .str "both", .str "either", .str "way", .str "mark"]
noncomputable def g_LETTERS : D := .str "abcdefghijklmnopqrstuvwxyz"
noncomputable def g_LONGEST : D := .int (8)
noncomputable def g_ORDERS : D := .tup [.str "row", .str "mix"]
noncomputable abbrev N_is_name : List Str := ["text"]
noncomputable abbrev kk_is_name : Nat := 1
noncomputable def b_is_name : MS := sSeq (sIf (tOrD (tNotD (tTruth dTru (eIsi .str (eVar 0)))) (tBl (eOp (dIn false) (eVar 0) (eC g_KEPT_WORDS)))) (sRet (eC (.bl false))) (sSkip)) (sSeq (sIf (tOrD (tBl (eOp (dEq false) (eArgs dLen (aCons (eVar 0) (aNil))) (eC (.int 0)))) (tBl (eOp dGt (eArgs dLen (aCons (eVar 0) (aNil))) (eC g_LONGEST)))) (sRet (eC (.bl false))) (sSkip)) (sRet (eArgs (dAll false) (aCons (eComp oN [] (eVar 0) (tYes) (eOp (dIn false) (eVar 0) (eC g_LETTERS))) (aNil)))))
noncomputable def m_is_name (ds : List D) : M D := runB 1 b_is_name ds
noncomputable abbrev N_words_of : List Str := ["text", "spaced"]
noncomputable abbrev kk_words_of : Nat := 1
noncomputable def b_words_of : MS := sSeq (sIf (tNotD (tTruth dTru (eIsi .str (eVar 0)))) (sRaise "NoText" (aCons (eC (.str "what is read must be a text")) (aNil))) (sSkip)) (sSeq (sSet 1 (eUn (dRep ")" " ) ") (eUn (dRep "(" " ( ") (eUn (dRep0 "\n") (eVar 0))))) (sRet (eComp oN [] (eMethT "str" dSplit (eVar 1) (aCons (eC (.str " ")) (aNil))) (tBl (eOp (dEq true) (eVar 0) (eC (.str "")))) (eVar 0))))
noncomputable def m_words_of (ds : List D) : M D := runB 2 b_words_of ds
noncomputable abbrev N_value_of : List Str := ["part", "sort"]
noncomputable abbrev kk_value_of : Nat := 1
noncomputable def b_value_of : MS := sSeq (sIf (tAndD (tTruth dTru (eIsi .tup (eVar 0))) (tBl (eOp (dEq false) (eOp dIx (eVar 0) (eC (.int 0))) (eVar 1)))) (sRet (eOp dIx (eVar 0) (eC (.int 1)))) (sSkip)) (sRaise "NoText" (aCons (eFmt "what must stand here: " (eVar 1)) (aNil)))
noncomputable def m_value_of (ds : List D) : M D := runB 2 b_value_of ds
noncomputable abbrev N_count_of : List Str := ["part"]
noncomputable abbrev kk_count_of : Nat := 1
noncomputable def b_count_of : MS := sSeq (sIf (tBl (eOp (dIn false) (eVar 0) (eC g_COUNTS))) (sRet (eArgs (fun ds => dIndex g_COUNTS ds) (aCons (eVar 0) (aNil)))) (sSkip)) (sRaise "NoText" (aCons (eC (.str "0, 1 or 2 must stand here")) (aNil)))
noncomputable def m_count_of (ds : List D) : M D := runB 1 b_count_of ds
noncomputable abbrev N__law_draws : List Str := ["_law_script", "_law_many", "_law_found", "_law_k", "_law_cell"]
noncomputable abbrev kk__law_draws : Nat := 1
noncomputable def L0__law_draws : MS := sSeq (sSet 4 (eC (.int 0))) (sSeq (sIf (tBl (eOp dGt (eArgs dLen (aCons (eVar 0) (aNil))) (eC (.int 0)))) (sSet 4 (eOp dMod (eOp dIx (eVar 0) (eOp dMod (eVar 3) (eArgs dLen (aCons (eVar 0) (aNil))))) (eOp dPow (eC (.int 10)) (eC (.int 18))))) (sSkip)) (sExpr (eMethT "list" dAppend (eVar 2) (aCons (eOp dAdd (eVar 4) (eOp dMul (eC (.int 7919)) (eOp dFdiv (eVar 3) (eArgs (dInt2L fun i j => if j > i then j else i) (aCons (eC (.int 1)) (aCons (eArgs dLen (aCons (eVar 0) (aNil))) (aNil))))))) (aNil)))))
noncomputable def b__law_draws : MS := sSeq (sSet 2 (eArgs dNew (aNil))) (sSeq (sForRng rng1 (gN 3) (aCons (eVar 1) (aNil)) L0__law_draws) (sRet (eVar 2)))
noncomputable def m__law_draws (ds : List D) : M D := runB 5 b__law_draws ds
noncomputable abbrev N__law_name : List Str := ["_law_draw", "_law_letters", "_law_name_here", "_law_k", "_law_at", "_law_taken"]
noncomputable abbrev kk__law_name : Nat := 1
noncomputable def L0__law_name : MS := sSeq (sSet 4 (eOp dAdd (eOp dAdd (eOp dFdiv (eVar 0) (eC (.int 208))) (eOp dMul (eOp dMul (eC (.int 7)) (eVar 3)) (eVar 3))) (eOp dMul (eOp dMod (eOp dFdiv (eVar 0) (eC (.int 5408))) (eC (.int 26))) (eVar 3)))) (sSet 2 (eOp dAdd (eVar 2) (eOp dIx (eVar 1) (eOp dMod (eVar 4) (eC (.int 26))))))
noncomputable def T0__law_name : MS := sSeq (sSet 5 (eArgs dNew (aCons (eC (.str "start")) (aCons (eC (.str "rule")) (aCons (eC (.str "row")) (aCons (eC (.str "mix")) (aCons (eC (.str "many")) (aCons (eC (.str "any")) (aCons (eC (.str "kind")) (aCons (eC (.str "not")) (aCons (eC (.str "both")) (aCons (eC (.str "either")) (aCons (eC (.str "way")) (aCons (eC (.str "mark")) (aNil))))))))))))))) (sSeq (sIf (tBl (eOp (dIn false) (eVar 2) (eVar 5))) (sRet (eOp dAdd (eVar 2) (eC (.str "z")))) (sSkip)) (sRet (eVar 2)))
noncomputable def b__law_name : MS := sSeq (sSet 1 (eC (.str "abcdefghijklmnopqrstuvwxyz"))) (sSeq (sSet 2 (eOp dIx (eVar 1) (eOp dMod (eVar 0) (eC (.int 26))))) (sSeq (sForRng rng1 (gN 3) (aCons (eOp dMod (eOp dFdiv (eVar 0) (eC (.int 26))) (eC (.int 8))) (aNil)) L0__law_name) (T0__law_name)))
noncomputable def m__law_name (ds : List D) : M D := runB 6 b__law_name ds
noncomputable abbrev N__law_good : List Str := ["_law_cell", "_law_some"]
noncomputable abbrev kk__law_good : Nat := 1
noncomputable def b__law_good : MS := sSeq (sSet 1 (eArgs dNew (aCons (eArgs dNew (aCons (eC (.int 0)) (aCons (eC (.str "( x )")) (aNil)))) (aCons (eArgs dNew (aCons (eC (.int 0)) (aCons (eC (.str "( x ( y ) ( x ) )")) (aNil)))) (aCons (eArgs dNew (aCons (eC (.int 1)) (aCons (eC (.str "( start x ( rule x y row ) )")) (aNil)))) (aCons (eArgs dNew (aCons (eC (.int 2)) (aCons (eC (.str "( way ( down any ) )")) (aNil)))) (aNil))))))) (sSeq (sSet 1 (eOp dAdd (eVar 1) (eArgs dNew (aCons (eArgs dNew (aCons (eC (.int 1)) (aCons (eC (.str "( start x ( rule x y mix ( x 0 0 ) ( y 2 many ) ) ( rule y y row ( x 1 2 ) ) )")) (aNil)))) (aNil))))) (sSeq (sSet 1 (eOp dAdd (eVar 1) (eArgs dNew (aCons (eArgs dNew (aCons (eC (.int 1)) (aCons (eC (.str "( start y ( rule x x row ( x 0 many ) ( x 1 1 ) ) )")) (aNil)))) (aCons (eArgs dNew (aCons (eC (.int 2)) (aCons (eC (.str "( way ( deep ( kind x ) ) )")) (aNil)))) (aNil)))))) (sSeq (sSet 1 (eOp dAdd (eVar 1) (eArgs dNew (aCons (eArgs dNew (aCons (eC (.int 2)) (aCons (eC (.str "( way ( later ( not any ) ) ( down ( both any ( kind y ) ) ) )")) (aNil)))) (aCons (eArgs dNew (aCons (eC (.int 0)) (aCons (eC (.str "( down ( deep ) )")) (aNil)))) (aNil)))))) (sSeq (sSet 1 (eOp dAdd (eVar 1) (eArgs dNew (aCons (eArgs dNew (aCons (eC (.int 2)) (aCons (eC (.str "( way ( down ( either any ( way ( deep any ) ) ) ) )")) (aNil)))) (aCons (eArgs dNew (aCons (eC (.int 1)) (aCons (eC (.str "( start x ( rule y x mix ) )")) (aNil)))) (aNil)))))) (sSeq (sSet 1 (eOp dAdd (eVar 1) (eArgs dNew (aCons (eArgs dNew (aCons (eC (.int 2)) (aCons (eC (.str "( way ( down ( way ( down any ) ( later any ) ) ) )")) (aNil)))) (aNil))))) (sRet (eOp dIx (eVar 1) (eOp dMod (eVar 0) (eArgs dLen (aCons (eVar 1) (aNil)))))))))))
noncomputable def m__law_good (ds : List D) : M D := runB 2 b__law_good ds
noncomputable abbrev N__law_bad_trees : List Str := ["_law_some"]
noncomputable abbrev kk__law_bad_trees : Nat := 1
noncomputable def b__law_bad_trees : MS := sSeq (sSet 0 (eArgs dNew (aCons (eC (.str "( )")) (aCons (eC (.str "x")) (aCons (eC (.str "( K )")) (aCons (eC (.str "( x y )")) (aCons (eC (.str "( x ( ) )")) (aCons (eC (.str "( ( x ) )")) (aCons (eC (.str "( x ( y ) y )")) (aCons (eC (.str "( x ( y ( K ) ) )")) (aCons (eC (.str "K")) (aNil)))))))))))) (sRet (eComp oN [] (eOp dAdd (eVar 0) (eArgs dNew (aCons (eC (.str "( x ) ( y )")) (aCons (eC (.str "( x 1 )")) (aCons (eC (.str "( x ( ( y ) ) )")) (aCons (eC (.str "( x K )")) (aCons (eC (.str "( ( x ) ( y ) )")) (aNil)))))))) (tYes) (eArgs dNew (aCons (eC (.int 0)) (aCons (eVar 0) (aNil))))))
noncomputable def m__law_bad_trees (ds : List D) : M D := runB 1 b__law_bad_trees ds
noncomputable abbrev N__law_bad_shapes : List Str := ["_law_some"]
noncomputable abbrev kk__law_bad_shapes : Nat := 1
noncomputable def b__law_bad_shapes : MS := sSeq (sSet 0 (eArgs dNew (aCons (eC (.str "( start x )")) (aCons (eC (.str "( start )")) (aCons (eC (.str "start")) (aCons (eC (.str "( start K ( rule x y row ) )")) (aCons (eC (.str "( start x rule )")) (aCons (eC (.str "( start x ( ) )")) (aNil))))))))) (sSeq (sSet 0 (eOp dAdd (eVar 0) (eArgs dNew (aCons (eC (.str "( start x ( rule x y ) )")) (aCons (eC (.str "( start x ( rule x row ) )")) (aCons (eC (.str "( start x ( rule x y row row ) )")) (aNil))))))) (sSeq (sSet 0 (eOp dAdd (eVar 0) (eArgs dNew (aCons (eC (.str "( start x ( rule x y heap ) )")) (aCons (eC (.str "( start x ( rule K y row ) )")) (aCons (eC (.str "( start x ( rule x K mix ) )")) (aNil))))))) (sSeq (sSet 0 (eOp dAdd (eVar 0) (eArgs dNew (aCons (eC (.str "( start x ( rule x y row ( x 1 ) ) )")) (aCons (eC (.str "( start x ( rule x y row ( x 1 2 2 ) ) )")) (aNil)))))) (sSeq (sSet 0 (eOp dAdd (eVar 0) (eArgs dNew (aCons (eC (.str "( start x ( rule x y row ( K 1 2 ) ) )")) (aCons (eC (.str "( start x ( rule x y row ( x 3 many ) ) )")) (aNil)))))) (sSeq (sSet 0 (eOp dAdd (eVar 0) (eArgs dNew (aCons (eC (.str "( start x ( rule x y row ( x 2 1 ) ) )")) (aCons (eC (.str "( start x ( rule x y mix ( x 1 0 ) ) )")) (aNil)))))) (sSeq (sSet 0 (eOp dAdd (eVar 0) (eArgs dNew (aCons (eC (.str "( start x ( rule x y row ( x 0 3 ) ) )")) (aCons (eC (.str "( start x ( rule x y row ( x many many ) ) )")) (aNil)))))) (sSeq (sSet 0 (eOp dAdd (eVar 0) (eArgs dNew (aCons (eC (.str "( start x ( rule x y row ( x one 2 ) ) )")) (aCons (eC (.str "( start x ( rule x y row x ) )")) (aNil)))))) (sSeq (sSet 0 (eOp dAdd (eVar 0) (eArgs dNew (aCons (eC (.str "( start x ( rule x y row ( x 01 2 ) ) )")) (aCons (eC (.str "( start x ( rule x y row ( ( x ) 1 2 ) ) )")) (aNil)))))) (sSeq (sSet 0 (eOp dAdd (eVar 0) (eArgs dNew (aCons (eC (.str "( start x ( rule x y row ( x ( 1 ) 2 ) ) )")) (aCons (eC (.str "( start x ( rule x y row ( x 1 ( 2 ) ) ) )")) (aNil)))))) (sSeq (sSet 0 (eOp dAdd (eVar 0) (eArgs dNew (aCons (eC (.str "( start x ( x y row ) )")) (aCons (eC (.str "( start ( x ) ( rule x y row ) )")) (aCons (eC (.str "( rule x y row )")) (aNil))))))) (sSeq (sSet 0 (eOp dAdd (eVar 0) (eArgs dNew (aCons (eC (.str "( start x ( rule x y row ( x 0 1 ) ) ( rule y ) )")) (aCons (eC (.str "( start x ( rule x y ( row ) ) )")) (aNil)))))) (sSeq (sSet 0 (eOp dAdd (eVar 0) (eArgs dNew (aCons (eC (.str "( start x ( rule x y row ( x 0 1 ) ( y 1 not ) ) )")) (aCons (eC (.str "( way x ( rule x y row ) )")) (aNil)))))) (sSeq (sSet 0 (eOp dAdd (eVar 0) (eArgs dNew (aCons (eC (.str "( start x ( rule ( x ) y row ) )")) (aCons (eC (.str "( start x ( rule x ( y ) row ) )")) (aNil)))))) (sSeq (sSet 0 (eOp dAdd (eVar 0) (eArgs dNew (aCons (eC (.str "( start x ( rule x y ro ) )")) (aCons (eC (.str "( start x ( rule x y wmi ) )")) (aNil)))))) (sSeq (sSet 0 (eOp dAdd (eVar 0) (eArgs dNew (aCons (eC (.str "( start x ( rule x y row ( x 12 2 ) ) )")) (aCons (eC (.str "( start x ( rule x y row ( x -0 2 ) ) )")) (aNil)))))) (sSeq (sSet 0 (eOp dAdd (eVar 0) (eArgs dNew (aCons (eC (.str "( start x ( rule x y row ( x 1 +2 ) ) )")) (aCons (eC (.str "( start x ( rule x y row ( x 0 1_0 ) ) )")) (aNil)))))) (sRet (eComp oN [] (eVar 0) (tYes) (eArgs dNew (aCons (eC (.int 1)) (aCons (eVar 0) (aNil))))))))))))))))))))))
noncomputable def m__law_bad_shapes (ds : List D) : M D := runB 1 b__law_bad_shapes ds
noncomputable abbrev N__law_bad_ways : List Str := ["_law_some"]
noncomputable abbrev kk__law_bad_ways : Nat := 1
noncomputable def b__law_bad_ways : MS := sSeq (sSet 0 (eArgs dNew (aCons (eC (.str "( way )")) (aCons (eC (.str "way")) (aCons (eC (.str "( way down any )")) (aCons (eC (.str "( way ( down ) )")) (aCons (eC (.str "( way ( down any any ) )")) (aCons (eC (.str "( way ( up any ) )")) (aNil))))))))) (sSeq (sSet 0 (eOp dAdd (eVar 0) (eArgs dNew (aCons (eC (.str "( way ( any ) )")) (aCons (eC (.str "( way ( down x ) )")) (aCons (eC (.str "( way ( down ( x ) ) )")) (aCons (eC (.str "( way ( down ( kind ) ) )")) (aNil)))))))) (sSeq (sSet 0 (eOp dAdd (eVar 0) (eArgs dNew (aCons (eC (.str "( way ( down ( kind x y ) ) )")) (aCons (eC (.str "( way ( down ( kind K ) ) )")) (aCons (eC (.str "( way ( down ( not ) ) )")) (aNil))))))) (sSeq (sSet 0 (eOp dAdd (eVar 0) (eArgs dNew (aCons (eC (.str "( way ( down ( not any any ) ) )")) (aCons (eC (.str "( way ( down ( both any ) ) )")) (aCons (eC (.str "( way ( down mark ) )")) (aNil))))))) (sSeq (sSet 0 (eOp dAdd (eVar 0) (eArgs dNew (aCons (eC (.str "( way ( down ( both any any any ) ) )")) (aCons (eC (.str "( way ( down ( either any ) ) )")) (aCons (eC (.str "( way ( down ( ) ) )")) (aNil))))))) (sSeq (sSet 0 (eOp dAdd (eVar 0) (eArgs dNew (aCons (eC (.str "( way ( down ( any ) ) )")) (aCons (eC (.str "( way ( down ( way ) ) )")) (aCons (eC (.str "( way ( down ( way down any ) ) )")) (aNil))))))) (sSeq (sSet 0 (eOp dAdd (eVar 0) (eArgs dNew (aCons (eC (.str "( way ( ( down ) any ) )")) (aCons (eC (.str "( way ( down any ) down )")) (aCons (eC (.str "( way ( down kind ) )")) (aCons (eC (.str "any")) (aNil)))))))) (sSeq (sSet 0 (eOp dAdd (eVar 0) (eArgs dNew (aCons (eC (.str "( way ( down ( kind ( x ) ) ) )")) (aCons (eC (.str "( way ( down ( not x ) ) )")) (aCons (eC (.str "( way ( down any ) ( deep ) )")) (aNil))))))) (sSeq (sSet 0 (eOp dAdd (eVar 0) (eArgs dNew (aCons (eC (.str "( kind x )")) (aCons (eC (.str "( way ( down ( not ( mark ) ) ) )")) (aCons (eC (.str "( way ( down ( both any mark ) ) )")) (aNil))))))) (sSeq (sSet 0 (eOp dAdd (eVar 0) (eArgs dNew (aCons (eC (.str "( way ( down ( down any ) ) )")) (aCons (eC (.str "( not any )")) (aCons (eC (.str "( way ( down way ) )")) (aCons (eC (.str "( way ( K any ) )")) (aNil)))))))) (sSeq (sSet 0 (eOp dAdd (eVar 0) (eArgs dNew (aCons (eC (.str "( way ( ow any ) )")) (aCons (eC (.str "( way ( later any ) ( ee any ) )")) (aCons (eC (.str "( way ( down an ) )")) (aNil))))))) (sRet (eComp oN [] (eVar 0) (tYes) (eArgs dNew (aCons (eC (.int 2)) (aCons (eVar 0) (aNil))))))))))))))))
noncomputable def m__law_bad_ways (ds : List D) : M D := runB 1 b__law_bad_ways ds
noncomputable abbrev N__law_text : List Str := ["_law_form", "_law_x", "_law_y", "_law_word", "_law_found", "_law_one"]
noncomputable abbrev kk__law_text : Nat := 1
noncomputable def L0__law_text : MS := sSeq (sIf (tBl (eOp (dEq false) (eVar 5) (eC (.str "x")))) (sSet 5 (eVar 1)) (sIf (tBl (eOp (dEq false) (eVar 5) (eC (.str "y")))) (sSet 5 (eVar 2)) (sIf (tBl (eOp (dEq false) (eVar 5) (eC (.str "K")))) (sSet 5 (eVar 3)) (sSkip)))) (sExpr (eMethT "list" dAppend (eVar 4) (aCons (eVar 5) (aNil))))
noncomputable def b__law_text : MS := sSeq (sSet 4 (eArgs dNew (aNil))) (sSeq (sForIn (gN 5) (eMethT "str" dSplit (eVar 0) (aCons (eC (.str " ")) (aNil))) L0__law_text) (sRet (eMethT "str" dJoin (eC (.str " ")) (aCons (eVar 4) (aNil)))))
noncomputable def m__law_text (ds : List D) : M D := runB 6 b__law_text ds
noncomputable abbrev N_values_of : List Str := ["parts", "sort"]
noncomputable abbrev kk_values_of : Nat := 2
noncomputable def b_values_of : MS := sRet (eArgs dTupOf (aCons (eComp oN [false, true] (eVar 0) (tYes) (eCall 2 m_value_of (aCons (eVar 0) (aCons (eVar 2) (aNil))))) (aNil)))
noncomputable def m_values_of (ds : List D) : M D := runB 2 b_values_of ds
noncomputable abbrev N_name_of : List Str := ["part"]
noncomputable abbrev kk_name_of : Nat := 2
noncomputable def b_name_of : MS := sSeq (sIf (tTruth dTru (eCall 1 m_is_name (aCons (eVar 0) (aNil)))) (sRet (eVar 0)) (sSkip)) (sRaise "NoText" (aCons (eC (.str "a name must stand here")) (aNil)))
noncomputable def m_name_of (ds : List D) : M D := runB 1 b_name_of ds
noncomputable abbrev N_high_of : List Str := ["part", "low", "high"]
noncomputable abbrev kk_high_of : Nat := 2
noncomputable def b_high_of : MS := sSeq (sIf (tBl (eOp (dEq false) (eVar 0) (eC (.str "many")))) (sRet (eC .non)) (sSkip)) (sSeq (sSet 2 (eCall 1 m_count_of (aCons (eVar 0) (aNil)))) (sSeq (sIf (tBl (eOp dLt (eVar 2) (eVar 1))) (sRaise "NoText" (aCons (eC (.str "a high must not be below its low")) (aNil))) (sSkip)) (sRet (eVar 2))))
noncomputable def m_high_of (ds : List D) : M D := runB 3 b_high_of ds
noncomputable abbrev N_look_of : List Str := ["part"]
noncomputable abbrev kk_look_of : Nat := 2
noncomputable def b_look_of : MS := sSeq (sIf (tBl (eOp (dEq false) (eVar 0) (eC (.str "any")))) (sRet (eArgs dTup (aCons (eC (.str "any")) (aNil)))) (sSkip)) (sSeq (sIf (tAndD (tTruth dTru (eIsi .tup (eVar 0))) (tBl (eOp (dEq false) (eOp dIx (eVar 0) (eC (.int 0))) (eC (.str "way"))))) (sRet (eArgs dTup (aCons (eC (.str "way")) (aCons (eOp dIx (eVar 0) (eC (.int 1))) (aNil))))) (sSkip)) (sRet (eCall 2 m_value_of (aCons (eVar 0) (aCons (eC (.str "look")) (aNil))))))
noncomputable def m_look_of (ds : List D) : M D := runB 1 b_look_of ds
noncomputable abbrev N_make_tree : List Str := ["parts"]
noncomputable def b_make_tree : MS := sSeq (sIf (tBl (eOp (dEq false) (eArgs dLen (aCons (eVar 0) (aNil))) (eC (.int 0)))) (sRaise "NoText" (aCons (eC (.str "a tree must have a kind")) (aNil))) (sSkip)) (sRet (eArgs dTup (aCons (eC (.str "tree")) (aCons (eArgs dTup (aCons (eCall 1 m_name_of (aCons (eOp dIx (eVar 0) (eC (.int 0))) (aNil))) (aCons (eCall 2 m_values_of (aCons (eSl (eVar 0) (oSome (eC (.int 1))) (oNone)) (aCons (eC (.str "tree")) (aNil)))) (aNil)))) (aNil)))))
noncomputable def m_make_tree (ds : List D) : M D := runB 1 b_make_tree ds
noncomputable abbrev N_shape_value : List Str := ["parts"]
noncomputable abbrev kk_shape_value : Nat := 3
noncomputable def b_shape_value : MS := sSeq (sIf (tBl (eOp dLt (eArgs dLen (aCons (eVar 0) (aNil))) (eC (.int 3)))) (sRaise "NoText" (aCons (eC (.str "a shape must have a start and a rule")) (aNil))) (sSkip)) (sRet (eArgs dTup (aCons (eCall 1 m_name_of (aCons (eOp dIx (eVar 0) (eC (.int 1))) (aNil))) (aCons (eCall 2 m_values_of (aCons (eSl (eVar 0) (oSome (eC (.int 2))) (oNone)) (aCons (eC (.str "rule")) (aNil)))) (aNil)))))
noncomputable def m_shape_value (ds : List D) : M D := runB 1 b_shape_value ds
noncomputable abbrev N_rule_value : List Str := ["parts"]
noncomputable abbrev kk_rule_value : Nat := 3
noncomputable def b_rule_value : MS := sSeq (sIf (tOrD (tBl (eOp dLt (eArgs dLen (aCons (eVar 0) (aNil))) (eC (.int 4)))) (tBl (eOp (dIn true) (eOp dIx (eVar 0) (eC (.int 3))) (eC g_ORDERS)))) (sRaise "NoText" (aCons (eC (.str "a rule must have a name, a kind and an order")) (aNil))) (sSkip)) (sRet (eArgs dTup (aCons (eCall 1 m_name_of (aCons (eOp dIx (eVar 0) (eC (.int 1))) (aNil))) (aCons (eCall 1 m_name_of (aCons (eOp dIx (eVar 0) (eC (.int 2))) (aNil))) (aCons (eOp dIx (eVar 0) (eC (.int 3))) (aCons (eCall 2 m_values_of (aCons (eSl (eVar 0) (oSome (eC (.int 4))) (oNone)) (aCons (eC (.str "item")) (aNil)))) (aNil)))))))
noncomputable def m_rule_value (ds : List D) : M D := runB 1 b_rule_value ds
noncomputable abbrev N_item_value : List Str := ["parts", "low"]
noncomputable abbrev kk_item_value : Nat := 3
noncomputable def b_item_value : MS := sSeq (sIf (tBl (eOp (dEq true) (eArgs dLen (aCons (eVar 0) (aNil))) (eC (.int 3)))) (sRaise "NoText" (aCons (eC (.str "an item must have a name, a low and a high")) (aNil))) (sSkip)) (sSeq (sSet 1 (eCall 1 m_count_of (aCons (eOp dIx (eVar 0) (eC (.int 1))) (aNil)))) (sRet (eArgs dTup (aCons (eCall 1 m_name_of (aCons (eOp dIx (eVar 0) (eC (.int 0))) (aNil))) (aCons (eVar 1) (aCons (eCall 2 m_high_of (aCons (eOp dIx (eVar 0) (eC (.int 2))) (aCons (eVar 1) (aNil)))) (aNil)))))))
noncomputable def m_item_value (ds : List D) : M D := runB 2 b_item_value ds
noncomputable abbrev N_way_value : List Str := ["parts"]
noncomputable abbrev kk_way_value : Nat := 3
noncomputable def b_way_value : MS := sSeq (sIf (tBl (eOp dLt (eArgs dLen (aCons (eVar 0) (aNil))) (eC (.int 2)))) (sRaise "NoText" (aCons (eC (.str "a way must have a step")) (aNil))) (sSkip)) (sRet (eCall 2 m_values_of (aCons (eSl (eVar 0) (oSome (eC (.int 1))) (oNone)) (aCons (eC (.str "step")) (aNil)))))
noncomputable def m_way_value (ds : List D) : M D := runB 1 b_way_value ds
noncomputable abbrev N_look_value : List Str := ["parts"]
noncomputable abbrev kk_look_value : Nat := 3
noncomputable def b_look_value : MS := sSeq (sIf (tAndD (tBl (eOp (dEq false) (eArgs dLen (aCons (eVar 0) (aNil))) (eC (.int 2)))) (tBl (eOp (dEq false) (eOp dIx (eVar 0) (eC (.int 0))) (eC (.str "kind"))))) (sRet (eArgs dTup (aCons (eC (.str "kind")) (aCons (eCall 1 m_name_of (aCons (eOp dIx (eVar 0) (eC (.int 1))) (aNil))) (aNil))))) (sSkip)) (sSeq (sIf (tAndD (tBl (eOp (dEq false) (eArgs dLen (aCons (eVar 0) (aNil))) (eC (.int 2)))) (tBl (eOp (dEq false) (eOp dIx (eVar 0) (eC (.int 0))) (eC (.str "not"))))) (sRet (eArgs dTup (aCons (eC (.str "not")) (aCons (eCall 1 m_look_of (aCons (eOp dIx (eVar 0) (eC (.int 1))) (aNil))) (aNil))))) (sSkip)) (sSeq (sIf (tAndD (tBl (eOp (dEq false) (eArgs dLen (aCons (eVar 0) (aNil))) (eC (.int 3)))) (tBl (eOp (dIn false) (eOp dIx (eVar 0) (eC (.int 0))) (eArgs dTup (aCons (eC (.str "both")) (aCons (eC (.str "either")) (aNil))))))) (sRet (eArgs dTup (aCons (eOp dIx (eVar 0) (eC (.int 0))) (aCons (eCall 1 m_look_of (aCons (eOp dIx (eVar 0) (eC (.int 1))) (aNil))) (aCons (eCall 1 m_look_of (aCons (eOp dIx (eVar 0) (eC (.int 2))) (aNil))) (aNil)))))) (sSkip)) (sRaise "NoText" (aCons (eC (.str "no step, look or way stands in these brackets")) (aNil)))))
noncomputable def m_look_value (ds : List D) : M D := runB 1 b_look_value ds
noncomputable abbrev N_make_in_shape : List Str := ["parts"]
noncomputable def b_make_in_shape : MS := sSeq (sIf (tBl (eOp (dEq false) (eSl (eVar 0) (oNone) (oSome (eC (.int 1)))) (eArgs dNew (aCons (eC (.str "start")) (aNil))))) (sRet (eArgs dTup (aCons (eC (.str "shape")) (aCons (eCall 1 m_shape_value (aCons (eVar 0) (aNil))) (aNil))))) (sSkip)) (sSeq (sIf (tBl (eOp (dEq false) (eSl (eVar 0) (oNone) (oSome (eC (.int 1)))) (eArgs dNew (aCons (eC (.str "rule")) (aNil))))) (sRet (eArgs dTup (aCons (eC (.str "rule")) (aCons (eCall 1 m_rule_value (aCons (eVar 0) (aNil))) (aNil))))) (sSkip)) (sRet (eArgs dTup (aCons (eC (.str "item")) (aCons (eCall 1 m_item_value (aCons (eVar 0) (aNil))) (aNil))))))
noncomputable def m_make_in_shape (ds : List D) : M D := runB 1 b_make_in_shape ds
noncomputable abbrev N_make_in_way : List Str := ["parts"]
noncomputable def b_make_in_way : MS := sSeq (sIf (tBl (eOp (dEq false) (eSl (eVar 0) (oNone) (oSome (eC (.int 1)))) (eArgs dNew (aCons (eC (.str "way")) (aNil))))) (sRet (eArgs dTup (aCons (eC (.str "way")) (aCons (eCall 1 m_way_value (aCons (eVar 0) (aNil))) (aNil))))) (sSkip)) (sSeq (sIf (tAndD (tBl (eOp (dEq false) (eArgs dLen (aCons (eVar 0) (aNil))) (eC (.int 2)))) (tBl (eOp (dIn false) (eOp dIx (eVar 0) (eC (.int 0))) (eC g_GOES)))) (sRet (eArgs dTup (aCons (eC (.str "step")) (aCons (eArgs dTup (aCons (eOp dIx (eVar 0) (eC (.int 0))) (aCons (eCall 1 m_look_of (aCons (eOp dIx (eVar 0) (eC (.int 1))) (aNil))) (aNil)))) (aNil))))) (sSkip)) (sRet (eArgs dTup (aCons (eC (.str "look")) (aCons (eCall 1 m_look_value (aCons (eVar 0) (aNil))) (aNil))))))
noncomputable def m_make_in_way (ds : List D) : M D := runB 1 b_make_in_way ds
noncomputable abbrev N_read_bracket : List Str := ["text", "make", "unshut", "word", "parts"]
noncomputable abbrev kk_read_bracket : Nat := 5
noncomputable def I0_read_bracket : MS := sSeq (sSet 4 (eMethT "list" dPop (eVar 2) aNil)) (sSeq (sIf (tBl (eOp (dEq false) (eArgs dLen (aCons (eVar 2) (aNil))) (eC (.int 0)))) (sRaise "NoText" (aCons (eC (.str "a bracket is shut that was never begun")) (aNil))) (sSkip)) (sExpr (eMethT "list" dAppend (eOp dIx (eVar 2) (eNeg (eC (.int 1)))) (aCons (eCallV 1 1 (fun y => List.lookup y [("make_tree", m_make_tree), ("make_in_shape", m_make_in_shape), ("make_in_way", m_make_in_way)]) (aCons (eVar 4) (aNil))) (aNil)))))
noncomputable def L0_read_bracket : MS := sIf (tBl (eOp (dEq false) (eVar 3) (eC (.str "(")))) (sExpr (eMethT "list" dAppend (eVar 2) (aCons (eArgs dNew (aNil)) (aNil)))) (sIf (tBl (eOp (dEq false) (eVar 3) (eC (.str ")")))) (I0_read_bracket) (sExpr (eMethT "list" dAppend (eOp dIx (eVar 2) (eNeg (eC (.int 1)))) (aCons (eVar 3) (aNil)))))
noncomputable def T0_read_bracket : MS := sSeq (sIf (tBl (eOp dGt (eArgs dLen (aCons (eVar 2) (aNil))) (eC (.int 1)))) (sRaise "NoText" (aCons (eC (.str "a bracket is not shut")) (aNil))) (sSkip)) (sSeq (sIf (tBl (eOp (dEq true) (eArgs dLen (aCons (eOp dIx (eVar 2) (eC (.int 0))) (aNil))) (eC (.int 1)))) (sRaise "NoText" (aCons (eC (.str "a text must write one thing")) (aNil))) (sSkip)) (sRet (eOp dIx (eOp dIx (eVar 2) (eC (.int 0))) (eC (.int 0)))))
noncomputable def b_read_bracket : MS := sSeq (sSet 2 (eArgs dNew (aCons (eArgs dNew (aNil)) (aNil)))) (sSeq (sForIn (gN 3) (eCall 1 m_words_of (aCons (eVar 0) (aNil))) L0_read_bracket) (T0_read_bracket))
noncomputable def m_read_bracket (ds : List D) : M D := runB 5 b_read_bracket ds
noncomputable abbrev N_read_tree : List Str := ["text"]
noncomputable abbrev kk_read_tree : Nat := 6
noncomputable def b_read_tree : MS := sRet (eCall 2 m_value_of (aCons (eCall 2 m_read_bracket (aCons (eVar 0) (aCons (eC (.fn "make_tree")) (aNil)))) (aCons (eC (.str "tree")) (aNil))))
noncomputable def m_read_tree (ds : List D) : M D := runB 1 b_read_tree ds
noncomputable abbrev N_read_shape : List Str := ["text"]
noncomputable abbrev kk_read_shape : Nat := 6
noncomputable def b_read_shape : MS := sRet (eCall 2 m_value_of (aCons (eCall 2 m_read_bracket (aCons (eVar 0) (aCons (eC (.fn "make_in_shape")) (aNil)))) (aCons (eC (.str "shape")) (aNil))))
noncomputable def m_read_shape (ds : List D) : M D := runB 1 b_read_shape ds
noncomputable abbrev N_read_way : List Str := ["text"]
noncomputable abbrev kk_read_way : Nat := 6
noncomputable def b_read_way : MS := sRet (eCall 2 m_value_of (aCons (eCall 2 m_read_bracket (aCons (eVar 0) (aCons (eC (.fn "make_in_way")) (aNil)))) (aCons (eC (.str "way")) (aNil))))
noncomputable def m_read_way (ds : List D) : M D := runB 1 b_read_way ds
noncomputable abbrev N__law_read : List Str := ["_law_sort", "_law_text_here"]
noncomputable abbrev kk__law_read : Nat := 7
noncomputable def b__law_read : MS := sSeq (sIf (tBl (eOp (dEq false) (eVar 0) (eC (.int 0)))) (sRet (eCall 1 m_read_tree (aCons (eVar 1) (aNil)))) (sSkip)) (sSeq (sIf (tBl (eOp (dEq false) (eVar 0) (eC (.int 1)))) (sRet (eCall 1 m_read_shape (aCons (eVar 1) (aNil)))) (sSkip)) (sRet (eCall 1 m_read_way (aCons (eVar 1) (aNil)))))
noncomputable def m__law_read (ds : List D) : M D := runB 2 b__law_read ds
noncomputable abbrev N_law : List Str := ["_law_script", "_law_draws_here", "_law_taken", "_law_x", "_law_y", "_law_turn", "_law_draw", "_law_good_here", "_law_some", "_law_form", "_law_read_here"]
noncomputable def L0_law : MS := sSeq (sSet 6 (eOp dIx (eVar 1) (eOp dAdd (eC (.int 2)) (eVar 5)))) (sSeq (sSet 7 (eOp (dEq false) (eOp dMod (eVar 6) (eC (.int 5))) (eC (.int 4)))) (sSeq (sSet 8 (eOp dIx (eArgs dNew (aCons (eCall 0 m__law_bad_trees aNil) (aCons (eCall 0 m__law_bad_shapes aNil) (aCons (eCall 0 m__law_bad_ways aNil) (aNil))))) (eOp dMod (eOp dFdiv (eVar 6) (eC (.int 5))) (eC (.int 3))))) (sSeq (sSet 9 (eOp dIx (eVar 8) (eOp dMod (eOp dFdiv (eVar 6) (eC (.int 15))) (eArgs dLen (aCons (eVar 8) (aNil)))))) (sSeq (sIf (tTruth dTru (eVar 7)) (sSet 9 (eCall 1 m__law_good (aCons (eOp dFdiv (eVar 6) (eC (.int 5))) (aNil)))) (sSkip)) (sSeq (sSet 10 (eC (.bl false))) (sSeq (sTry (sSeq (sExpr (eCall 2 m__law_read (aCons (eOp dIx (eVar 9) (eC (.int 0))) (aCons (eCall 4 m__law_text (aCons (eOp dIx (eVar 9) (eC (.int 1))) (aCons (eVar 3) (aCons (eVar 4) (aCons (eOp dIx (eVar 2) (eOp dMod (eOp dIx (eVar 1) (eOp dAdd (eC (.int 8)) (eVar 5))) (eC (.int 12)))) (aNil)))))) (aNil))))) (sSet 10 (eC (.bl true)))) (hCons (fun n => List.lookup n [("NoText", true)]) (sSet 10 (eC (.bl false))) (hCons (fun n => List.lookup n [("NoText", true)]) (sRet (eC (.bl false))) (hNil))) (sSkip)) (sIf (tBl (eOp (dEq true) (eVar 10) (eVar 7))) (sRet (eC (.bl false))) (sSkip))))))))
noncomputable def b_law : MS := sSeq (sSet 1 (eCall 2 m__law_draws (aCons (eVar 0) (aCons (eC (.int 20)) (aNil))))) (sSeq (sSet 2 (eArgs dNew (aCons (eC (.str "start")) (aCons (eC (.str "rule")) (aCons (eC (.str "row")) (aCons (eC (.str "mix")) (aCons (eC (.str "many")) (aCons (eC (.str "any")) (aCons (eC (.str "kind")) (aCons (eC (.str "not")) (aCons (eC (.str "both")) (aCons (eC (.str "either")) (aCons (eC (.str "way")) (aCons (eC (.str "mark")) (aNil))))))))))))))) (sSeq (sSet 3 (eCall 1 m__law_name (aCons (eOp dIx (eVar 1) (eC (.int 0))) (aNil)))) (sSeq (sSet 4 (eCall 1 m__law_name (aCons (eOp dIx (eVar 1) (eC (.int 1))) (aNil)))) (sSeq (sForRng rng1 (gN 5) (aCons (eC (.int 6)) (aNil)) L0_law) (sRet (eC (.bl true)))))))
noncomputable def m_law (ds : List D) : M D := runB 11 b_law ds
structure Adr where
  f : Nat → Addr
  d : Nat → FuncData
  c : Nat → Addr
structure Txt (K : PySem.W.Frag) (mg : Str → Option Value) (t : Adr) : Prop where
  F_is_name : Fun K "is_name" "is_name" s_is_name (t.f 0) (t.d 0)
  B_is_name : Binds K (t.d 0) ["text"] []
  M_is_name : mg "is_name" = some (.ref (t.f 0))
  F_read_tree : Fun K "read_tree" "read_tree" s_read_tree (t.f 1) (t.d 1)
  B_read_tree : Binds K (t.d 1) ["text"] []
  M_read_tree : mg "read_tree" = some (.ref (t.f 1))
  F_read_shape : Fun K "read_shape" "read_shape" s_read_shape (t.f 2) (t.d 2)
  B_read_shape : Binds K (t.d 2) ["text"] []
  M_read_shape : mg "read_shape" = some (.ref (t.f 2))
  F_read_way : Fun K "read_way" "read_way" s_read_way (t.f 3) (t.d 3)
  B_read_way : Binds K (t.d 3) ["text"] []
  M_read_way : mg "read_way" = some (.ref (t.f 3))
  F_words_of : Fun K "words_of" "words_of" s_words_of (t.f 4) (t.d 4)
  B_words_of : Binds K (t.d 4) ["text"] []
  M_words_of : mg "words_of" = some (.ref (t.f 4))
  F_read_bracket : Fun K "read_bracket" "read_bracket" s_read_bracket (t.f 5) (t.d 5)
  B_read_bracket : Binds K (t.d 5) ["text", "make"] []
  M_read_bracket : mg "read_bracket" = some (.ref (t.f 5))
  F_value_of : Fun K "value_of" "value_of" s_value_of (t.f 6) (t.d 6)
  B_value_of : Binds K (t.d 6) ["part", "sort"] []
  M_value_of : mg "value_of" = some (.ref (t.f 6))
  F_values_of : Fun K "values_of" "values_of" s_values_of (t.f 7) (t.d 7)
  B_values_of : Binds K (t.d 7) ["parts", "sort"] []
  M_values_of : mg "values_of" = some (.ref (t.f 7))
  F_name_of : Fun K "name_of" "name_of" s_name_of (t.f 8) (t.d 8)
  B_name_of : Binds K (t.d 8) ["part"] []
  M_name_of : mg "name_of" = some (.ref (t.f 8))
  F_make_tree : Fun K "make_tree" "make_tree" s_make_tree (t.f 9) (t.d 9)
  B_make_tree : Binds K (t.d 9) ["parts"] []
  M_make_tree : mg "make_tree" = some (.ref (t.f 9))
  F_make_in_shape : Fun K "make_in_shape" "make_in_shape" s_make_in_shape (t.f 10) (t.d 10)
  B_make_in_shape : Binds K (t.d 10) ["parts"] []
  M_make_in_shape : mg "make_in_shape" = some (.ref (t.f 10))
  F_shape_value : Fun K "shape_value" "shape_value" s_shape_value (t.f 11) (t.d 11)
  B_shape_value : Binds K (t.d 11) ["parts"] []
  M_shape_value : mg "shape_value" = some (.ref (t.f 11))
  F_rule_value : Fun K "rule_value" "rule_value" s_rule_value (t.f 12) (t.d 12)
  B_rule_value : Binds K (t.d 12) ["parts"] []
  M_rule_value : mg "rule_value" = some (.ref (t.f 12))
  F_item_value : Fun K "item_value" "item_value" s_item_value (t.f 13) (t.d 13)
  B_item_value : Binds K (t.d 13) ["parts"] []
  M_item_value : mg "item_value" = some (.ref (t.f 13))
  F_count_of : Fun K "count_of" "count_of" s_count_of (t.f 14) (t.d 14)
  B_count_of : Binds K (t.d 14) ["part"] []
  M_count_of : mg "count_of" = some (.ref (t.f 14))
  F_high_of : Fun K "high_of" "high_of" s_high_of (t.f 15) (t.d 15)
  B_high_of : Binds K (t.d 15) ["part", "low"] []
  M_high_of : mg "high_of" = some (.ref (t.f 15))
  F_make_in_way : Fun K "make_in_way" "make_in_way" s_make_in_way (t.f 16) (t.d 16)
  B_make_in_way : Binds K (t.d 16) ["parts"] []
  M_make_in_way : mg "make_in_way" = some (.ref (t.f 16))
  F_way_value : Fun K "way_value" "way_value" s_way_value (t.f 17) (t.d 17)
  B_way_value : Binds K (t.d 17) ["parts"] []
  M_way_value : mg "way_value" = some (.ref (t.f 17))
  F_look_value : Fun K "look_value" "look_value" s_look_value (t.f 18) (t.d 18)
  B_look_value : Binds K (t.d 18) ["parts"] []
  M_look_value : mg "look_value" = some (.ref (t.f 18))
  F_look_of : Fun K "look_of" "look_of" s_look_of (t.f 19) (t.d 19)
  B_look_of : Binds K (t.d 19) ["part"] []
  M_look_of : mg "look_of" = some (.ref (t.f 19))
  F__law_draws : Fun K "_law_draws" "_law_draws" s__law_draws (t.f 20) (t.d 20)
  B__law_draws : Binds K (t.d 20) ["_law_script", "_law_many"] []
  M__law_draws : mg "_law_draws" = some (.ref (t.f 20))
  F__law_name : Fun K "_law_name" "_law_name" s__law_name (t.f 21) (t.d 21)
  B__law_name : Binds K (t.d 21) ["_law_draw"] []
  M__law_name : mg "_law_name" = some (.ref (t.f 21))
  F__law_good : Fun K "_law_good" "_law_good" s__law_good (t.f 22) (t.d 22)
  B__law_good : Binds K (t.d 22) ["_law_cell"] []
  M__law_good : mg "_law_good" = some (.ref (t.f 22))
  F__law_bad_trees : Fun K "_law_bad_trees" "_law_bad_trees" s__law_bad_trees (t.f 23) (t.d 23)
  B__law_bad_trees : Binds K (t.d 23) [] []
  M__law_bad_trees : mg "_law_bad_trees" = some (.ref (t.f 23))
  F__law_bad_shapes : Fun K "_law_bad_shapes" "_law_bad_shapes" s__law_bad_shapes (t.f 24) (t.d 24)
  B__law_bad_shapes : Binds K (t.d 24) [] []
  M__law_bad_shapes : mg "_law_bad_shapes" = some (.ref (t.f 24))
  F__law_bad_ways : Fun K "_law_bad_ways" "_law_bad_ways" s__law_bad_ways (t.f 25) (t.d 25)
  B__law_bad_ways : Binds K (t.d 25) [] []
  M__law_bad_ways : mg "_law_bad_ways" = some (.ref (t.f 25))
  F__law_text : Fun K "_law_text" "_law_text" s__law_text (t.f 26) (t.d 26)
  B__law_text : Binds K (t.d 26) ["_law_form", "_law_x", "_law_y", "_law_word"] []
  M__law_text : mg "_law_text" = some (.ref (t.f 26))
  F__law_read : Fun K "_law_read" "_law_read" s__law_read (t.f 27) (t.d 27)
  B__law_read : Binds K (t.d 27) ["_law_sort", "_law_text_here"] []
  M__law_read : mg "_law_read" = some (.ref (t.f 27))
  F_law : Fun K "law" "law" s_law (t.f 28) (t.d 28)
  B_law : Binds K (t.d 28) ["_law_script"] []
  M_law : mg "law" = some (.ref (t.f 28))
  N_all : mg "all" = none
  N_isinstance : mg "isinstance" = none
  N_len : mg "len" = none
  N_max : mg "max" = none
  N_range : mg "range" = none
  N_str : mg "str" = none
  N_tuple : mg "tuple" = none
  G_COUNTS : GlobD K mg "COUNTS" g_COUNTS
  G_GOES : GlobD K mg "GOES" g_GOES
  G_KEPT_WORDS : GlobD K mg "KEPT_WORDS" g_KEPT_WORDS
  G_LETTERS : GlobD K mg "LETTERS" g_LETTERS
  G_LONGEST : GlobD K mg "LONGEST" g_LONGEST
  G_ORDERS : GlobD K mg "ORDERS" g_ORDERS
  K_COUNTS : GlobT K mg "COUNTS"
  M_NoText : mg "NoText" = some (.ref (t.c 0))
  E_NoText : PySem.W.excIn K (t.c 0) bmVE "ValueError.__new__" = true
  M_PathError : mg "PathError" = some (.ref (t.c 1))
  E_PathError : PySem.W.excIn K (t.c 1) bmVE "ValueError.__new__" = true
  X_NoText_NoText : PySem.W.exmOne K (.ref (t.c 0)) (.ref (t.c 0)) = some true
  X_NoText_PathError : PySem.W.exmOne K (.ref (t.c 0)) (.ref (t.c 1)) = some true
theorem dn_COUNTS : (("COUNTS" : Str) == ("__debug__" : Str)) = false ∧ (("COUNTS" : Str) == ("__classdict__" : Str)) = false := by decide +kernel
theorem dn_GOES : (("GOES" : Str) == ("__debug__" : Str)) = false ∧ (("GOES" : Str) == ("__classdict__" : Str)) = false := by decide +kernel
theorem dn_KEPT_WORDS : (("KEPT_WORDS" : Str) == ("__debug__" : Str)) = false ∧ (("KEPT_WORDS" : Str) == ("__classdict__" : Str)) = false := by decide +kernel
theorem dn_LETTERS : (("LETTERS" : Str) == ("__debug__" : Str)) = false ∧ (("LETTERS" : Str) == ("__classdict__" : Str)) = false := by decide +kernel
theorem dn_LONGEST : (("LONGEST" : Str) == ("__debug__" : Str)) = false ∧ (("LONGEST" : Str) == ("__classdict__" : Str)) = false := by decide +kernel
theorem dn_NoText : (("NoText" : Str) == ("__debug__" : Str)) = false ∧ (("NoText" : Str) == ("__classdict__" : Str)) = false := by decide +kernel
theorem dn_ORDERS : (("ORDERS" : Str) == ("__debug__" : Str)) = false ∧ (("ORDERS" : Str) == ("__classdict__" : Str)) = false := by decide +kernel
theorem dn_PathError : (("PathError" : Str) == ("__debug__" : Str)) = false ∧ (("PathError" : Str) == ("__classdict__" : Str)) = false := by decide +kernel
theorem dn__law_at : (("_law_at" : Str) == ("__debug__" : Str)) = false ∧ (("_law_at" : Str) == ("__classdict__" : Str)) = false := by decide +kernel
theorem dn__law_bad_shapes : (("_law_bad_shapes" : Str) == ("__debug__" : Str)) = false ∧ (("_law_bad_shapes" : Str) == ("__classdict__" : Str)) = false := by decide +kernel
theorem dn__law_bad_trees : (("_law_bad_trees" : Str) == ("__debug__" : Str)) = false ∧ (("_law_bad_trees" : Str) == ("__classdict__" : Str)) = false := by decide +kernel
theorem dn__law_bad_ways : (("_law_bad_ways" : Str) == ("__debug__" : Str)) = false ∧ (("_law_bad_ways" : Str) == ("__classdict__" : Str)) = false := by decide +kernel
theorem dn__law_cell : (("_law_cell" : Str) == ("__debug__" : Str)) = false ∧ (("_law_cell" : Str) == ("__classdict__" : Str)) = false := by decide +kernel
theorem dn__law_draw : (("_law_draw" : Str) == ("__debug__" : Str)) = false ∧ (("_law_draw" : Str) == ("__classdict__" : Str)) = false := by decide +kernel
theorem dn__law_draws : (("_law_draws" : Str) == ("__debug__" : Str)) = false ∧ (("_law_draws" : Str) == ("__classdict__" : Str)) = false := by decide +kernel
theorem dn__law_draws_here : (("_law_draws_here" : Str) == ("__debug__" : Str)) = false ∧ (("_law_draws_here" : Str) == ("__classdict__" : Str)) = false := by decide +kernel
theorem dn__law_form : (("_law_form" : Str) == ("__debug__" : Str)) = false ∧ (("_law_form" : Str) == ("__classdict__" : Str)) = false := by decide +kernel
theorem dn__law_found : (("_law_found" : Str) == ("__debug__" : Str)) = false ∧ (("_law_found" : Str) == ("__classdict__" : Str)) = false := by decide +kernel
theorem dn__law_good : (("_law_good" : Str) == ("__debug__" : Str)) = false ∧ (("_law_good" : Str) == ("__classdict__" : Str)) = false := by decide +kernel
theorem dn__law_good_here : (("_law_good_here" : Str) == ("__debug__" : Str)) = false ∧ (("_law_good_here" : Str) == ("__classdict__" : Str)) = false := by decide +kernel
theorem dn__law_k : (("_law_k" : Str) == ("__debug__" : Str)) = false ∧ (("_law_k" : Str) == ("__classdict__" : Str)) = false := by decide +kernel
theorem dn__law_letters : (("_law_letters" : Str) == ("__debug__" : Str)) = false ∧ (("_law_letters" : Str) == ("__classdict__" : Str)) = false := by decide +kernel
theorem dn__law_many : (("_law_many" : Str) == ("__debug__" : Str)) = false ∧ (("_law_many" : Str) == ("__classdict__" : Str)) = false := by decide +kernel
theorem dn__law_name : (("_law_name" : Str) == ("__debug__" : Str)) = false ∧ (("_law_name" : Str) == ("__classdict__" : Str)) = false := by decide +kernel
theorem dn__law_name_here : (("_law_name_here" : Str) == ("__debug__" : Str)) = false ∧ (("_law_name_here" : Str) == ("__classdict__" : Str)) = false := by decide +kernel
theorem dn__law_one : (("_law_one" : Str) == ("__debug__" : Str)) = false ∧ (("_law_one" : Str) == ("__classdict__" : Str)) = false := by decide +kernel
theorem dn__law_read : (("_law_read" : Str) == ("__debug__" : Str)) = false ∧ (("_law_read" : Str) == ("__classdict__" : Str)) = false := by decide +kernel
theorem dn__law_read_here : (("_law_read_here" : Str) == ("__debug__" : Str)) = false ∧ (("_law_read_here" : Str) == ("__classdict__" : Str)) = false := by decide +kernel
theorem dn__law_script : (("_law_script" : Str) == ("__debug__" : Str)) = false ∧ (("_law_script" : Str) == ("__classdict__" : Str)) = false := by decide +kernel
theorem dn__law_some : (("_law_some" : Str) == ("__debug__" : Str)) = false ∧ (("_law_some" : Str) == ("__classdict__" : Str)) = false := by decide +kernel
theorem dn__law_sort : (("_law_sort" : Str) == ("__debug__" : Str)) = false ∧ (("_law_sort" : Str) == ("__classdict__" : Str)) = false := by decide +kernel
theorem dn__law_taken : (("_law_taken" : Str) == ("__debug__" : Str)) = false ∧ (("_law_taken" : Str) == ("__classdict__" : Str)) = false := by decide +kernel
theorem dn__law_text : (("_law_text" : Str) == ("__debug__" : Str)) = false ∧ (("_law_text" : Str) == ("__classdict__" : Str)) = false := by decide +kernel
theorem dn__law_text_here : (("_law_text_here" : Str) == ("__debug__" : Str)) = false ∧ (("_law_text_here" : Str) == ("__classdict__" : Str)) = false := by decide +kernel
theorem dn__law_turn : (("_law_turn" : Str) == ("__debug__" : Str)) = false ∧ (("_law_turn" : Str) == ("__classdict__" : Str)) = false := by decide +kernel
theorem dn__law_word : (("_law_word" : Str) == ("__debug__" : Str)) = false ∧ (("_law_word" : Str) == ("__classdict__" : Str)) = false := by decide +kernel
theorem dn__law_x : (("_law_x" : Str) == ("__debug__" : Str)) = false ∧ (("_law_x" : Str) == ("__classdict__" : Str)) = false := by decide +kernel
theorem dn__law_y : (("_law_y" : Str) == ("__debug__" : Str)) = false ∧ (("_law_y" : Str) == ("__classdict__" : Str)) = false := by decide +kernel
theorem dn_count_of : (("count_of" : Str) == ("__debug__" : Str)) = false ∧ (("count_of" : Str) == ("__classdict__" : Str)) = false := by decide +kernel
theorem dn_high : (("high" : Str) == ("__debug__" : Str)) = false ∧ (("high" : Str) == ("__classdict__" : Str)) = false := by decide +kernel
theorem dn_high_of : (("high_of" : Str) == ("__debug__" : Str)) = false ∧ (("high_of" : Str) == ("__classdict__" : Str)) = false := by decide +kernel
theorem dn_is_name : (("is_name" : Str) == ("__debug__" : Str)) = false ∧ (("is_name" : Str) == ("__classdict__" : Str)) = false := by decide +kernel
theorem dn_item_value : (("item_value" : Str) == ("__debug__" : Str)) = false ∧ (("item_value" : Str) == ("__classdict__" : Str)) = false := by decide +kernel
theorem dn_look_of : (("look_of" : Str) == ("__debug__" : Str)) = false ∧ (("look_of" : Str) == ("__classdict__" : Str)) = false := by decide +kernel
theorem dn_look_value : (("look_value" : Str) == ("__debug__" : Str)) = false ∧ (("look_value" : Str) == ("__classdict__" : Str)) = false := by decide +kernel
theorem dn_low : (("low" : Str) == ("__debug__" : Str)) = false ∧ (("low" : Str) == ("__classdict__" : Str)) = false := by decide +kernel
theorem dn_make : (("make" : Str) == ("__debug__" : Str)) = false ∧ (("make" : Str) == ("__classdict__" : Str)) = false := by decide +kernel
theorem dn_make_in_shape : (("make_in_shape" : Str) == ("__debug__" : Str)) = false ∧ (("make_in_shape" : Str) == ("__classdict__" : Str)) = false := by decide +kernel
theorem dn_make_in_way : (("make_in_way" : Str) == ("__debug__" : Str)) = false ∧ (("make_in_way" : Str) == ("__classdict__" : Str)) = false := by decide +kernel
theorem dn_make_tree : (("make_tree" : Str) == ("__debug__" : Str)) = false ∧ (("make_tree" : Str) == ("__classdict__" : Str)) = false := by decide +kernel
theorem dn_name_of : (("name_of" : Str) == ("__debug__" : Str)) = false ∧ (("name_of" : Str) == ("__classdict__" : Str)) = false := by decide +kernel
theorem dn_part : (("part" : Str) == ("__debug__" : Str)) = false ∧ (("part" : Str) == ("__classdict__" : Str)) = false := by decide +kernel
theorem dn_parts : (("parts" : Str) == ("__debug__" : Str)) = false ∧ (("parts" : Str) == ("__classdict__" : Str)) = false := by decide +kernel
theorem dn_read_bracket : (("read_bracket" : Str) == ("__debug__" : Str)) = false ∧ (("read_bracket" : Str) == ("__classdict__" : Str)) = false := by decide +kernel
theorem dn_read_shape : (("read_shape" : Str) == ("__debug__" : Str)) = false ∧ (("read_shape" : Str) == ("__classdict__" : Str)) = false := by decide +kernel
theorem dn_read_tree : (("read_tree" : Str) == ("__debug__" : Str)) = false ∧ (("read_tree" : Str) == ("__classdict__" : Str)) = false := by decide +kernel
theorem dn_read_way : (("read_way" : Str) == ("__debug__" : Str)) = false ∧ (("read_way" : Str) == ("__classdict__" : Str)) = false := by decide +kernel
theorem dn_rule_value : (("rule_value" : Str) == ("__debug__" : Str)) = false ∧ (("rule_value" : Str) == ("__classdict__" : Str)) = false := by decide +kernel
theorem dn_shape_value : (("shape_value" : Str) == ("__debug__" : Str)) = false ∧ (("shape_value" : Str) == ("__classdict__" : Str)) = false := by decide +kernel
theorem dn_sign : (("sign" : Str) == ("__debug__" : Str)) = false ∧ (("sign" : Str) == ("__classdict__" : Str)) = false := by decide +kernel
theorem dn_sort : (("sort" : Str) == ("__debug__" : Str)) = false ∧ (("sort" : Str) == ("__classdict__" : Str)) = false := by decide +kernel
theorem dn_spaced : (("spaced" : Str) == ("__debug__" : Str)) = false ∧ (("spaced" : Str) == ("__classdict__" : Str)) = false := by decide +kernel
theorem dn_str : (("str" : Str) == ("__debug__" : Str)) = false ∧ (("str" : Str) == ("__classdict__" : Str)) = false := by decide +kernel
theorem dn_text : (("text" : Str) == ("__debug__" : Str)) = false ∧ (("text" : Str) == ("__classdict__" : Str)) = false := by decide +kernel
theorem dn_tuple : (("tuple" : Str) == ("__debug__" : Str)) = false ∧ (("tuple" : Str) == ("__classdict__" : Str)) = false := by decide +kernel
theorem dn_unshut : (("unshut" : Str) == ("__debug__" : Str)) = false ∧ (("unshut" : Str) == ("__classdict__" : Str)) = false := by decide +kernel
theorem dn_value_of : (("value_of" : Str) == ("__debug__" : Str)) = false ∧ (("value_of" : Str) == ("__classdict__" : Str)) = false := by decide +kernel
theorem dn_values_of : (("values_of" : Str) == ("__debug__" : Str)) = false ∧ (("values_of" : Str) == ("__classdict__" : Str)) = false := by decide +kernel
theorem dn_way_value : (("way_value" : Str) == ("__debug__" : Str)) = false ∧ (("way_value" : Str) == ("__classdict__" : Str)) = false := by decide +kernel
theorem dn_word : (("word" : Str) == ("__debug__" : Str)) = false ∧ (("word" : Str) == ("__classdict__" : Str)) = false := by decide +kernel
theorem dn_words_of : (("words_of" : Str) == ("__debug__" : Str)) = false ∧ (("words_of" : Str) == ("__classdict__" : Str)) = false := by decide +kernel
theorem bt_str : bootBuiltins "str" = some (.type (Ty.nm .str)) := by decide +kernel
theorem nn_str : ("str" : Str) ≠ "__name__" := by decide +kernel
theorem bt_tuple : bootBuiltins "tuple" = some (.type (Ty.nm .tup)) := by decide +kernel
theorem nn_tuple : ("tuple" : Str) ≠ "__name__" := by decide +kernel
noncomputable def cs_is_name_0 : Scope := {
                          kind := PySem.ScopeKind.function,
                          names := [
                            (PySem.Str.ofString ".0", PySem.NameKind.local),
                            (PySem.Str.ofString "sign", PySem.NameKind.local),
                            (PySem.Str.ofString "LETTERS", PySem.NameKind.globalImplicit)],
                          isGenerator := false,
                          isCoroutine := false,
                          more := [] : PySem.Scope }
theorem S_cs_is_name_0 : CompSc (defScope s_is_name) N_is_name cs_is_name_0 ["sign"] [] := ⟨by decide +kernel, rfl, by decide +kernel, by decide +kernel, by decide +kernel, by decide +kernel, by decide +kernel⟩
noncomputable def cs_words_of_0 : Scope := {
                      kind := PySem.ScopeKind.function,
                      names := [(PySem.Str.ofString ".0", PySem.NameKind.local), (PySem.Str.ofString "word", PySem.NameKind.local)],
                      isGenerator := false,
                      isCoroutine := false,
                      more := [] : PySem.Scope }
theorem S_cs_words_of_0 : CompSc (defScope s_words_of) N_words_of cs_words_of_0 ["word"] [] := ⟨by decide +kernel, rfl, by decide +kernel, by decide +kernel, by decide +kernel, by decide +kernel, by decide +kernel⟩
noncomputable def cs_values_of_0 : Scope := {
                          kind := PySem.ScopeKind.function,
                          names := [
                            (PySem.Str.ofString ".0", PySem.NameKind.local),
                            (PySem.Str.ofString "part", PySem.NameKind.local),
                            (PySem.Str.ofString "value_of", PySem.NameKind.globalImplicit),
                            (PySem.Str.ofString "sort", PySem.NameKind.free)],
                          isGenerator := false,
                          isCoroutine := false,
                          more := [] : PySem.Scope }
theorem S_cs_values_of_0 : CompSc (defScope s_values_of) N_values_of cs_values_of_0 ["part"] [false, true] := ⟨by decide +kernel, rfl, by decide +kernel, by decide +kernel, by decide +kernel, by decide +kernel, by decide +kernel⟩
noncomputable def cs__law_bad_trees_0 : Scope := {
                      kind := PySem.ScopeKind.function,
                      names := [(PySem.Str.ofString ".0", PySem.NameKind.local), (PySem.Str.ofString "_law_text_here", PySem.NameKind.local)],
                      isGenerator := false,
                      isCoroutine := false,
                      more := [] : PySem.Scope }
theorem S_cs__law_bad_trees_0 : CompSc (defScope s__law_bad_trees) N__law_bad_trees cs__law_bad_trees_0 ["_law_text_here"] [] := ⟨by decide +kernel, rfl, by decide +kernel, by decide +kernel, by decide +kernel, by decide +kernel, by decide +kernel⟩
noncomputable def cs__law_bad_shapes_0 : Scope := {
                      kind := PySem.ScopeKind.function,
                      names := [(PySem.Str.ofString ".0", PySem.NameKind.local), (PySem.Str.ofString "_law_text_here", PySem.NameKind.local)],
                      isGenerator := false,
                      isCoroutine := false,
                      more := [] : PySem.Scope }
theorem S_cs__law_bad_shapes_0 : CompSc (defScope s__law_bad_shapes) N__law_bad_shapes cs__law_bad_shapes_0 ["_law_text_here"] [] := ⟨by decide +kernel, rfl, by decide +kernel, by decide +kernel, by decide +kernel, by decide +kernel, by decide +kernel⟩
noncomputable def cs__law_bad_ways_0 : Scope := {
                      kind := PySem.ScopeKind.function,
                      names := [(PySem.Str.ofString ".0", PySem.NameKind.local), (PySem.Str.ofString "_law_text_here", PySem.NameKind.local)],
                      isGenerator := false,
                      isCoroutine := false,
                      more := [] : PySem.Scope }
theorem S_cs__law_bad_ways_0 : CompSc (defScope s__law_bad_ways) N__law_bad_ways cs__law_bad_ways_0 ["_law_text_here"] [] := ⟨by decide +kernel, rfl, by decide +kernel, by decide +kernel, by decide +kernel, by decide +kernel, by decide +kernel⟩
theorem lk__law_bad_shapes__law_some : (defScope s__law_bad_shapes).names.lookup ("_law_some" : Str) = some .local := by decide +kernel
theorem lk__law_bad_trees__law_some : (defScope s__law_bad_trees).names.lookup ("_law_some" : Str) = some .local := by decide +kernel
theorem lk__law_bad_ways__law_some : (defScope s__law_bad_ways).names.lookup ("_law_some" : Str) = some .local := by decide +kernel
theorem lk__law_draws__law_cell : (defScope s__law_draws).names.lookup ("_law_cell" : Str) = some .local := by decide +kernel
theorem lk__law_draws__law_found : (defScope s__law_draws).names.lookup ("_law_found" : Str) = some .local := by decide +kernel
theorem lk__law_draws__law_k : (defScope s__law_draws).names.lookup ("_law_k" : Str) = some .local := by decide +kernel
theorem lk__law_draws__law_many : (defScope s__law_draws).names.lookup ("_law_many" : Str) = some .local := by decide +kernel
theorem lk__law_draws__law_script : (defScope s__law_draws).names.lookup ("_law_script" : Str) = some .local := by decide +kernel
theorem lk__law_draws_len : (defScope s__law_draws).names.lookup ("len" : Str) = some .globalImplicit := by decide +kernel
theorem lk__law_draws_max : (defScope s__law_draws).names.lookup ("max" : Str) = some .globalImplicit := by decide +kernel
theorem lk__law_draws_range : (defScope s__law_draws).names.lookup ("range" : Str) = some .globalImplicit := by decide +kernel
theorem lk__law_good__law_cell : (defScope s__law_good).names.lookup ("_law_cell" : Str) = some .local := by decide +kernel
theorem lk__law_good__law_some : (defScope s__law_good).names.lookup ("_law_some" : Str) = some .local := by decide +kernel
theorem lk__law_good_len : (defScope s__law_good).names.lookup ("len" : Str) = some .globalImplicit := by decide +kernel
theorem lk__law_name__law_at : (defScope s__law_name).names.lookup ("_law_at" : Str) = some .local := by decide +kernel
theorem lk__law_name__law_draw : (defScope s__law_name).names.lookup ("_law_draw" : Str) = some .local := by decide +kernel
theorem lk__law_name__law_k : (defScope s__law_name).names.lookup ("_law_k" : Str) = some .local := by decide +kernel
theorem lk__law_name__law_letters : (defScope s__law_name).names.lookup ("_law_letters" : Str) = some .local := by decide +kernel
theorem lk__law_name__law_name_here : (defScope s__law_name).names.lookup ("_law_name_here" : Str) = some .local := by decide +kernel
theorem lk__law_name__law_taken : (defScope s__law_name).names.lookup ("_law_taken" : Str) = some .local := by decide +kernel
theorem lk__law_name_range : (defScope s__law_name).names.lookup ("range" : Str) = some .globalImplicit := by decide +kernel
theorem lk__law_read__law_sort : (defScope s__law_read).names.lookup ("_law_sort" : Str) = some .local := by decide +kernel
theorem lk__law_read__law_text_here : (defScope s__law_read).names.lookup ("_law_text_here" : Str) = some .local := by decide +kernel
theorem lk__law_read_read_shape : (defScope s__law_read).names.lookup ("read_shape" : Str) = some .globalImplicit := by decide +kernel
theorem lk__law_read_read_tree : (defScope s__law_read).names.lookup ("read_tree" : Str) = some .globalImplicit := by decide +kernel
theorem lk__law_read_read_way : (defScope s__law_read).names.lookup ("read_way" : Str) = some .globalImplicit := by decide +kernel
theorem lk__law_text__law_form : (defScope s__law_text).names.lookup ("_law_form" : Str) = some .local := by decide +kernel
theorem lk__law_text__law_found : (defScope s__law_text).names.lookup ("_law_found" : Str) = some .local := by decide +kernel
theorem lk__law_text__law_one : (defScope s__law_text).names.lookup ("_law_one" : Str) = some .local := by decide +kernel
theorem lk__law_text__law_word : (defScope s__law_text).names.lookup ("_law_word" : Str) = some .local := by decide +kernel
theorem lk__law_text__law_x : (defScope s__law_text).names.lookup ("_law_x" : Str) = some .local := by decide +kernel
theorem lk__law_text__law_y : (defScope s__law_text).names.lookup ("_law_y" : Str) = some .local := by decide +kernel
theorem lk_count_of_COUNTS : (defScope s_count_of).names.lookup ("COUNTS" : Str) = some .globalImplicit := by decide +kernel
theorem lk_count_of_NoText : (defScope s_count_of).names.lookup ("NoText" : Str) = some .globalImplicit := by decide +kernel
theorem lk_count_of_part : (defScope s_count_of).names.lookup ("part" : Str) = some .local := by decide +kernel
theorem lk_cs_is_name_0_LETTERS : (cs_is_name_0).names.lookup ("LETTERS" : Str) = some .globalImplicit := by decide +kernel
theorem lk_cs_values_of_0_sort : (cs_values_of_0).names.lookup ("sort" : Str) = some .free := by decide +kernel
theorem lk_cs_values_of_0_value_of : (cs_values_of_0).names.lookup ("value_of" : Str) = some .globalImplicit := by decide +kernel
theorem lk_high_of_NoText : (defScope s_high_of).names.lookup ("NoText" : Str) = some .globalImplicit := by decide +kernel
theorem lk_high_of_count_of : (defScope s_high_of).names.lookup ("count_of" : Str) = some .globalImplicit := by decide +kernel
theorem lk_high_of_high : (defScope s_high_of).names.lookup ("high" : Str) = some .local := by decide +kernel
theorem lk_high_of_low : (defScope s_high_of).names.lookup ("low" : Str) = some .local := by decide +kernel
theorem lk_high_of_part : (defScope s_high_of).names.lookup ("part" : Str) = some .local := by decide +kernel
theorem lk_is_name_KEPT_WORDS : (defScope s_is_name).names.lookup ("KEPT_WORDS" : Str) = some .globalImplicit := by decide +kernel
theorem lk_is_name_LONGEST : (defScope s_is_name).names.lookup ("LONGEST" : Str) = some .globalImplicit := by decide +kernel
theorem lk_is_name_all : (defScope s_is_name).names.lookup ("all" : Str) = some .globalImplicit := by decide +kernel
theorem lk_is_name_isinstance : (defScope s_is_name).names.lookup ("isinstance" : Str) = some .globalImplicit := by decide +kernel
theorem lk_is_name_len : (defScope s_is_name).names.lookup ("len" : Str) = some .globalImplicit := by decide +kernel
theorem lk_is_name_str : (defScope s_is_name).names.lookup ("str" : Str) = some .globalImplicit := by decide +kernel
theorem lk_is_name_text : (defScope s_is_name).names.lookup ("text" : Str) = some .local := by decide +kernel
theorem lk_item_value_NoText : (defScope s_item_value).names.lookup ("NoText" : Str) = some .globalImplicit := by decide +kernel
theorem lk_item_value_count_of : (defScope s_item_value).names.lookup ("count_of" : Str) = some .globalImplicit := by decide +kernel
theorem lk_item_value_high_of : (defScope s_item_value).names.lookup ("high_of" : Str) = some .globalImplicit := by decide +kernel
theorem lk_item_value_len : (defScope s_item_value).names.lookup ("len" : Str) = some .globalImplicit := by decide +kernel
theorem lk_item_value_low : (defScope s_item_value).names.lookup ("low" : Str) = some .local := by decide +kernel
theorem lk_item_value_name_of : (defScope s_item_value).names.lookup ("name_of" : Str) = some .globalImplicit := by decide +kernel
theorem lk_item_value_parts : (defScope s_item_value).names.lookup ("parts" : Str) = some .local := by decide +kernel
theorem lk_law_NoText : (defScope s_law).names.lookup ("NoText" : Str) = some .globalImplicit := by decide +kernel
theorem lk_law_PathError : (defScope s_law).names.lookup ("PathError" : Str) = some .globalImplicit := by decide +kernel
theorem lk_law__law_bad_shapes : (defScope s_law).names.lookup ("_law_bad_shapes" : Str) = some .globalImplicit := by decide +kernel
theorem lk_law__law_bad_trees : (defScope s_law).names.lookup ("_law_bad_trees" : Str) = some .globalImplicit := by decide +kernel
theorem lk_law__law_bad_ways : (defScope s_law).names.lookup ("_law_bad_ways" : Str) = some .globalImplicit := by decide +kernel
theorem lk_law__law_draw : (defScope s_law).names.lookup ("_law_draw" : Str) = some .local := by decide +kernel
theorem lk_law__law_draws : (defScope s_law).names.lookup ("_law_draws" : Str) = some .globalImplicit := by decide +kernel
theorem lk_law__law_draws_here : (defScope s_law).names.lookup ("_law_draws_here" : Str) = some .local := by decide +kernel
theorem lk_law__law_form : (defScope s_law).names.lookup ("_law_form" : Str) = some .local := by decide +kernel
theorem lk_law__law_good : (defScope s_law).names.lookup ("_law_good" : Str) = some .globalImplicit := by decide +kernel
theorem lk_law__law_good_here : (defScope s_law).names.lookup ("_law_good_here" : Str) = some .local := by decide +kernel
theorem lk_law__law_name : (defScope s_law).names.lookup ("_law_name" : Str) = some .globalImplicit := by decide +kernel
theorem lk_law__law_read : (defScope s_law).names.lookup ("_law_read" : Str) = some .globalImplicit := by decide +kernel
theorem lk_law__law_read_here : (defScope s_law).names.lookup ("_law_read_here" : Str) = some .local := by decide +kernel
theorem lk_law__law_script : (defScope s_law).names.lookup ("_law_script" : Str) = some .local := by decide +kernel
theorem lk_law__law_some : (defScope s_law).names.lookup ("_law_some" : Str) = some .local := by decide +kernel
theorem lk_law__law_taken : (defScope s_law).names.lookup ("_law_taken" : Str) = some .local := by decide +kernel
theorem lk_law__law_text : (defScope s_law).names.lookup ("_law_text" : Str) = some .globalImplicit := by decide +kernel
theorem lk_law__law_turn : (defScope s_law).names.lookup ("_law_turn" : Str) = some .local := by decide +kernel
theorem lk_law__law_x : (defScope s_law).names.lookup ("_law_x" : Str) = some .local := by decide +kernel
theorem lk_law__law_y : (defScope s_law).names.lookup ("_law_y" : Str) = some .local := by decide +kernel
theorem lk_law_len : (defScope s_law).names.lookup ("len" : Str) = some .globalImplicit := by decide +kernel
theorem lk_law_range : (defScope s_law).names.lookup ("range" : Str) = some .globalImplicit := by decide +kernel
theorem lk_look_of_isinstance : (defScope s_look_of).names.lookup ("isinstance" : Str) = some .globalImplicit := by decide +kernel
theorem lk_look_of_part : (defScope s_look_of).names.lookup ("part" : Str) = some .local := by decide +kernel
theorem lk_look_of_tuple : (defScope s_look_of).names.lookup ("tuple" : Str) = some .globalImplicit := by decide +kernel
theorem lk_look_of_value_of : (defScope s_look_of).names.lookup ("value_of" : Str) = some .globalImplicit := by decide +kernel
theorem lk_look_value_NoText : (defScope s_look_value).names.lookup ("NoText" : Str) = some .globalImplicit := by decide +kernel
theorem lk_look_value_len : (defScope s_look_value).names.lookup ("len" : Str) = some .globalImplicit := by decide +kernel
theorem lk_look_value_look_of : (defScope s_look_value).names.lookup ("look_of" : Str) = some .globalImplicit := by decide +kernel
theorem lk_look_value_name_of : (defScope s_look_value).names.lookup ("name_of" : Str) = some .globalImplicit := by decide +kernel
theorem lk_look_value_parts : (defScope s_look_value).names.lookup ("parts" : Str) = some .local := by decide +kernel
theorem lk_make_in_shape_item_value : (defScope s_make_in_shape).names.lookup ("item_value" : Str) = some .globalImplicit := by decide +kernel
theorem lk_make_in_shape_parts : (defScope s_make_in_shape).names.lookup ("parts" : Str) = some .local := by decide +kernel
theorem lk_make_in_shape_rule_value : (defScope s_make_in_shape).names.lookup ("rule_value" : Str) = some .globalImplicit := by decide +kernel
theorem lk_make_in_shape_shape_value : (defScope s_make_in_shape).names.lookup ("shape_value" : Str) = some .globalImplicit := by decide +kernel
theorem lk_make_in_way_GOES : (defScope s_make_in_way).names.lookup ("GOES" : Str) = some .globalImplicit := by decide +kernel
theorem lk_make_in_way_len : (defScope s_make_in_way).names.lookup ("len" : Str) = some .globalImplicit := by decide +kernel
theorem lk_make_in_way_look_of : (defScope s_make_in_way).names.lookup ("look_of" : Str) = some .globalImplicit := by decide +kernel
theorem lk_make_in_way_look_value : (defScope s_make_in_way).names.lookup ("look_value" : Str) = some .globalImplicit := by decide +kernel
theorem lk_make_in_way_parts : (defScope s_make_in_way).names.lookup ("parts" : Str) = some .local := by decide +kernel
theorem lk_make_in_way_way_value : (defScope s_make_in_way).names.lookup ("way_value" : Str) = some .globalImplicit := by decide +kernel
theorem lk_make_tree_NoText : (defScope s_make_tree).names.lookup ("NoText" : Str) = some .globalImplicit := by decide +kernel
theorem lk_make_tree_len : (defScope s_make_tree).names.lookup ("len" : Str) = some .globalImplicit := by decide +kernel
theorem lk_make_tree_name_of : (defScope s_make_tree).names.lookup ("name_of" : Str) = some .globalImplicit := by decide +kernel
theorem lk_make_tree_parts : (defScope s_make_tree).names.lookup ("parts" : Str) = some .local := by decide +kernel
theorem lk_make_tree_values_of : (defScope s_make_tree).names.lookup ("values_of" : Str) = some .globalImplicit := by decide +kernel
theorem lk_name_of_NoText : (defScope s_name_of).names.lookup ("NoText" : Str) = some .globalImplicit := by decide +kernel
theorem lk_name_of_is_name : (defScope s_name_of).names.lookup ("is_name" : Str) = some .globalImplicit := by decide +kernel
theorem lk_name_of_part : (defScope s_name_of).names.lookup ("part" : Str) = some .local := by decide +kernel
theorem lk_read_bracket_NoText : (defScope s_read_bracket).names.lookup ("NoText" : Str) = some .globalImplicit := by decide +kernel
theorem lk_read_bracket_len : (defScope s_read_bracket).names.lookup ("len" : Str) = some .globalImplicit := by decide +kernel
theorem lk_read_bracket_make : (defScope s_read_bracket).names.lookup ("make" : Str) = some .local := by decide +kernel
theorem lk_read_bracket_parts : (defScope s_read_bracket).names.lookup ("parts" : Str) = some .local := by decide +kernel
theorem lk_read_bracket_text : (defScope s_read_bracket).names.lookup ("text" : Str) = some .local := by decide +kernel
theorem lk_read_bracket_unshut : (defScope s_read_bracket).names.lookup ("unshut" : Str) = some .local := by decide +kernel
theorem lk_read_bracket_word : (defScope s_read_bracket).names.lookup ("word" : Str) = some .local := by decide +kernel
theorem lk_read_bracket_words_of : (defScope s_read_bracket).names.lookup ("words_of" : Str) = some .globalImplicit := by decide +kernel
theorem lk_read_shape_make_in_shape : (defScope s_read_shape).names.lookup ("make_in_shape" : Str) = some .globalImplicit := by decide +kernel
theorem lk_read_shape_read_bracket : (defScope s_read_shape).names.lookup ("read_bracket" : Str) = some .globalImplicit := by decide +kernel
theorem lk_read_shape_text : (defScope s_read_shape).names.lookup ("text" : Str) = some .local := by decide +kernel
theorem lk_read_shape_value_of : (defScope s_read_shape).names.lookup ("value_of" : Str) = some .globalImplicit := by decide +kernel
theorem lk_read_tree_make_tree : (defScope s_read_tree).names.lookup ("make_tree" : Str) = some .globalImplicit := by decide +kernel
theorem lk_read_tree_read_bracket : (defScope s_read_tree).names.lookup ("read_bracket" : Str) = some .globalImplicit := by decide +kernel
theorem lk_read_tree_text : (defScope s_read_tree).names.lookup ("text" : Str) = some .local := by decide +kernel
theorem lk_read_tree_value_of : (defScope s_read_tree).names.lookup ("value_of" : Str) = some .globalImplicit := by decide +kernel
theorem lk_read_way_make_in_way : (defScope s_read_way).names.lookup ("make_in_way" : Str) = some .globalImplicit := by decide +kernel
theorem lk_read_way_read_bracket : (defScope s_read_way).names.lookup ("read_bracket" : Str) = some .globalImplicit := by decide +kernel
theorem lk_read_way_text : (defScope s_read_way).names.lookup ("text" : Str) = some .local := by decide +kernel
theorem lk_read_way_value_of : (defScope s_read_way).names.lookup ("value_of" : Str) = some .globalImplicit := by decide +kernel
theorem lk_rule_value_NoText : (defScope s_rule_value).names.lookup ("NoText" : Str) = some .globalImplicit := by decide +kernel
theorem lk_rule_value_ORDERS : (defScope s_rule_value).names.lookup ("ORDERS" : Str) = some .globalImplicit := by decide +kernel
theorem lk_rule_value_len : (defScope s_rule_value).names.lookup ("len" : Str) = some .globalImplicit := by decide +kernel
theorem lk_rule_value_name_of : (defScope s_rule_value).names.lookup ("name_of" : Str) = some .globalImplicit := by decide +kernel
theorem lk_rule_value_parts : (defScope s_rule_value).names.lookup ("parts" : Str) = some .local := by decide +kernel
theorem lk_rule_value_values_of : (defScope s_rule_value).names.lookup ("values_of" : Str) = some .globalImplicit := by decide +kernel
theorem lk_shape_value_NoText : (defScope s_shape_value).names.lookup ("NoText" : Str) = some .globalImplicit := by decide +kernel
theorem lk_shape_value_len : (defScope s_shape_value).names.lookup ("len" : Str) = some .globalImplicit := by decide +kernel
theorem lk_shape_value_name_of : (defScope s_shape_value).names.lookup ("name_of" : Str) = some .globalImplicit := by decide +kernel
theorem lk_shape_value_parts : (defScope s_shape_value).names.lookup ("parts" : Str) = some .local := by decide +kernel
theorem lk_shape_value_values_of : (defScope s_shape_value).names.lookup ("values_of" : Str) = some .globalImplicit := by decide +kernel
theorem lk_value_of_NoText : (defScope s_value_of).names.lookup ("NoText" : Str) = some .globalImplicit := by decide +kernel
theorem lk_value_of_isinstance : (defScope s_value_of).names.lookup ("isinstance" : Str) = some .globalImplicit := by decide +kernel
theorem lk_value_of_part : (defScope s_value_of).names.lookup ("part" : Str) = some .local := by decide +kernel
theorem lk_value_of_sort : (defScope s_value_of).names.lookup ("sort" : Str) = some .local := by decide +kernel
theorem lk_value_of_tuple : (defScope s_value_of).names.lookup ("tuple" : Str) = some .globalImplicit := by decide +kernel
theorem lk_values_of_parts : (defScope s_values_of).names.lookup ("parts" : Str) = some .local := by decide +kernel
theorem lk_values_of_tuple : (defScope s_values_of).names.lookup ("tuple" : Str) = some .globalImplicit := by decide +kernel
theorem lk_way_value_NoText : (defScope s_way_value).names.lookup ("NoText" : Str) = some .globalImplicit := by decide +kernel
theorem lk_way_value_len : (defScope s_way_value).names.lookup ("len" : Str) = some .globalImplicit := by decide +kernel
theorem lk_way_value_parts : (defScope s_way_value).names.lookup ("parts" : Str) = some .local := by decide +kernel
theorem lk_way_value_values_of : (defScope s_way_value).names.lookup ("values_of" : Str) = some .globalImplicit := by decide +kernel
theorem lk_words_of_NoText : (defScope s_words_of).names.lookup ("NoText" : Str) = some .globalImplicit := by decide +kernel
theorem lk_words_of_isinstance : (defScope s_words_of).names.lookup ("isinstance" : Str) = some .globalImplicit := by decide +kernel
theorem lk_words_of_spaced : (defScope s_words_of).names.lookup ("spaced" : Str) = some .local := by decide +kernel
theorem lk_words_of_str : (defScope s_words_of).names.lookup ("str" : Str) = some .globalImplicit := by decide +kernel
theorem lk_words_of_text : (defScope s_words_of).names.lookup ("text" : Str) = some .local := by decide +kernel
section
variable {P : Program} {w : World} {K : PySem.W.Frag} {mg : Str → Option Value} {base : Heap} {t : Adr}
theorem sc_is_name : FnScope N_is_name ["text"] (defScope s_is_name) := ⟨rfl, rfl, rfl, by decide +kernel, rfl, by decide +kernel, by decide +kernel⟩
theorem ok_is_name (T : Txt K mg t) : FnOk P w K mg base (CX1 P w) 1 (t.f 0) (t.d 0) ["text"] (spOf K mg 1 m_is_name) := by
  refine fnx (k := 0) (ms := b_is_name) T.F_is_name sc_is_name (by decide) (by decide) (fun _ => rfl) ?_
  intro X EE cdv A outer s H E hX hr hx hpo
  subst hX
  have hu := room200 hr
  have nd := sc_is_name.nd
  have hfr : HasFr (cxOf (CX1 P w) P w K mg base N_is_name "is_name" (defScope s_is_name) (t.f 0) cdv A outer s H E) := ⟨_, outer, s.heap.objs.size, rfl, rfl, rfl⟩
  refine qss_cons ?_ ?_
  · refine qs_if ?_ ?_ ?_
    · refine qt_w ?_
      refine qw_or ?_ ?_
      · refine qt_not ?_
        refine rt_tru ?_ ?_
        · refine re_isi .str ?_ ?_ ?_ ?_ ?_ ?_ ?_ ?_ ?_ ?_
          · decide
          · exact T.N_isinstance
          · exact T.N_str
          · exact lk_is_name_isinstance
          · exact lk_is_name_str
          · refine re_var 0 ?_ ?_ ?_
            · exact (Or.inl lk_is_name_text)
            · exact dn_text
            exact rfl
          · exact bt_str
          · exact nn_str
          · exact dn_str.1
          decide +kernel
        decide +kernel
      refine qw_or1 ?_
      refine rt_cmp ?_ ?_ ?_ ?_
      · exact (op_inD hu)
      · refine re_var 0 ?_ ?_ ?_
        · exact (Or.inl lk_is_name_text)
        · exact dn_text
        exact rfl
      · refine re_glob ?_ ?_ ?_
        · exact T.G_KEPT_WORDS
        · exact lk_is_name_KEPT_WORDS
        exact dn_KEPT_WORDS
      decide +kernel
    · refine qss_one ?_
      refine qs_ret ?_
      exact qe_bl
    exact qss_nil
  refine qss_cons ?_ ?_
  · refine qs_if ?_ ?_ ?_
    · refine qt_w ?_
      refine qw_or ?_ ?_
      · refine rt_cmp ?_ ?_ ?_ ?_
        · exact (op_eqD hu)
        · refine re_len ?_ ?_ ?_ ?_
          · exact T.N_len
          · exact lk_is_name_len
          · refine ra_c ?_ ?_ ?_
            · refine re_var 0 ?_ ?_ ?_
              · exact (Or.inl lk_is_name_text)
              · exact dn_text
              exact rfl
            · decide +kernel
            exact qa_nil
          decide +kernel
        · exact qe_int
        decide +kernel
      refine qw_or1 ?_
      refine rt_cmp ?_ ?_ ?_ ?_
      · exact op_gtD
      · refine re_len ?_ ?_ ?_ ?_
        · exact T.N_len
        · exact lk_is_name_len
        · refine ra_c ?_ ?_ ?_
          · refine re_var 0 ?_ ?_ ?_
            · exact (Or.inl lk_is_name_text)
            · exact dn_text
            exact rfl
          · decide +kernel
          exact qa_nil
        decide +kernel
      · refine re_glob ?_ ?_ ?_
        · exact T.G_LONGEST
        · exact lk_is_name_LONGEST
        exact dn_LONGEST
      decide +kernel
    · refine qss_one ?_
      refine qs_ret ?_
      exact qe_bl
    exact qss_nil
  refine qss_one ?_
  refine qs_ret ?_
  refine re_all ?_ ?_ ?_ ?_ ?_
  · exact rfl
  · exact T.N_all
  · exact lk_is_name_all
  · refine ra_c ?_ ?_ ?_
    · refine re_comp (xs := ["sign"]) (ow := ownN) ?_ ?_ ?_ ?_ ?_ ?_ ?_ ?_ ?_
      · exact hx
      · exact hfr
      · exact S_cs_is_name_0
      · exact own_name S_cs_is_name_0
      · exact ownD_name
      · exact rfl
      · refine re_var 0 ?_ ?_ ?_
        · exact (Or.inl lk_is_name_text)
        · exact dn_text
        exact rfl
      · refine compB_nil fun cl C pins s0 H0 fp E1 EE1 hx => ?_
        refine re_in ?_ ?_ ?_ ?_
        · exact hu
        · refine re_var 0 ?_ ?_ ?_
          · exact (cv_loc S_cs_is_name_0 (by simp))
          · exact dn_sign
          exact rfl
        · refine re_glob ?_ ?_ ?_
          · exact T.G_LETTERS
          · exact (cv_glob lk_cs_is_name_0_LETTERS)
          exact dn_LETTERS
        decide +kernel
      decide +kernel
    · decide +kernel
    exact qa_nil
  decide +kernel
theorem sc_words_of : FnScope N_words_of ["text"] (defScope s_words_of) := ⟨rfl, rfl, rfl, by decide +kernel, rfl, by decide +kernel, by decide +kernel⟩
theorem ok_words_of (T : Txt K mg t) : FnOk P w K mg base (CX1 P w) 1 (t.f 4) (t.d 4) ["text"] (spOf K mg 1 m_words_of) := by
  refine fnx (k := 0) (ms := b_words_of) T.F_words_of sc_words_of (by decide) (by decide) (fun _ => rfl) ?_
  intro X EE cdv A outer s H E hX hr hx hpo
  subst hX
  have hu := room200 hr
  have nd := sc_words_of.nd
  have hfr : HasFr (cxOf (CX1 P w) P w K mg base N_words_of "words_of" (defScope s_words_of) (t.f 4) cdv A outer s H E) := ⟨_, outer, s.heap.objs.size, rfl, rfl, rfl⟩
  refine qss_cons ?_ ?_
  · refine qs_if ?_ ?_ ?_
    · refine qt_not ?_
      refine rt_tru ?_ ?_
      · refine re_isi .str ?_ ?_ ?_ ?_ ?_ ?_ ?_ ?_ ?_ ?_
        · decide
        · exact T.N_isinstance
        · exact T.N_str
        · exact lk_words_of_isinstance
        · exact lk_words_of_str
        · refine re_var 0 ?_ ?_ ?_
          · exact (Or.inl lk_words_of_text)
          · exact dn_text
          exact rfl
        · exact bt_str
        · exact nn_str
        · exact dn_str.1
        decide +kernel
      decide +kernel
    · refine qss_one ?_
      refine rs_raise (C := (t.c 0)) ?_ ?_ ?_ ?_ ?_ ?_ ?_ ?_
      · exact rfl
      · exact hx
      · exact T.M_NoText
      · exact T.E_NoText
      · exact lk_words_of_NoText
      · exact dn_NoText
      · refine ra_s ?_
        exact qa_nil
      decide +kernel
    exact qss_nil
  refine qss_cons ?_ ?_
  · refine rs_set (i := 1) ?_ ?_ ?_ ?_ ?_ ?_
    · exact nd
    · exact (Or.inl lk_words_of_spaced)
    · refine QEt.qe ?_
      refine rt_rep ?_ ?_ ?_
      · refine rt_rep ?_ ?_ ?_
        · refine rt_rep0 ?_ ?_ ?_
          · refine re_var 0 ?_ ?_ ?_
            · exact (Or.inl lk_words_of_text)
            · exact dn_text
            exact rfl
          · decide +kernel
          exact rfl
        · decide +kernel
        exact rfl
      · decide +kernel
      exact rfl
    · exact Or.inl rfl
    · exact rfl
    decide +kernel
  refine qss_one ?_
  refine qs_ret ?_
  refine re_comp (xs := ["word"]) (ow := ownN) ?_ ?_ ?_ ?_ ?_ ?_ ?_ ?_ ?_
  · exact hx
  · exact hfr
  · exact S_cs_words_of_0
  · exact own_name S_cs_words_of_0
  · exact ownD_name
  · exact rfl
  · refine re_split ?_ ?_ ?_ ?_ ?_
    · refine re_var 1 ?_ ?_ ?_
      · exact (Or.inl lk_words_of_spaced)
      · exact dn_spaced
      exact rfl
    · refine ra_s ?_
      exact qa_nil
    · decide +kernel
    · decide +kernel
    exact rfl
  · refine compB_one fun cl C pins s0 H0 fp E1 EE1 hx => ?_
    refine ⟨?_, ?_⟩
    · refine rt_cmp ?_ ?_ ?_ ?_
      · exact (op_neD hu)
      · refine re_var 0 ?_ ?_ ?_
        · exact (cv_loc S_cs_words_of_0 (by simp))
        · exact dn_word
        exact rfl
      · exact qe_str
      decide +kernel
    refine re_var 0 ?_ ?_ ?_
    · exact (cv_loc S_cs_words_of_0 (by simp))
    · exact dn_word
    exact rfl
  decide +kernel
theorem sc_value_of : FnScope N_value_of ["part", "sort"] (defScope s_value_of) := ⟨rfl, rfl, rfl, by decide +kernel, rfl, by decide +kernel, by decide +kernel⟩
theorem ok_value_of (T : Txt K mg t) : FnOk P w K mg base (CX1 P w) 1 (t.f 6) (t.d 6) ["part", "sort"] (spOf K mg 2 m_value_of) := by
  refine fnx (k := 0) (ms := b_value_of) T.F_value_of sc_value_of (by decide) (by decide) (fun _ => rfl) ?_
  intro X EE cdv A outer s H E hX hr hx hpo
  subst hX
  have hu := room200 hr
  have nd := sc_value_of.nd
  have hfr : HasFr (cxOf (CX1 P w) P w K mg base N_value_of "value_of" (defScope s_value_of) (t.f 6) cdv A outer s H E) := ⟨_, outer, s.heap.objs.size, rfl, rfl, rfl⟩
  refine qss_cons ?_ ?_
  · refine qs_if ?_ ?_ ?_
    · refine qt_w ?_
      refine qw_and ?_ ?_
      · refine rt_tru ?_ ?_
        · refine re_isi .tup ?_ ?_ ?_ ?_ ?_ ?_ ?_ ?_ ?_ ?_
          · decide
          · exact T.N_isinstance
          · exact T.N_tuple
          · exact lk_value_of_isinstance
          · exact lk_value_of_tuple
          · refine re_var 0 ?_ ?_ ?_
            · exact (Or.inl lk_value_of_part)
            · exact dn_part
            exact rfl
          · exact bt_tuple
          · exact nn_tuple
          · exact dn_tuple.1
          decide +kernel
        decide +kernel
      refine qw_and1 ?_
      refine rt_cmp ?_ ?_ ?_ ?_
      · exact (op_eqD hu)
      · refine re_index ?_ ?_ ?_
        · refine re_var 0 ?_ ?_ ?_
          · exact (Or.inl lk_value_of_part)
          · exact dn_part
          exact rfl
        · exact qe_int
        decide +kernel
      · refine re_var 1 ?_ ?_ ?_
        · exact (Or.inl lk_value_of_sort)
        · exact dn_sort
        exact rfl
      decide +kernel
    · refine qss_one ?_
      refine qs_ret ?_
      refine re_index ?_ ?_ ?_
      · refine re_var 0 ?_ ?_ ?_
        · exact (Or.inl lk_value_of_part)
        · exact dn_part
        exact rfl
      · exact qe_int
      decide +kernel
    exact qss_nil
  refine qss_one ?_
  refine rs_raise (C := (t.c 0)) ?_ ?_ ?_ ?_ ?_ ?_ ?_ ?_
  · exact rfl
  · exact hx
  · exact T.M_NoText
  · exact T.E_NoText
  · exact lk_value_of_NoText
  · exact dn_NoText
  · refine ra_c ?_ ?_ ?_
    · refine re_fmt ?_
      refine re_var 1 ?_ ?_ ?_
      · exact (Or.inl lk_value_of_sort)
      · exact dn_sort
      exact rfl
    · decide +kernel
    exact qa_nil
  decide +kernel
theorem sc_count_of : FnScope N_count_of ["part"] (defScope s_count_of) := ⟨rfl, rfl, rfl, by decide +kernel, rfl, by decide +kernel, by decide +kernel⟩
theorem ok_count_of (T : Txt K mg t) : FnOk P w K mg base (CX1 P w) 1 (t.f 14) (t.d 14) ["part"] (spOf K mg 1 m_count_of) := by
  refine fnx (k := 0) (ms := b_count_of) T.F_count_of sc_count_of (by decide) (by decide) (fun _ => rfl) ?_
  intro X EE cdv A outer s H E hX hr hx hpo
  subst hX
  have hu := room200 hr
  have nd := sc_count_of.nd
  have hfr : HasFr (cxOf (CX1 P w) P w K mg base N_count_of "count_of" (defScope s_count_of) (t.f 14) cdv A outer s H E) := ⟨_, outer, s.heap.objs.size, rfl, rfl, rfl⟩
  refine qss_cons ?_ ?_
  · refine qs_if ?_ ?_ ?_
    · refine rt_cmp ?_ ?_ ?_ ?_
      · exact (op_inD hu)
      · refine re_var 0 ?_ ?_ ?_
        · exact (Or.inl lk_count_of_part)
        · exact dn_part
        exact rfl
      · refine re_glob ?_ ?_ ?_
        · exact T.G_COUNTS
        · exact lk_count_of_COUNTS
        exact dn_COUNTS
      decide +kernel
    · refine qss_one ?_
      refine qs_ret ?_
      refine re_indexG ?_ ?_ ?_ ?_ ?_ ?_ ?_
      · exact T.G_COUNTS
      · exact T.K_COUNTS
      · exact lk_count_of_COUNTS
      · exact dn_COUNTS
      · refine ra_c ?_ ?_ ?_
        · refine re_var 0 ?_ ?_ ?_
          · exact (Or.inl lk_count_of_part)
          · exact dn_part
          exact rfl
        · decide +kernel
        exact qa_nil
      · decide +kernel
      exact rfl
    exact qss_nil
  refine qss_one ?_
  refine rs_raise (C := (t.c 0)) ?_ ?_ ?_ ?_ ?_ ?_ ?_ ?_
  · exact rfl
  · exact hx
  · exact T.M_NoText
  · exact T.E_NoText
  · exact lk_count_of_NoText
  · exact dn_NoText
  · refine ra_s ?_
    exact qa_nil
  decide +kernel
theorem sc__law_draws : FnScope N__law_draws ["_law_script", "_law_many"] (defScope s__law_draws) := ⟨rfl, rfl, rfl, by decide +kernel, rfl, by decide +kernel, by decide +kernel⟩
theorem ok__law_draws (T : Txt K mg t) : FnOk P w K mg base (CX1 P w) 1 (t.f 20) (t.d 20) ["_law_script", "_law_many"] (spOf K mg 2 m__law_draws) := by
  refine fnx (k := 0) (ms := b__law_draws) T.F__law_draws sc__law_draws (by decide) (by decide) (fun _ => rfl) ?_
  intro X EE cdv A outer s H E hX hr hx hpo
  subst hX
  have hu := room200 hr
  have nd := sc__law_draws.nd
  have hfr : HasFr (cxOf (CX1 P w) P w K mg base N__law_draws "_law_draws" (defScope s__law_draws) (t.f 20) cdv A outer s H E) := ⟨_, outer, s.heap.objs.size, rfl, rfl, rfl⟩
  refine qss_cons ?_ ?_
  · refine rs_set (i := 2) ?_ ?_ ?_ ?_ ?_ ?_
    · exact nd
    · exact (Or.inl lk__law_draws__law_found)
    · refine qe_lst ?_
      exact qa_nil
    · exact Or.inl rfl
    · exact rfl
    decide +kernel
  refine qss_cons ?_ ?_
  · refine rs_forR1 ?_ ?_ ?_ ?_ ?_ ?_ ?_ ?_
    · exact hpo
    · exact rfl
    · exact T.N_range
    · exact lk__law_draws_range
    · refine ra_c ?_ ?_ ?_
      · refine re_var 1 ?_ ?_ ?_
        · exact (Or.inl lk__law_draws__law_many)
        · exact dn__law_many
        exact rfl
      · decide +kernel
      exact qa_nil
    · refine rg_name (i := 3) ?_ ?_ ?_ ?_
      · exact nd
      · exact (Or.inl lk__law_draws__law_k)
      · exact Or.inl rfl
      exact rfl
    · refine qss_cons ?_ ?_
      · refine rs_set (i := 4) ?_ ?_ ?_ ?_ ?_ ?_
        · exact nd
        · exact (Or.inl lk__law_draws__law_cell)
        · exact qe_int
        · exact Or.inl rfl
        · exact rfl
        decide +kernel
      refine qss_cons ?_ ?_
      · refine qs_if ?_ ?_ ?_
        · refine rt_cmp ?_ ?_ ?_ ?_
          · exact op_gtD
          · refine re_len ?_ ?_ ?_ ?_
            · exact T.N_len
            · exact lk__law_draws_len
            · refine ra_c ?_ ?_ ?_
              · refine re_var 0 ?_ ?_ ?_
                · exact (Or.inl lk__law_draws__law_script)
                · exact dn__law_script
                exact rfl
              · decide +kernel
              exact qa_nil
            decide +kernel
          · exact qe_int
          decide +kernel
        · refine qss_one ?_
          refine rs_set (i := 4) ?_ ?_ ?_ ?_ ?_ ?_
          · exact nd
          · exact (Or.inl lk__law_draws__law_cell)
          · refine qe_mod ?_ ?_
            · refine re_index ?_ ?_ ?_
              · refine re_var 0 ?_ ?_ ?_
                · exact (Or.inl lk__law_draws__law_script)
                · exact dn__law_script
                exact rfl
              · refine qe_mod ?_ ?_
                · refine re_var 3 ?_ ?_ ?_
                  · exact (Or.inl lk__law_draws__law_k)
                  · exact dn__law_k
                  exact rfl
                refine re_len ?_ ?_ ?_ ?_
                · exact T.N_len
                · exact lk__law_draws_len
                · refine ra_c ?_ ?_ ?_
                  · refine re_var 0 ?_ ?_ ?_
                    · exact (Or.inl lk__law_draws__law_script)
                    · exact dn__law_script
                    exact rfl
                  · decide +kernel
                  exact qa_nil
                decide +kernel
              decide +kernel
            refine qe_pow ?_ ?_
            · exact qe_int
            exact qe_int
          · exact Or.inl rfl
          · exact rfl
          decide +kernel
        exact qss_nil
      refine qss_one ?_
      refine rs_expr ?_ ?_
      · refine re_append ?_ ?_ ?_ ?_ ?_
        · refine re_var 2 ?_ ?_ ?_
          · exact (Or.inl lk__law_draws__law_found)
          · exact dn__law_found
          exact rfl
        · refine ra_c ?_ ?_ ?_
          · refine qe_add ?_ ?_
            · refine re_var 4 ?_ ?_ ?_
              · exact (Or.inl lk__law_draws__law_cell)
              · exact dn__law_cell
              exact rfl
            refine qe_mul ?_ ?_
            · exact qe_int
            refine qe_fdiv ?_ ?_
            · refine re_var 3 ?_ ?_ ?_
              · exact (Or.inl lk__law_draws__law_k)
              · exact dn__law_k
              exact rfl
            refine re_max2 ?_ ?_ ?_ ?_ ?_
            · exact rfl
            · exact T.N_max
            · exact lk__law_draws_max
            · refine ra_i ?_
              refine ra_c ?_ ?_ ?_
              · refine re_len ?_ ?_ ?_ ?_
                · exact T.N_len
                · exact lk__law_draws_len
                · refine ra_c ?_ ?_ ?_
                  · refine re_var 0 ?_ ?_ ?_
                    · exact (Or.inl lk__law_draws__law_script)
                    · exact dn__law_script
                    exact rfl
                  · decide +kernel
                  exact qa_nil
                decide +kernel
              · decide +kernel
              exact qa_nil
            decide +kernel
          · decide +kernel
          exact qa_nil
        · decide +kernel
        · decide +kernel
        exact rfl
      decide +kernel
    decide +kernel
  refine qss_one ?_
  refine qs_ret ?_
  refine re_var 2 ?_ ?_ ?_
  · exact (Or.inl lk__law_draws__law_found)
  · exact dn__law_found
  exact rfl
theorem sc__law_name : FnScope N__law_name ["_law_draw"] (defScope s__law_name) := ⟨rfl, rfl, rfl, by decide +kernel, rfl, by decide +kernel, by decide +kernel⟩
theorem ok__law_name (T : Txt K mg t) : FnOk P w K mg base (CX1 P w) 1 (t.f 21) (t.d 21) ["_law_draw"] (spOf K mg 1 m__law_name) := by
  refine fnx (k := 0) (ms := b__law_name) T.F__law_name sc__law_name (by decide) (by decide) (fun _ => rfl) ?_
  intro X EE cdv A outer s H E hX hr hx hpo
  subst hX
  have hu := room200 hr
  have nd := sc__law_name.nd
  have hfr : HasFr (cxOf (CX1 P w) P w K mg base N__law_name "_law_name" (defScope s__law_name) (t.f 21) cdv A outer s H E) := ⟨_, outer, s.heap.objs.size, rfl, rfl, rfl⟩
  refine qss_cons ?_ ?_
  · refine rs_set (i := 1) ?_ ?_ ?_ ?_ ?_ ?_
    · exact nd
    · exact (Or.inl lk__law_name__law_letters)
    · exact qe_str
    · exact Or.inl rfl
    · exact rfl
    decide +kernel
  refine qss_cons ?_ ?_
  · refine rs_set (i := 2) ?_ ?_ ?_ ?_ ?_ ?_
    · exact nd
    · exact (Or.inl lk__law_name__law_name_here)
    · refine re_index ?_ ?_ ?_
      · refine re_var 1 ?_ ?_ ?_
        · exact (Or.inl lk__law_name__law_letters)
        · exact dn__law_letters
        exact rfl
      · refine qe_mod ?_ ?_
        · refine re_var 0 ?_ ?_ ?_
          · exact (Or.inl lk__law_name__law_draw)
          · exact dn__law_draw
          exact rfl
        exact qe_int
      decide +kernel
    · exact Or.inl rfl
    · exact rfl
    decide +kernel
  refine qss_cons ?_ ?_
  · refine rs_forR1 ?_ ?_ ?_ ?_ ?_ ?_ ?_ ?_
    · exact hpo
    · exact rfl
    · exact T.N_range
    · exact lk__law_name_range
    · refine ra_c ?_ ?_ ?_
      · refine qe_mod ?_ ?_
        · refine qe_fdiv ?_ ?_
          · refine re_var 0 ?_ ?_ ?_
            · exact (Or.inl lk__law_name__law_draw)
            · exact dn__law_draw
            exact rfl
          exact qe_int
        exact qe_int
      · decide +kernel
      exact qa_nil
    · refine rg_name (i := 3) ?_ ?_ ?_ ?_
      · exact nd
      · exact (Or.inl lk__law_name__law_k)
      · exact Or.inl rfl
      exact rfl
    · refine qss_cons ?_ ?_
      · refine rs_set (i := 4) ?_ ?_ ?_ ?_ ?_ ?_
        · exact nd
        · exact (Or.inl lk__law_name__law_at)
        · refine qe_add ?_ ?_
          · refine qe_add ?_ ?_
            · refine qe_fdiv ?_ ?_
              · refine re_var 0 ?_ ?_ ?_
                · exact (Or.inl lk__law_name__law_draw)
                · exact dn__law_draw
                exact rfl
              exact qe_int
            refine qe_mul ?_ ?_
            · refine qe_mul ?_ ?_
              · exact qe_int
              refine re_var 3 ?_ ?_ ?_
              · exact (Or.inl lk__law_name__law_k)
              · exact dn__law_k
              exact rfl
            refine re_var 3 ?_ ?_ ?_
            · exact (Or.inl lk__law_name__law_k)
            · exact dn__law_k
            exact rfl
          refine qe_mul ?_ ?_
          · refine qe_mod ?_ ?_
            · refine qe_fdiv ?_ ?_
              · refine re_var 0 ?_ ?_ ?_
                · exact (Or.inl lk__law_name__law_draw)
                · exact dn__law_draw
                exact rfl
              exact qe_int
            exact qe_int
          refine re_var 3 ?_ ?_ ?_
          · exact (Or.inl lk__law_name__law_k)
          · exact dn__law_k
          exact rfl
        · exact Or.inl rfl
        · exact rfl
        decide +kernel
      refine qss_one ?_
      refine rs_set (i := 2) ?_ ?_ ?_ ?_ ?_ ?_
      · exact nd
      · exact (Or.inl lk__law_name__law_name_here)
      · refine qe_add ?_ ?_
        · refine re_var 2 ?_ ?_ ?_
          · exact (Or.inl lk__law_name__law_name_here)
          · exact dn__law_name_here
          exact rfl
        refine re_index ?_ ?_ ?_
        · refine re_var 1 ?_ ?_ ?_
          · exact (Or.inl lk__law_name__law_letters)
          · exact dn__law_letters
          exact rfl
        · refine qe_mod ?_ ?_
          · refine re_var 4 ?_ ?_ ?_
            · exact (Or.inl lk__law_name__law_at)
            · exact dn__law_at
            exact rfl
          exact qe_int
        decide +kernel
      · exact Or.inl rfl
      · exact rfl
      decide +kernel
    decide +kernel
  refine qss_cons ?_ ?_
  · refine rs_set (i := 5) ?_ ?_ ?_ ?_ ?_ ?_
    · exact nd
    · exact (Or.inl lk__law_name__law_taken)
    · refine qe_lst ?_
      refine ra_s ?_
      refine ra_s ?_
      refine ra_s ?_
      refine ra_s ?_
      refine ra_s ?_
      refine ra_s ?_
      refine ra_s ?_
      refine ra_s ?_
      refine ra_s ?_
      refine ra_s ?_
      refine ra_s ?_
      refine ra_s ?_
      exact qa_nil
    · exact Or.inl rfl
    · exact rfl
    decide +kernel
  refine qss_cons ?_ ?_
  · refine qs_if ?_ ?_ ?_
    · refine rt_cmp ?_ ?_ ?_ ?_
      · exact (op_inD hu)
      · refine re_var 2 ?_ ?_ ?_
        · exact (Or.inl lk__law_name__law_name_here)
        · exact dn__law_name_here
        exact rfl
      · refine re_var 5 ?_ ?_ ?_
        · exact (Or.inl lk__law_name__law_taken)
        · exact dn__law_taken
        exact rfl
      decide +kernel
    · refine qss_one ?_
      refine qs_ret ?_
      refine qe_add ?_ ?_
      · refine re_var 2 ?_ ?_ ?_
        · exact (Or.inl lk__law_name__law_name_here)
        · exact dn__law_name_here
        exact rfl
      exact qe_str
    exact qss_nil
  refine qss_one ?_
  refine qs_ret ?_
  refine re_var 2 ?_ ?_ ?_
  · exact (Or.inl lk__law_name__law_name_here)
  · exact dn__law_name_here
  exact rfl
theorem sc__law_good : FnScope N__law_good ["_law_cell"] (defScope s__law_good) := ⟨rfl, rfl, rfl, by decide +kernel, rfl, by decide +kernel, by decide +kernel⟩
theorem ok__law_good (T : Txt K mg t) : FnOk P w K mg base (CX1 P w) 1 (t.f 22) (t.d 22) ["_law_cell"] (spOf K mg 1 m__law_good) := by
  refine fnx (k := 0) (ms := b__law_good) T.F__law_good sc__law_good (by decide) (by decide) (fun _ => rfl) ?_
  intro X EE cdv A outer s H E hX hr hx hpo
  subst hX
  have hu := room200 hr
  have nd := sc__law_good.nd
  have hfr : HasFr (cxOf (CX1 P w) P w K mg base N__law_good "_law_good" (defScope s__law_good) (t.f 22) cdv A outer s H E) := ⟨_, outer, s.heap.objs.size, rfl, rfl, rfl⟩
  refine qss_cons ?_ ?_
  · refine rs_set (i := 1) ?_ ?_ ?_ ?_ ?_ ?_
    · exact nd
    · exact (Or.inl lk__law_good__law_some)
    · refine qe_lst ?_
      refine ra_c ?_ ?_ ?_
      · refine qe_lst ?_
        refine ra_i ?_
        refine ra_s ?_
        exact qa_nil
      · decide +kernel
      refine ra_c ?_ ?_ ?_
      · refine qe_lst ?_
        refine ra_i ?_
        refine ra_s ?_
        exact qa_nil
      · decide +kernel
      refine ra_c ?_ ?_ ?_
      · refine qe_lst ?_
        refine ra_i ?_
        refine ra_s ?_
        exact qa_nil
      · decide +kernel
      refine ra_c ?_ ?_ ?_
      · refine qe_lst ?_
        refine ra_i ?_
        refine ra_s ?_
        exact qa_nil
      · decide +kernel
      exact qa_nil
    · exact Or.inl rfl
    · exact rfl
    decide +kernel
  refine qss_cons ?_ ?_
  · refine rs_set (i := 1) ?_ ?_ ?_ ?_ ?_ ?_
    · exact nd
    · exact (Or.inl lk__law_good__law_some)
    · refine qe_add ?_ ?_
      · refine re_var 1 ?_ ?_ ?_
        · exact (Or.inl lk__law_good__law_some)
        · exact dn__law_some
        exact rfl
      refine qe_lst ?_
      refine ra_c ?_ ?_ ?_
      · refine qe_lst ?_
        refine ra_i ?_
        refine ra_s ?_
        exact qa_nil
      · decide +kernel
      exact qa_nil
    · exact Or.inl rfl
    · exact rfl
    decide +kernel
  refine qss_cons ?_ ?_
  · refine rs_set (i := 1) ?_ ?_ ?_ ?_ ?_ ?_
    · exact nd
    · exact (Or.inl lk__law_good__law_some)
    · refine qe_add ?_ ?_
      · refine re_var 1 ?_ ?_ ?_
        · exact (Or.inl lk__law_good__law_some)
        · exact dn__law_some
        exact rfl
      refine qe_lst ?_
      refine ra_c ?_ ?_ ?_
      · refine qe_lst ?_
        refine ra_i ?_
        refine ra_s ?_
        exact qa_nil
      · decide +kernel
      refine ra_c ?_ ?_ ?_
      · refine qe_lst ?_
        refine ra_i ?_
        refine ra_s ?_
        exact qa_nil
      · decide +kernel
      exact qa_nil
    · exact Or.inl rfl
    · exact rfl
    decide +kernel
  refine qss_cons ?_ ?_
  · refine rs_set (i := 1) ?_ ?_ ?_ ?_ ?_ ?_
    · exact nd
    · exact (Or.inl lk__law_good__law_some)
    · refine qe_add ?_ ?_
      · refine re_var 1 ?_ ?_ ?_
        · exact (Or.inl lk__law_good__law_some)
        · exact dn__law_some
        exact rfl
      refine qe_lst ?_
      refine ra_c ?_ ?_ ?_
      · refine qe_lst ?_
        refine ra_i ?_
        refine ra_s ?_
        exact qa_nil
      · decide +kernel
      refine ra_c ?_ ?_ ?_
      · refine qe_lst ?_
        refine ra_i ?_
        refine ra_s ?_
        exact qa_nil
      · decide +kernel
      exact qa_nil
    · exact Or.inl rfl
    · exact rfl
    decide +kernel
  refine qss_cons ?_ ?_
  · refine rs_set (i := 1) ?_ ?_ ?_ ?_ ?_ ?_
    · exact nd
    · exact (Or.inl lk__law_good__law_some)
    · refine qe_add ?_ ?_
      · refine re_var 1 ?_ ?_ ?_
        · exact (Or.inl lk__law_good__law_some)
        · exact dn__law_some
        exact rfl
      refine qe_lst ?_
      refine ra_c ?_ ?_ ?_
      · refine qe_lst ?_
        refine ra_i ?_
        refine ra_s ?_
        exact qa_nil
      · decide +kernel
      refine ra_c ?_ ?_ ?_
      · refine qe_lst ?_
        refine ra_i ?_
        refine ra_s ?_
        exact qa_nil
      · decide +kernel
      exact qa_nil
    · exact Or.inl rfl
    · exact rfl
    decide +kernel
  refine qss_cons ?_ ?_
  · refine rs_set (i := 1) ?_ ?_ ?_ ?_ ?_ ?_
    · exact nd
    · exact (Or.inl lk__law_good__law_some)
    · refine qe_add ?_ ?_
      · refine re_var 1 ?_ ?_ ?_
        · exact (Or.inl lk__law_good__law_some)
        · exact dn__law_some
        exact rfl
      refine qe_lst ?_
      refine ra_c ?_ ?_ ?_
      · refine qe_lst ?_
        refine ra_i ?_
        refine ra_s ?_
        exact qa_nil
      · decide +kernel
      exact qa_nil
    · exact Or.inl rfl
    · exact rfl
    decide +kernel
  refine qss_one ?_
  refine qs_ret ?_
  refine re_index ?_ ?_ ?_
  · refine re_var 1 ?_ ?_ ?_
    · exact (Or.inl lk__law_good__law_some)
    · exact dn__law_some
    exact rfl
  · refine qe_mod ?_ ?_
    · refine re_var 0 ?_ ?_ ?_
      · exact (Or.inl lk__law_good__law_cell)
      · exact dn__law_cell
      exact rfl
    refine re_len ?_ ?_ ?_ ?_
    · exact T.N_len
    · exact lk__law_good_len
    · refine ra_c ?_ ?_ ?_
      · refine re_var 1 ?_ ?_ ?_
        · exact (Or.inl lk__law_good__law_some)
        · exact dn__law_some
        exact rfl
      · decide +kernel
      exact qa_nil
    decide +kernel
  decide +kernel
theorem sc__law_bad_trees : FnScope N__law_bad_trees [] (defScope s__law_bad_trees) := ⟨rfl, rfl, rfl, by decide +kernel, rfl, by decide +kernel, by decide +kernel⟩
theorem ok__law_bad_trees (T : Txt K mg t) : FnOk P w K mg base (CX1 P w) 1 (t.f 23) (t.d 23) [] (spOf K mg 0 m__law_bad_trees) := by
  refine fnx (k := 0) (ms := b__law_bad_trees) T.F__law_bad_trees sc__law_bad_trees (by decide) (by decide) (fun _ => rfl) ?_
  intro X EE cdv A outer s H E hX hr hx hpo
  subst hX
  have hu := room200 hr
  have nd := sc__law_bad_trees.nd
  have hfr : HasFr (cxOf (CX1 P w) P w K mg base N__law_bad_trees "_law_bad_trees" (defScope s__law_bad_trees) (t.f 23) cdv A outer s H E) := ⟨_, outer, s.heap.objs.size, rfl, rfl, rfl⟩
  refine qss_cons ?_ ?_
  · refine rs_set (i := 0) ?_ ?_ ?_ ?_ ?_ ?_
    · exact nd
    · exact (Or.inl lk__law_bad_trees__law_some)
    · refine qe_lst ?_
      refine ra_s ?_
      refine ra_s ?_
      refine ra_s ?_
      refine ra_s ?_
      refine ra_s ?_
      refine ra_s ?_
      refine ra_s ?_
      refine ra_s ?_
      refine ra_s ?_
      exact qa_nil
    · exact Or.inl rfl
    · exact rfl
    decide +kernel
  refine qss_one ?_
  refine qs_ret ?_
  refine re_comp (xs := ["_law_text_here"]) (ow := ownN) ?_ ?_ ?_ ?_ ?_ ?_ ?_ ?_ ?_
  · exact hx
  · exact hfr
  · exact S_cs__law_bad_trees_0
  · exact own_name S_cs__law_bad_trees_0
  · exact ownD_name
  · exact rfl
  · refine qe_add ?_ ?_
    · refine re_var 0 ?_ ?_ ?_
      · exact (Or.inl lk__law_bad_trees__law_some)
      · exact dn__law_some
      exact rfl
    refine qe_lst ?_
    refine ra_s ?_
    refine ra_s ?_
    refine ra_s ?_
    refine ra_s ?_
    refine ra_s ?_
    exact qa_nil
  · refine compB_nil fun cl C pins s0 H0 fp E1 EE1 hx => ?_
    refine qe_lst ?_
    refine ra_i ?_
    refine ra_c ?_ ?_ ?_
    · refine re_var 0 ?_ ?_ ?_
      · exact (cv_loc S_cs__law_bad_trees_0 (by simp))
      · exact dn__law_text_here
      exact rfl
    · decide +kernel
    exact qa_nil
  decide +kernel
theorem sc__law_bad_shapes : FnScope N__law_bad_shapes [] (defScope s__law_bad_shapes) := ⟨rfl, rfl, rfl, by decide +kernel, rfl, by decide +kernel, by decide +kernel⟩
theorem ok__law_bad_shapes (T : Txt K mg t) : FnOk P w K mg base (CX1 P w) 1 (t.f 24) (t.d 24) [] (spOf K mg 0 m__law_bad_shapes) := by
  refine fnx (k := 0) (ms := b__law_bad_shapes) T.F__law_bad_shapes sc__law_bad_shapes (by decide) (by decide) (fun _ => rfl) ?_
  intro X EE cdv A outer s H E hX hr hx hpo
  subst hX
  have hu := room200 hr
  have nd := sc__law_bad_shapes.nd
  have hfr : HasFr (cxOf (CX1 P w) P w K mg base N__law_bad_shapes "_law_bad_shapes" (defScope s__law_bad_shapes) (t.f 24) cdv A outer s H E) := ⟨_, outer, s.heap.objs.size, rfl, rfl, rfl⟩
  refine qss_cons ?_ ?_
  · refine rs_set (i := 0) ?_ ?_ ?_ ?_ ?_ ?_
    · exact nd
    · exact (Or.inl lk__law_bad_shapes__law_some)
    · refine qe_lst ?_
      refine ra_s ?_
      refine ra_s ?_
      refine ra_s ?_
      refine ra_s ?_
      refine ra_s ?_
      refine ra_s ?_
      exact qa_nil
    · exact Or.inl rfl
    · exact rfl
    decide +kernel
  refine qss_cons ?_ ?_
  · refine rs_set (i := 0) ?_ ?_ ?_ ?_ ?_ ?_
    · exact nd
    · exact (Or.inl lk__law_bad_shapes__law_some)
    · refine qe_add ?_ ?_
      · refine re_var 0 ?_ ?_ ?_
        · exact (Or.inl lk__law_bad_shapes__law_some)
        · exact dn__law_some
        exact rfl
      refine qe_lst ?_
      refine ra_s ?_
      refine ra_s ?_
      refine ra_s ?_
      exact qa_nil
    · exact Or.inl rfl
    · exact rfl
    decide +kernel
  refine qss_cons ?_ ?_
  · refine rs_set (i := 0) ?_ ?_ ?_ ?_ ?_ ?_
    · exact nd
    · exact (Or.inl lk__law_bad_shapes__law_some)
    · refine qe_add ?_ ?_
      · refine re_var 0 ?_ ?_ ?_
        · exact (Or.inl lk__law_bad_shapes__law_some)
        · exact dn__law_some
        exact rfl
      refine qe_lst ?_
      refine ra_s ?_
      refine ra_s ?_
      refine ra_s ?_
      exact qa_nil
    · exact Or.inl rfl
    · exact rfl
    decide +kernel
  refine qss_cons ?_ ?_
  · refine rs_set (i := 0) ?_ ?_ ?_ ?_ ?_ ?_
    · exact nd
    · exact (Or.inl lk__law_bad_shapes__law_some)
    · refine qe_add ?_ ?_
      · refine re_var 0 ?_ ?_ ?_
        · exact (Or.inl lk__law_bad_shapes__law_some)
        · exact dn__law_some
        exact rfl
      refine qe_lst ?_
      refine ra_s ?_
      refine ra_s ?_
      exact qa_nil
    · exact Or.inl rfl
    · exact rfl
    decide +kernel
  refine qss_cons ?_ ?_
  · refine rs_set (i := 0) ?_ ?_ ?_ ?_ ?_ ?_
    · exact nd
    · exact (Or.inl lk__law_bad_shapes__law_some)
    · refine qe_add ?_ ?_
      · refine re_var 0 ?_ ?_ ?_
        · exact (Or.inl lk__law_bad_shapes__law_some)
        · exact dn__law_some
        exact rfl
      refine qe_lst ?_
      refine ra_s ?_
      refine ra_s ?_
      exact qa_nil
    · exact Or.inl rfl
    · exact rfl
    decide +kernel
  refine qss_cons ?_ ?_
  · refine rs_set (i := 0) ?_ ?_ ?_ ?_ ?_ ?_
    · exact nd
    · exact (Or.inl lk__law_bad_shapes__law_some)
    · refine qe_add ?_ ?_
      · refine re_var 0 ?_ ?_ ?_
        · exact (Or.inl lk__law_bad_shapes__law_some)
        · exact dn__law_some
        exact rfl
      refine qe_lst ?_
      refine ra_s ?_
      refine ra_s ?_
      exact qa_nil
    · exact Or.inl rfl
    · exact rfl
    decide +kernel
  refine qss_cons ?_ ?_
  · refine rs_set (i := 0) ?_ ?_ ?_ ?_ ?_ ?_
    · exact nd
    · exact (Or.inl lk__law_bad_shapes__law_some)
    · refine qe_add ?_ ?_
      · refine re_var 0 ?_ ?_ ?_
        · exact (Or.inl lk__law_bad_shapes__law_some)
        · exact dn__law_some
        exact rfl
      refine qe_lst ?_
      refine ra_s ?_
      refine ra_s ?_
      exact qa_nil
    · exact Or.inl rfl
    · exact rfl
    decide +kernel
  refine qss_cons ?_ ?_
  · refine rs_set (i := 0) ?_ ?_ ?_ ?_ ?_ ?_
    · exact nd
    · exact (Or.inl lk__law_bad_shapes__law_some)
    · refine qe_add ?_ ?_
      · refine re_var 0 ?_ ?_ ?_
        · exact (Or.inl lk__law_bad_shapes__law_some)
        · exact dn__law_some
        exact rfl
      refine qe_lst ?_
      refine ra_s ?_
      refine ra_s ?_
      exact qa_nil
    · exact Or.inl rfl
    · exact rfl
    decide +kernel
  refine qss_cons ?_ ?_
  · refine rs_set (i := 0) ?_ ?_ ?_ ?_ ?_ ?_
    · exact nd
    · exact (Or.inl lk__law_bad_shapes__law_some)
    · refine qe_add ?_ ?_
      · refine re_var 0 ?_ ?_ ?_
        · exact (Or.inl lk__law_bad_shapes__law_some)
        · exact dn__law_some
        exact rfl
      refine qe_lst ?_
      refine ra_s ?_
      refine ra_s ?_
      exact qa_nil
    · exact Or.inl rfl
    · exact rfl
    decide +kernel
  refine qss_cons ?_ ?_
  · refine rs_set (i := 0) ?_ ?_ ?_ ?_ ?_ ?_
    · exact nd
    · exact (Or.inl lk__law_bad_shapes__law_some)
    · refine qe_add ?_ ?_
      · refine re_var 0 ?_ ?_ ?_
        · exact (Or.inl lk__law_bad_shapes__law_some)
        · exact dn__law_some
        exact rfl
      refine qe_lst ?_
      refine ra_s ?_
      refine ra_s ?_
      exact qa_nil
    · exact Or.inl rfl
    · exact rfl
    decide +kernel
  refine qss_cons ?_ ?_
  · refine rs_set (i := 0) ?_ ?_ ?_ ?_ ?_ ?_
    · exact nd
    · exact (Or.inl lk__law_bad_shapes__law_some)
    · refine qe_add ?_ ?_
      · refine re_var 0 ?_ ?_ ?_
        · exact (Or.inl lk__law_bad_shapes__law_some)
        · exact dn__law_some
        exact rfl
      refine qe_lst ?_
      refine ra_s ?_
      refine ra_s ?_
      refine ra_s ?_
      exact qa_nil
    · exact Or.inl rfl
    · exact rfl
    decide +kernel
  refine qss_cons ?_ ?_
  · refine rs_set (i := 0) ?_ ?_ ?_ ?_ ?_ ?_
    · exact nd
    · exact (Or.inl lk__law_bad_shapes__law_some)
    · refine qe_add ?_ ?_
      · refine re_var 0 ?_ ?_ ?_
        · exact (Or.inl lk__law_bad_shapes__law_some)
        · exact dn__law_some
        exact rfl
      refine qe_lst ?_
      refine ra_s ?_
      refine ra_s ?_
      exact qa_nil
    · exact Or.inl rfl
    · exact rfl
    decide +kernel
  refine qss_cons ?_ ?_
  · refine rs_set (i := 0) ?_ ?_ ?_ ?_ ?_ ?_
    · exact nd
    · exact (Or.inl lk__law_bad_shapes__law_some)
    · refine qe_add ?_ ?_
      · refine re_var 0 ?_ ?_ ?_
        · exact (Or.inl lk__law_bad_shapes__law_some)
        · exact dn__law_some
        exact rfl
      refine qe_lst ?_
      refine ra_s ?_
      refine ra_s ?_
      exact qa_nil
    · exact Or.inl rfl
    · exact rfl
    decide +kernel
  refine qss_cons ?_ ?_
  · refine rs_set (i := 0) ?_ ?_ ?_ ?_ ?_ ?_
    · exact nd
    · exact (Or.inl lk__law_bad_shapes__law_some)
    · refine qe_add ?_ ?_
      · refine re_var 0 ?_ ?_ ?_
        · exact (Or.inl lk__law_bad_shapes__law_some)
        · exact dn__law_some
        exact rfl
      refine qe_lst ?_
      refine ra_s ?_
      refine ra_s ?_
      exact qa_nil
    · exact Or.inl rfl
    · exact rfl
    decide +kernel
  refine qss_cons ?_ ?_
  · refine rs_set (i := 0) ?_ ?_ ?_ ?_ ?_ ?_
    · exact nd
    · exact (Or.inl lk__law_bad_shapes__law_some)
    · refine qe_add ?_ ?_
      · refine re_var 0 ?_ ?_ ?_
        · exact (Or.inl lk__law_bad_shapes__law_some)
        · exact dn__law_some
        exact rfl
      refine qe_lst ?_
      refine ra_s ?_
      refine ra_s ?_
      exact qa_nil
    · exact Or.inl rfl
    · exact rfl
    decide +kernel
  refine qss_cons ?_ ?_
  · refine rs_set (i := 0) ?_ ?_ ?_ ?_ ?_ ?_
    · exact nd
    · exact (Or.inl lk__law_bad_shapes__law_some)
    · refine qe_add ?_ ?_
      · refine re_var 0 ?_ ?_ ?_
        · exact (Or.inl lk__law_bad_shapes__law_some)
        · exact dn__law_some
        exact rfl
      refine qe_lst ?_
      refine ra_s ?_
      refine ra_s ?_
      exact qa_nil
    · exact Or.inl rfl
    · exact rfl
    decide +kernel
  refine qss_cons ?_ ?_
  · refine rs_set (i := 0) ?_ ?_ ?_ ?_ ?_ ?_
    · exact nd
    · exact (Or.inl lk__law_bad_shapes__law_some)
    · refine qe_add ?_ ?_
      · refine re_var 0 ?_ ?_ ?_
        · exact (Or.inl lk__law_bad_shapes__law_some)
        · exact dn__law_some
        exact rfl
      refine qe_lst ?_
      refine ra_s ?_
      refine ra_s ?_
      exact qa_nil
    · exact Or.inl rfl
    · exact rfl
    decide +kernel
  refine qss_one ?_
  refine qs_ret ?_
  refine re_comp (xs := ["_law_text_here"]) (ow := ownN) ?_ ?_ ?_ ?_ ?_ ?_ ?_ ?_ ?_
  · exact hx
  · exact hfr
  · exact S_cs__law_bad_shapes_0
  · exact own_name S_cs__law_bad_shapes_0
  · exact ownD_name
  · exact rfl
  · refine re_var 0 ?_ ?_ ?_
    · exact (Or.inl lk__law_bad_shapes__law_some)
    · exact dn__law_some
    exact rfl
  · refine compB_nil fun cl C pins s0 H0 fp E1 EE1 hx => ?_
    refine qe_lst ?_
    refine ra_i ?_
    refine ra_c ?_ ?_ ?_
    · refine re_var 0 ?_ ?_ ?_
      · exact (cv_loc S_cs__law_bad_shapes_0 (by simp))
      · exact dn__law_text_here
      exact rfl
    · decide +kernel
    exact qa_nil
  decide +kernel
theorem sc__law_bad_ways : FnScope N__law_bad_ways [] (defScope s__law_bad_ways) := ⟨rfl, rfl, rfl, by decide +kernel, rfl, by decide +kernel, by decide +kernel⟩
theorem ok__law_bad_ways (T : Txt K mg t) : FnOk P w K mg base (CX1 P w) 1 (t.f 25) (t.d 25) [] (spOf K mg 0 m__law_bad_ways) := by
  refine fnx (k := 0) (ms := b__law_bad_ways) T.F__law_bad_ways sc__law_bad_ways (by decide) (by decide) (fun _ => rfl) ?_
  intro X EE cdv A outer s H E hX hr hx hpo
  subst hX
  have hu := room200 hr
  have nd := sc__law_bad_ways.nd
  have hfr : HasFr (cxOf (CX1 P w) P w K mg base N__law_bad_ways "_law_bad_ways" (defScope s__law_bad_ways) (t.f 25) cdv A outer s H E) := ⟨_, outer, s.heap.objs.size, rfl, rfl, rfl⟩
  refine qss_cons ?_ ?_
  · refine rs_set (i := 0) ?_ ?_ ?_ ?_ ?_ ?_
    · exact nd
    · exact (Or.inl lk__law_bad_ways__law_some)
    · refine qe_lst ?_
      refine ra_s ?_
      refine ra_s ?_
      refine ra_s ?_
      refine ra_s ?_
      refine ra_s ?_
      refine ra_s ?_
      exact qa_nil
    · exact Or.inl rfl
    · exact rfl
    decide +kernel
  refine qss_cons ?_ ?_
  · refine rs_set (i := 0) ?_ ?_ ?_ ?_ ?_ ?_
    · exact nd
    · exact (Or.inl lk__law_bad_ways__law_some)
    · refine qe_add ?_ ?_
      · refine re_var 0 ?_ ?_ ?_
        · exact (Or.inl lk__law_bad_ways__law_some)
        · exact dn__law_some
        exact rfl
      refine qe_lst ?_
      refine ra_s ?_
      refine ra_s ?_
      refine ra_s ?_
      refine ra_s ?_
      exact qa_nil
    · exact Or.inl rfl
    · exact rfl
    decide +kernel
  refine qss_cons ?_ ?_
  · refine rs_set (i := 0) ?_ ?_ ?_ ?_ ?_ ?_
    · exact nd
    · exact (Or.inl lk__law_bad_ways__law_some)
    · refine qe_add ?_ ?_
      · refine re_var 0 ?_ ?_ ?_
        · exact (Or.inl lk__law_bad_ways__law_some)
        · exact dn__law_some
        exact rfl
      refine qe_lst ?_
      refine ra_s ?_
      refine ra_s ?_
      refine ra_s ?_
      exact qa_nil
    · exact Or.inl rfl
    · exact rfl
    decide +kernel
  refine qss_cons ?_ ?_
  · refine rs_set (i := 0) ?_ ?_ ?_ ?_ ?_ ?_
    · exact nd
    · exact (Or.inl lk__law_bad_ways__law_some)
    · refine qe_add ?_ ?_
      · refine re_var 0 ?_ ?_ ?_
        · exact (Or.inl lk__law_bad_ways__law_some)
        · exact dn__law_some
        exact rfl
      refine qe_lst ?_
      refine ra_s ?_
      refine ra_s ?_
      refine ra_s ?_
      exact qa_nil
    · exact Or.inl rfl
    · exact rfl
    decide +kernel
  refine qss_cons ?_ ?_
  · refine rs_set (i := 0) ?_ ?_ ?_ ?_ ?_ ?_
    · exact nd
    · exact (Or.inl lk__law_bad_ways__law_some)
    · refine qe_add ?_ ?_
      · refine re_var 0 ?_ ?_ ?_
        · exact (Or.inl lk__law_bad_ways__law_some)
        · exact dn__law_some
        exact rfl
      refine qe_lst ?_
      refine ra_s ?_
      refine ra_s ?_
      refine ra_s ?_
      exact qa_nil
    · exact Or.inl rfl
    · exact rfl
    decide +kernel
  refine qss_cons ?_ ?_
  · refine rs_set (i := 0) ?_ ?_ ?_ ?_ ?_ ?_
    · exact nd
    · exact (Or.inl lk__law_bad_ways__law_some)
    · refine qe_add ?_ ?_
      · refine re_var 0 ?_ ?_ ?_
        · exact (Or.inl lk__law_bad_ways__law_some)
        · exact dn__law_some
        exact rfl
      refine qe_lst ?_
      refine ra_s ?_
      refine ra_s ?_
      refine ra_s ?_
      exact qa_nil
    · exact Or.inl rfl
    · exact rfl
    decide +kernel
  refine qss_cons ?_ ?_
  · refine rs_set (i := 0) ?_ ?_ ?_ ?_ ?_ ?_
    · exact nd
    · exact (Or.inl lk__law_bad_ways__law_some)
    · refine qe_add ?_ ?_
      · refine re_var 0 ?_ ?_ ?_
        · exact (Or.inl lk__law_bad_ways__law_some)
        · exact dn__law_some
        exact rfl
      refine qe_lst ?_
      refine ra_s ?_
      refine ra_s ?_
      refine ra_s ?_
      refine ra_s ?_
      exact qa_nil
    · exact Or.inl rfl
    · exact rfl
    decide +kernel
  refine qss_cons ?_ ?_
  · refine rs_set (i := 0) ?_ ?_ ?_ ?_ ?_ ?_
    · exact nd
    · exact (Or.inl lk__law_bad_ways__law_some)
    · refine qe_add ?_ ?_
      · refine re_var 0 ?_ ?_ ?_
        · exact (Or.inl lk__law_bad_ways__law_some)
        · exact dn__law_some
        exact rfl
      refine qe_lst ?_
      refine ra_s ?_
      refine ra_s ?_
      refine ra_s ?_
      exact qa_nil
    · exact Or.inl rfl
    · exact rfl
    decide +kernel
  refine qss_cons ?_ ?_
  · refine rs_set (i := 0) ?_ ?_ ?_ ?_ ?_ ?_
    · exact nd
    · exact (Or.inl lk__law_bad_ways__law_some)
    · refine qe_add ?_ ?_
      · refine re_var 0 ?_ ?_ ?_
        · exact (Or.inl lk__law_bad_ways__law_some)
        · exact dn__law_some
        exact rfl
      refine qe_lst ?_
      refine ra_s ?_
      refine ra_s ?_
      refine ra_s ?_
      exact qa_nil
    · exact Or.inl rfl
    · exact rfl
    decide +kernel
  refine qss_cons ?_ ?_
  · refine rs_set (i := 0) ?_ ?_ ?_ ?_ ?_ ?_
    · exact nd
    · exact (Or.inl lk__law_bad_ways__law_some)
    · refine qe_add ?_ ?_
      · refine re_var 0 ?_ ?_ ?_
        · exact (Or.inl lk__law_bad_ways__law_some)
        · exact dn__law_some
        exact rfl
      refine qe_lst ?_
      refine ra_s ?_
      refine ra_s ?_
      refine ra_s ?_
      refine ra_s ?_
      exact qa_nil
    · exact Or.inl rfl
    · exact rfl
    decide +kernel
  refine qss_cons ?_ ?_
  · refine rs_set (i := 0) ?_ ?_ ?_ ?_ ?_ ?_
    · exact nd
    · exact (Or.inl lk__law_bad_ways__law_some)
    · refine qe_add ?_ ?_
      · refine re_var 0 ?_ ?_ ?_
        · exact (Or.inl lk__law_bad_ways__law_some)
        · exact dn__law_some
        exact rfl
      refine qe_lst ?_
      refine ra_s ?_
      refine ra_s ?_
      refine ra_s ?_
      exact qa_nil
    · exact Or.inl rfl
    · exact rfl
    decide +kernel
  refine qss_one ?_
  refine qs_ret ?_
  refine re_comp (xs := ["_law_text_here"]) (ow := ownN) ?_ ?_ ?_ ?_ ?_ ?_ ?_ ?_ ?_
  · exact hx
  · exact hfr
  · exact S_cs__law_bad_ways_0
  · exact own_name S_cs__law_bad_ways_0
  · exact ownD_name
  · exact rfl
  · refine re_var 0 ?_ ?_ ?_
    · exact (Or.inl lk__law_bad_ways__law_some)
    · exact dn__law_some
    exact rfl
  · refine compB_nil fun cl C pins s0 H0 fp E1 EE1 hx => ?_
    refine qe_lst ?_
    refine ra_i ?_
    refine ra_c ?_ ?_ ?_
    · refine re_var 0 ?_ ?_ ?_
      · exact (cv_loc S_cs__law_bad_ways_0 (by simp))
      · exact dn__law_text_here
      exact rfl
    · decide +kernel
    exact qa_nil
  decide +kernel
theorem sc__law_text : FnScope N__law_text ["_law_form", "_law_x", "_law_y", "_law_word"] (defScope s__law_text) := ⟨rfl, rfl, rfl, by decide +kernel, rfl, by decide +kernel, by decide +kernel⟩
theorem ok__law_text (T : Txt K mg t) : FnOk P w K mg base (CX1 P w) 1 (t.f 26) (t.d 26) ["_law_form", "_law_x", "_law_y", "_law_word"] (spOf K mg 4 m__law_text) := by
  refine fnx (k := 0) (ms := b__law_text) T.F__law_text sc__law_text (by decide) (by decide) (fun _ => rfl) ?_
  intro X EE cdv A outer s H E hX hr hx hpo
  subst hX
  have hu := room200 hr
  have nd := sc__law_text.nd
  have hfr : HasFr (cxOf (CX1 P w) P w K mg base N__law_text "_law_text" (defScope s__law_text) (t.f 26) cdv A outer s H E) := ⟨_, outer, s.heap.objs.size, rfl, rfl, rfl⟩
  refine qss_cons ?_ ?_
  · refine rs_set (i := 4) ?_ ?_ ?_ ?_ ?_ ?_
    · exact nd
    · exact (Or.inl lk__law_text__law_found)
    · refine qe_lst ?_
      exact qa_nil
    · exact Or.inl rfl
    · exact rfl
    decide +kernel
  refine qss_cons ?_ ?_
  · refine rs_for ?_ ?_ ?_ ?_ ?_ ?_
    · exact hpo
    · exact rfl
    · refine re_split ?_ ?_ ?_ ?_ ?_
      · refine re_var 0 ?_ ?_ ?_
        · exact (Or.inl lk__law_text__law_form)
        · exact dn__law_form
        exact rfl
      · refine ra_s ?_
        exact qa_nil
      · decide +kernel
      · decide +kernel
      exact rfl
    · refine rg_name (i := 5) ?_ ?_ ?_ ?_
      · exact nd
      · exact (Or.inl lk__law_text__law_one)
      · exact Or.inl rfl
      exact rfl
    · refine qss_cons ?_ ?_
      · refine qs_if ?_ ?_ ?_
        · refine rt_cmp ?_ ?_ ?_ ?_
          · exact (op_eqD hu)
          · refine re_var 5 ?_ ?_ ?_
            · exact (Or.inl lk__law_text__law_one)
            · exact dn__law_one
            exact rfl
          · exact qe_str
          decide +kernel
        · refine qss_one ?_
          refine rs_set (i := 5) ?_ ?_ ?_ ?_ ?_ ?_
          · exact nd
          · exact (Or.inl lk__law_text__law_one)
          · refine re_var 1 ?_ ?_ ?_
            · exact (Or.inl lk__law_text__law_x)
            · exact dn__law_x
            exact rfl
          · exact Or.inl rfl
          · exact rfl
          decide +kernel
        refine qss_one ?_
        refine qs_if ?_ ?_ ?_
        · refine rt_cmp ?_ ?_ ?_ ?_
          · exact (op_eqD hu)
          · refine re_var 5 ?_ ?_ ?_
            · exact (Or.inl lk__law_text__law_one)
            · exact dn__law_one
            exact rfl
          · exact qe_str
          decide +kernel
        · refine qss_one ?_
          refine rs_set (i := 5) ?_ ?_ ?_ ?_ ?_ ?_
          · exact nd
          · exact (Or.inl lk__law_text__law_one)
          · refine re_var 2 ?_ ?_ ?_
            · exact (Or.inl lk__law_text__law_y)
            · exact dn__law_y
            exact rfl
          · exact Or.inl rfl
          · exact rfl
          decide +kernel
        refine qss_one ?_
        refine qs_if ?_ ?_ ?_
        · refine rt_cmp ?_ ?_ ?_ ?_
          · exact (op_eqD hu)
          · refine re_var 5 ?_ ?_ ?_
            · exact (Or.inl lk__law_text__law_one)
            · exact dn__law_one
            exact rfl
          · exact qe_str
          decide +kernel
        · refine qss_one ?_
          refine rs_set (i := 5) ?_ ?_ ?_ ?_ ?_ ?_
          · exact nd
          · exact (Or.inl lk__law_text__law_one)
          · refine re_var 3 ?_ ?_ ?_
            · exact (Or.inl lk__law_text__law_word)
            · exact dn__law_word
            exact rfl
          · exact Or.inl rfl
          · exact rfl
          decide +kernel
        exact qss_nil
      refine qss_one ?_
      refine rs_expr ?_ ?_
      · refine re_append ?_ ?_ ?_ ?_ ?_
        · refine re_var 4 ?_ ?_ ?_
          · exact (Or.inl lk__law_text__law_found)
          · exact dn__law_found
          exact rfl
        · refine ra_c ?_ ?_ ?_
          · refine re_var 5 ?_ ?_ ?_
            · exact (Or.inl lk__law_text__law_one)
            · exact dn__law_one
            exact rfl
          · decide +kernel
          exact qa_nil
        · decide +kernel
        · decide +kernel
        exact rfl
      decide +kernel
    decide +kernel
  refine qss_one ?_
  refine qs_ret ?_
  refine re_join ?_ ?_ ?_ ?_ ?_
  · exact qe_str
  · refine ra_c ?_ ?_ ?_
    · refine re_var 4 ?_ ?_ ?_
      · exact (Or.inl lk__law_text__law_found)
      · exact dn__law_found
      exact rfl
    · decide +kernel
    exact qa_nil
  · decide +kernel
  · decide +kernel
  exact rfl
theorem sc_values_of : FnScope N_values_of ["parts", "sort"] (defScope s_values_of) := ⟨rfl, rfl, rfl, by decide +kernel, rfl, by decide +kernel, by decide +kernel⟩
theorem ok_values_of (T : Txt K mg t) (C_value_of : FnOk P w K mg base (CX1 P w) 1 (t.f 6) (t.d 6) ["part", "sort"] (spOf K mg 2 m_value_of)) : FnOk P w K mg base (CX1 P w) 2 (t.f 7) (t.d 7) ["parts", "sort"] (spOf K mg 2 m_values_of) := by
  refine fnx (k := 1) (ms := b_values_of) T.F_values_of sc_values_of (by decide) (by decide) (fun _ => rfl) ?_
  intro X EE cdv A outer s H E hX hr hx hpo
  subst hX
  have hu := room200 hr
  have nd := sc_values_of.nd
  have hfr : HasFr (cxOf (CX1 P w) P w K mg base N_values_of "values_of" (defScope s_values_of) (t.f 7) cdv A outer s H E) := ⟨_, outer, s.heap.objs.size, rfl, rfl, rfl⟩
  refine qss_one ?_
  refine qs_ret ?_
  refine re_tuple ?_ ?_ ?_ ?_
  · exact T.N_tuple
  · exact lk_values_of_tuple
  · refine ra_c ?_ ?_ ?_
    · refine re_comp (xs := ["part"]) (ow := ownN) ?_ ?_ ?_ ?_ ?_ ?_ ?_ ?_ ?_
      · exact hx
      · exact hfr
      · exact S_cs_values_of_0
      · exact own_name S_cs_values_of_0
      · exact ownD_name
      · exact rfl
      · refine re_var 0 ?_ ?_ ?_
        · exact (Or.inl lk_values_of_parts)
        · exact dn_parts
        exact rfl
      · refine compB_nil fun cl C pins s0 H0 fp E1 EE1 hx => ?_
        refine re_call (CX := CX1 P w) (k := kk_value_of) (f := (t.f 6)) (fd := (t.d 6)) (ps := ["part", "sort"]) ?_ ?_ ?_ ?_ ?_ ?_ ?_ ?_ ?_ ?_
        · exact C_value_of
        · exact hr.mono (by decide)
        · exact T.M_value_of
        · exact T.F_value_of.kp
        · exact T.B_value_of
        · exact lnk1 hx
        · exact (cv_glob lk_cs_values_of_0_value_of)
        · exact dn_value_of
        · refine ra_c ?_ ?_ ?_
          · refine re_var 0 ?_ ?_ ?_
            · exact (cv_loc S_cs_values_of_0 (by simp))
            · exact dn_part
            exact rfl
          · decide +kernel
          refine ra_c ?_ ?_ ?_
          · refine re_var 2 ?_ ?_ ?_
            · exact (cv_free S_cs_values_of_0 lk_cs_values_of_0_sort)
            · exact dn_sort
            exact rfl
          · decide +kernel
          exact qa_nil
        decide +kernel
      decide +kernel
    · decide +kernel
    exact qa_nil
  decide +kernel
theorem sc_name_of : FnScope N_name_of ["part"] (defScope s_name_of) := ⟨rfl, rfl, rfl, by decide +kernel, rfl, by decide +kernel, by decide +kernel⟩
theorem ok_name_of (T : Txt K mg t) (C_is_name : FnOk P w K mg base (CX1 P w) 1 (t.f 0) (t.d 0) ["text"] (spOf K mg 1 m_is_name)) : FnOk P w K mg base (CX1 P w) 2 (t.f 8) (t.d 8) ["part"] (spOf K mg 1 m_name_of) := by
  refine fnx (k := 1) (ms := b_name_of) T.F_name_of sc_name_of (by decide) (by decide) (fun _ => rfl) ?_
  intro X EE cdv A outer s H E hX hr hx hpo
  subst hX
  have hu := room200 hr
  have nd := sc_name_of.nd
  have hfr : HasFr (cxOf (CX1 P w) P w K mg base N_name_of "name_of" (defScope s_name_of) (t.f 8) cdv A outer s H E) := ⟨_, outer, s.heap.objs.size, rfl, rfl, rfl⟩
  refine qss_cons ?_ ?_
  · refine qs_if ?_ ?_ ?_
    · refine rt_tru ?_ ?_
      · refine re_call (CX := CX1 P w) (k := kk_is_name) (f := (t.f 0)) (fd := (t.d 0)) (ps := ["text"]) ?_ ?_ ?_ ?_ ?_ ?_ ?_ ?_ ?_ ?_
        · exact C_is_name
        · exact hr.mono (by decide)
        · exact T.M_is_name
        · exact T.F_is_name.kp
        · exact T.B_is_name
        · exact lnk1 hx
        · exact lk_name_of_is_name
        · exact dn_is_name
        · refine ra_c ?_ ?_ ?_
          · refine re_var 0 ?_ ?_ ?_
            · exact (Or.inl lk_name_of_part)
            · exact dn_part
            exact rfl
          · decide +kernel
          exact qa_nil
        decide +kernel
      decide +kernel
    · refine qss_one ?_
      refine qs_ret ?_
      refine re_var 0 ?_ ?_ ?_
      · exact (Or.inl lk_name_of_part)
      · exact dn_part
      exact rfl
    exact qss_nil
  refine qss_one ?_
  refine rs_raise (C := (t.c 0)) ?_ ?_ ?_ ?_ ?_ ?_ ?_ ?_
  · exact rfl
  · exact hx
  · exact T.M_NoText
  · exact T.E_NoText
  · exact lk_name_of_NoText
  · exact dn_NoText
  · refine ra_s ?_
    exact qa_nil
  decide +kernel
theorem sc_high_of : FnScope N_high_of ["part", "low"] (defScope s_high_of) := ⟨rfl, rfl, rfl, by decide +kernel, rfl, by decide +kernel, by decide +kernel⟩
theorem ok_high_of (T : Txt K mg t) (C_count_of : FnOk P w K mg base (CX1 P w) 1 (t.f 14) (t.d 14) ["part"] (spOf K mg 1 m_count_of)) : FnOk P w K mg base (CX1 P w) 2 (t.f 15) (t.d 15) ["part", "low"] (spOf K mg 2 m_high_of) := by
  refine fnx (k := 1) (ms := b_high_of) T.F_high_of sc_high_of (by decide) (by decide) (fun _ => rfl) ?_
  intro X EE cdv A outer s H E hX hr hx hpo
  subst hX
  have hu := room200 hr
  have nd := sc_high_of.nd
  have hfr : HasFr (cxOf (CX1 P w) P w K mg base N_high_of "high_of" (defScope s_high_of) (t.f 15) cdv A outer s H E) := ⟨_, outer, s.heap.objs.size, rfl, rfl, rfl⟩
  refine qss_cons ?_ ?_
  · refine qs_if ?_ ?_ ?_
    · refine rt_cmp ?_ ?_ ?_ ?_
      · exact (op_eqD hu)
      · refine re_var 0 ?_ ?_ ?_
        · exact (Or.inl lk_high_of_part)
        · exact dn_part
        exact rfl
      · exact qe_str
      decide +kernel
    · refine qss_one ?_
      refine qs_ret ?_
      exact qe_non
    exact qss_nil
  refine qss_cons ?_ ?_
  · refine rs_set (i := 2) ?_ ?_ ?_ ?_ ?_ ?_
    · exact nd
    · exact (Or.inl lk_high_of_high)
    · refine re_call (CX := CX1 P w) (k := kk_count_of) (f := (t.f 14)) (fd := (t.d 14)) (ps := ["part"]) ?_ ?_ ?_ ?_ ?_ ?_ ?_ ?_ ?_ ?_
      · exact C_count_of
      · exact hr.mono (by decide)
      · exact T.M_count_of
      · exact T.F_count_of.kp
      · exact T.B_count_of
      · exact lnk1 hx
      · exact lk_high_of_count_of
      · exact dn_count_of
      · refine ra_c ?_ ?_ ?_
        · refine re_var 0 ?_ ?_ ?_
          · exact (Or.inl lk_high_of_part)
          · exact dn_part
          exact rfl
        · decide +kernel
        exact qa_nil
      decide +kernel
    · exact Or.inl rfl
    · exact rfl
    decide +kernel
  refine qss_cons ?_ ?_
  · refine qs_if ?_ ?_ ?_
    · refine rt_cmp ?_ ?_ ?_ ?_
      · exact op_ltD
      · refine re_var 2 ?_ ?_ ?_
        · exact (Or.inl lk_high_of_high)
        · exact dn_high
        exact rfl
      · refine re_var 1 ?_ ?_ ?_
        · exact (Or.inl lk_high_of_low)
        · exact dn_low
        exact rfl
      decide +kernel
    · refine qss_one ?_
      refine rs_raise (C := (t.c 0)) ?_ ?_ ?_ ?_ ?_ ?_ ?_ ?_
      · exact rfl
      · exact hx
      · exact T.M_NoText
      · exact T.E_NoText
      · exact lk_high_of_NoText
      · exact dn_NoText
      · refine ra_s ?_
        exact qa_nil
      decide +kernel
    exact qss_nil
  refine qss_one ?_
  refine qs_ret ?_
  refine re_var 2 ?_ ?_ ?_
  · exact (Or.inl lk_high_of_high)
  · exact dn_high
  exact rfl
theorem sc_look_of : FnScope N_look_of ["part"] (defScope s_look_of) := ⟨rfl, rfl, rfl, by decide +kernel, rfl, by decide +kernel, by decide +kernel⟩
theorem ok_look_of (T : Txt K mg t) (C_value_of : FnOk P w K mg base (CX1 P w) 1 (t.f 6) (t.d 6) ["part", "sort"] (spOf K mg 2 m_value_of)) : FnOk P w K mg base (CX1 P w) 2 (t.f 19) (t.d 19) ["part"] (spOf K mg 1 m_look_of) := by
  refine fnx (k := 1) (ms := b_look_of) T.F_look_of sc_look_of (by decide) (by decide) (fun _ => rfl) ?_
  intro X EE cdv A outer s H E hX hr hx hpo
  subst hX
  have hu := room200 hr
  have nd := sc_look_of.nd
  have hfr : HasFr (cxOf (CX1 P w) P w K mg base N_look_of "look_of" (defScope s_look_of) (t.f 19) cdv A outer s H E) := ⟨_, outer, s.heap.objs.size, rfl, rfl, rfl⟩
  refine qss_cons ?_ ?_
  · refine qs_if ?_ ?_ ?_
    · refine rt_cmp ?_ ?_ ?_ ?_
      · exact (op_eqD hu)
      · refine re_var 0 ?_ ?_ ?_
        · exact (Or.inl lk_look_of_part)
        · exact dn_part
        exact rfl
      · exact qe_str
      decide +kernel
    · refine qss_one ?_
      refine qs_ret ?_
      refine qe_tup ?_
      refine ra_s ?_
      exact qa_nil
    exact qss_nil
  refine qss_cons ?_ ?_
  · refine qs_if ?_ ?_ ?_
    · refine qt_w ?_
      refine qw_and ?_ ?_
      · refine rt_tru ?_ ?_
        · refine re_isi .tup ?_ ?_ ?_ ?_ ?_ ?_ ?_ ?_ ?_ ?_
          · decide
          · exact T.N_isinstance
          · exact T.N_tuple
          · exact lk_look_of_isinstance
          · exact lk_look_of_tuple
          · refine re_var 0 ?_ ?_ ?_
            · exact (Or.inl lk_look_of_part)
            · exact dn_part
            exact rfl
          · exact bt_tuple
          · exact nn_tuple
          · exact dn_tuple.1
          decide +kernel
        decide +kernel
      refine qw_and1 ?_
      refine rt_cmp ?_ ?_ ?_ ?_
      · exact (op_eqD hu)
      · refine re_index ?_ ?_ ?_
        · refine re_var 0 ?_ ?_ ?_
          · exact (Or.inl lk_look_of_part)
          · exact dn_part
          exact rfl
        · exact qe_int
        decide +kernel
      · exact qe_str
      decide +kernel
    · refine qss_one ?_
      refine qs_ret ?_
      refine qe_tup ?_
      refine ra_s ?_
      refine ra_c ?_ ?_ ?_
      · refine re_index ?_ ?_ ?_
        · refine re_var 0 ?_ ?_ ?_
          · exact (Or.inl lk_look_of_part)
          · exact dn_part
          exact rfl
        · exact qe_int
        decide +kernel
      · decide +kernel
      exact qa_nil
    exact qss_nil
  refine qss_one ?_
  refine qs_ret ?_
  refine re_call (CX := CX1 P w) (k := kk_value_of) (f := (t.f 6)) (fd := (t.d 6)) (ps := ["part", "sort"]) ?_ ?_ ?_ ?_ ?_ ?_ ?_ ?_ ?_ ?_
  · exact C_value_of
  · exact hr.mono (by decide)
  · exact T.M_value_of
  · exact T.F_value_of.kp
  · exact T.B_value_of
  · exact lnk1 hx
  · exact lk_look_of_value_of
  · exact dn_value_of
  · refine ra_c ?_ ?_ ?_
    · refine re_var 0 ?_ ?_ ?_
      · exact (Or.inl lk_look_of_part)
      · exact dn_part
      exact rfl
    · decide +kernel
    refine ra_s ?_
    exact qa_nil
  decide +kernel
theorem sc_make_tree : FnScope N_make_tree ["parts"] (defScope s_make_tree) := ⟨rfl, rfl, rfl, by decide +kernel, rfl, by decide +kernel, by decide +kernel⟩
theorem ok_make_tree (T : Txt K mg t) (C_values_of : FnOk P w K mg base (CX1 P w) 2 (t.f 7) (t.d 7) ["parts", "sort"] (spOf K mg 2 m_values_of)) (C_name_of : FnOk P w K mg base (CX1 P w) 2 (t.f 8) (t.d 8) ["part"] (spOf K mg 1 m_name_of)) : FnOk P w K mg base (CX1 P w) 3 (t.f 9) (t.d 9) ["parts"] (spOf K mg 1 m_make_tree) := by
  refine fnx (k := 2) (ms := b_make_tree) T.F_make_tree sc_make_tree (by decide) (by decide) (fun _ => rfl) ?_
  intro X EE cdv A outer s H E hX hr hx hpo
  subst hX
  have hu := room200 hr
  have nd := sc_make_tree.nd
  have hfr : HasFr (cxOf (CX1 P w) P w K mg base N_make_tree "make_tree" (defScope s_make_tree) (t.f 9) cdv A outer s H E) := ⟨_, outer, s.heap.objs.size, rfl, rfl, rfl⟩
  refine qss_cons ?_ ?_
  · refine qs_if ?_ ?_ ?_
    · refine rt_cmp ?_ ?_ ?_ ?_
      · exact (op_eqD hu)
      · refine re_len ?_ ?_ ?_ ?_
        · exact T.N_len
        · exact lk_make_tree_len
        · refine ra_c ?_ ?_ ?_
          · refine re_var 0 ?_ ?_ ?_
            · exact (Or.inl lk_make_tree_parts)
            · exact dn_parts
            exact rfl
          · decide +kernel
          exact qa_nil
        decide +kernel
      · exact qe_int
      decide +kernel
    · refine qss_one ?_
      refine rs_raise (C := (t.c 0)) ?_ ?_ ?_ ?_ ?_ ?_ ?_ ?_
      · exact rfl
      · exact hx
      · exact T.M_NoText
      · exact T.E_NoText
      · exact lk_make_tree_NoText
      · exact dn_NoText
      · refine ra_s ?_
        exact qa_nil
      decide +kernel
    exact qss_nil
  refine qss_one ?_
  refine qs_ret ?_
  refine qe_tup ?_
  refine ra_s ?_
  refine ra_c ?_ ?_ ?_
  · refine qe_tup ?_
    refine ra_c ?_ ?_ ?_
    · refine re_call (CX := CX1 P w) (k := kk_name_of) (f := (t.f 8)) (fd := (t.d 8)) (ps := ["part"]) ?_ ?_ ?_ ?_ ?_ ?_ ?_ ?_ ?_ ?_
      · exact C_name_of
      · exact hr.mono (by decide)
      · exact T.M_name_of
      · exact T.F_name_of.kp
      · exact T.B_name_of
      · exact lnk1 hx
      · exact lk_make_tree_name_of
      · exact dn_name_of
      · refine ra_c ?_ ?_ ?_
        · refine re_index ?_ ?_ ?_
          · refine re_var 0 ?_ ?_ ?_
            · exact (Or.inl lk_make_tree_parts)
            · exact dn_parts
            exact rfl
          · exact qe_int
          decide +kernel
        · decide +kernel
        exact qa_nil
      decide +kernel
    · decide +kernel
    refine ra_c ?_ ?_ ?_
    · refine re_call (CX := CX1 P w) (k := kk_values_of) (f := (t.f 7)) (fd := (t.d 7)) (ps := ["parts", "sort"]) ?_ ?_ ?_ ?_ ?_ ?_ ?_ ?_ ?_ ?_
      · exact C_values_of
      · exact hr.mono (by decide)
      · exact T.M_values_of
      · exact T.F_values_of.kp
      · exact T.B_values_of
      · exact lnk1 hx
      · exact lk_make_tree_values_of
      · exact dn_values_of
      · refine ra_c ?_ ?_ ?_
        · refine qe_slice ?_ ?_ ?_
          · refine re_var 0 ?_ ?_ ?_
            · exact (Or.inl lk_make_tree_parts)
            · exact dn_parts
            exact rfl
          · refine qo_some ?_
            exact qe_int
          exact qo_none
        · decide +kernel
        refine ra_s ?_
        exact qa_nil
      decide +kernel
    · decide +kernel
    exact qa_nil
  · decide +kernel
  exact qa_nil
theorem sc_shape_value : FnScope N_shape_value ["parts"] (defScope s_shape_value) := ⟨rfl, rfl, rfl, by decide +kernel, rfl, by decide +kernel, by decide +kernel⟩
theorem ok_shape_value (T : Txt K mg t) (C_values_of : FnOk P w K mg base (CX1 P w) 2 (t.f 7) (t.d 7) ["parts", "sort"] (spOf K mg 2 m_values_of)) (C_name_of : FnOk P w K mg base (CX1 P w) 2 (t.f 8) (t.d 8) ["part"] (spOf K mg 1 m_name_of)) : FnOk P w K mg base (CX1 P w) 3 (t.f 11) (t.d 11) ["parts"] (spOf K mg 1 m_shape_value) := by
  refine fnx (k := 2) (ms := b_shape_value) T.F_shape_value sc_shape_value (by decide) (by decide) (fun _ => rfl) ?_
  intro X EE cdv A outer s H E hX hr hx hpo
  subst hX
  have hu := room200 hr
  have nd := sc_shape_value.nd
  have hfr : HasFr (cxOf (CX1 P w) P w K mg base N_shape_value "shape_value" (defScope s_shape_value) (t.f 11) cdv A outer s H E) := ⟨_, outer, s.heap.objs.size, rfl, rfl, rfl⟩
  refine qss_cons ?_ ?_
  · refine qs_if ?_ ?_ ?_
    · refine rt_cmp ?_ ?_ ?_ ?_
      · exact op_ltD
      · refine re_len ?_ ?_ ?_ ?_
        · exact T.N_len
        · exact lk_shape_value_len
        · refine ra_c ?_ ?_ ?_
          · refine re_var 0 ?_ ?_ ?_
            · exact (Or.inl lk_shape_value_parts)
            · exact dn_parts
            exact rfl
          · decide +kernel
          exact qa_nil
        decide +kernel
      · exact qe_int
      decide +kernel
    · refine qss_one ?_
      refine rs_raise (C := (t.c 0)) ?_ ?_ ?_ ?_ ?_ ?_ ?_ ?_
      · exact rfl
      · exact hx
      · exact T.M_NoText
      · exact T.E_NoText
      · exact lk_shape_value_NoText
      · exact dn_NoText
      · refine ra_s ?_
        exact qa_nil
      decide +kernel
    exact qss_nil
  refine qss_one ?_
  refine qs_ret ?_
  refine qe_tup ?_
  refine ra_c ?_ ?_ ?_
  · refine re_call (CX := CX1 P w) (k := kk_name_of) (f := (t.f 8)) (fd := (t.d 8)) (ps := ["part"]) ?_ ?_ ?_ ?_ ?_ ?_ ?_ ?_ ?_ ?_
    · exact C_name_of
    · exact hr.mono (by decide)
    · exact T.M_name_of
    · exact T.F_name_of.kp
    · exact T.B_name_of
    · exact lnk1 hx
    · exact lk_shape_value_name_of
    · exact dn_name_of
    · refine ra_c ?_ ?_ ?_
      · refine re_index ?_ ?_ ?_
        · refine re_var 0 ?_ ?_ ?_
          · exact (Or.inl lk_shape_value_parts)
          · exact dn_parts
          exact rfl
        · exact qe_int
        decide +kernel
      · decide +kernel
      exact qa_nil
    decide +kernel
  · decide +kernel
  refine ra_c ?_ ?_ ?_
  · refine re_call (CX := CX1 P w) (k := kk_values_of) (f := (t.f 7)) (fd := (t.d 7)) (ps := ["parts", "sort"]) ?_ ?_ ?_ ?_ ?_ ?_ ?_ ?_ ?_ ?_
    · exact C_values_of
    · exact hr.mono (by decide)
    · exact T.M_values_of
    · exact T.F_values_of.kp
    · exact T.B_values_of
    · exact lnk1 hx
    · exact lk_shape_value_values_of
    · exact dn_values_of
    · refine ra_c ?_ ?_ ?_
      · refine qe_slice ?_ ?_ ?_
        · refine re_var 0 ?_ ?_ ?_
          · exact (Or.inl lk_shape_value_parts)
          · exact dn_parts
          exact rfl
        · refine qo_some ?_
          exact qe_int
        exact qo_none
      · decide +kernel
      refine ra_s ?_
      exact qa_nil
    decide +kernel
  · decide +kernel
  exact qa_nil
theorem sc_rule_value : FnScope N_rule_value ["parts"] (defScope s_rule_value) := ⟨rfl, rfl, rfl, by decide +kernel, rfl, by decide +kernel, by decide +kernel⟩
theorem ok_rule_value (T : Txt K mg t) (C_values_of : FnOk P w K mg base (CX1 P w) 2 (t.f 7) (t.d 7) ["parts", "sort"] (spOf K mg 2 m_values_of)) (C_name_of : FnOk P w K mg base (CX1 P w) 2 (t.f 8) (t.d 8) ["part"] (spOf K mg 1 m_name_of)) : FnOk P w K mg base (CX1 P w) 3 (t.f 12) (t.d 12) ["parts"] (spOf K mg 1 m_rule_value) := by
  refine fnx (k := 2) (ms := b_rule_value) T.F_rule_value sc_rule_value (by decide) (by decide) (fun _ => rfl) ?_
  intro X EE cdv A outer s H E hX hr hx hpo
  subst hX
  have hu := room200 hr
  have nd := sc_rule_value.nd
  have hfr : HasFr (cxOf (CX1 P w) P w K mg base N_rule_value "rule_value" (defScope s_rule_value) (t.f 12) cdv A outer s H E) := ⟨_, outer, s.heap.objs.size, rfl, rfl, rfl⟩
  refine qss_cons ?_ ?_
  · refine qs_if ?_ ?_ ?_
    · refine qt_w ?_
      refine qw_or ?_ ?_
      · refine rt_cmp ?_ ?_ ?_ ?_
        · exact op_ltD
        · refine re_len ?_ ?_ ?_ ?_
          · exact T.N_len
          · exact lk_rule_value_len
          · refine ra_c ?_ ?_ ?_
            · refine re_var 0 ?_ ?_ ?_
              · exact (Or.inl lk_rule_value_parts)
              · exact dn_parts
              exact rfl
            · decide +kernel
            exact qa_nil
          decide +kernel
        · exact qe_int
        decide +kernel
      refine qw_or1 ?_
      refine rt_cmp ?_ ?_ ?_ ?_
      · exact (op_notInD hu)
      · refine re_index ?_ ?_ ?_
        · refine re_var 0 ?_ ?_ ?_
          · exact (Or.inl lk_rule_value_parts)
          · exact dn_parts
          exact rfl
        · exact qe_int
        decide +kernel
      · refine re_glob ?_ ?_ ?_
        · exact T.G_ORDERS
        · exact lk_rule_value_ORDERS
        exact dn_ORDERS
      decide +kernel
    · refine qss_one ?_
      refine rs_raise (C := (t.c 0)) ?_ ?_ ?_ ?_ ?_ ?_ ?_ ?_
      · exact rfl
      · exact hx
      · exact T.M_NoText
      · exact T.E_NoText
      · exact lk_rule_value_NoText
      · exact dn_NoText
      · refine ra_s ?_
        exact qa_nil
      decide +kernel
    exact qss_nil
  refine qss_one ?_
  refine qs_ret ?_
  refine qe_tup ?_
  refine ra_c ?_ ?_ ?_
  · refine re_call (CX := CX1 P w) (k := kk_name_of) (f := (t.f 8)) (fd := (t.d 8)) (ps := ["part"]) ?_ ?_ ?_ ?_ ?_ ?_ ?_ ?_ ?_ ?_
    · exact C_name_of
    · exact hr.mono (by decide)
    · exact T.M_name_of
    · exact T.F_name_of.kp
    · exact T.B_name_of
    · exact lnk1 hx
    · exact lk_rule_value_name_of
    · exact dn_name_of
    · refine ra_c ?_ ?_ ?_
      · refine re_index ?_ ?_ ?_
        · refine re_var 0 ?_ ?_ ?_
          · exact (Or.inl lk_rule_value_parts)
          · exact dn_parts
          exact rfl
        · exact qe_int
        decide +kernel
      · decide +kernel
      exact qa_nil
    decide +kernel
  · decide +kernel
  refine ra_c ?_ ?_ ?_
  · refine re_call (CX := CX1 P w) (k := kk_name_of) (f := (t.f 8)) (fd := (t.d 8)) (ps := ["part"]) ?_ ?_ ?_ ?_ ?_ ?_ ?_ ?_ ?_ ?_
    · exact C_name_of
    · exact hr.mono (by decide)
    · exact T.M_name_of
    · exact T.F_name_of.kp
    · exact T.B_name_of
    · exact lnk1 hx
    · exact lk_rule_value_name_of
    · exact dn_name_of
    · refine ra_c ?_ ?_ ?_
      · refine re_index ?_ ?_ ?_
        · refine re_var 0 ?_ ?_ ?_
          · exact (Or.inl lk_rule_value_parts)
          · exact dn_parts
          exact rfl
        · exact qe_int
        decide +kernel
      · decide +kernel
      exact qa_nil
    decide +kernel
  · decide +kernel
  refine ra_c ?_ ?_ ?_
  · refine re_index ?_ ?_ ?_
    · refine re_var 0 ?_ ?_ ?_
      · exact (Or.inl lk_rule_value_parts)
      · exact dn_parts
      exact rfl
    · exact qe_int
    decide +kernel
  · decide +kernel
  refine ra_c ?_ ?_ ?_
  · refine re_call (CX := CX1 P w) (k := kk_values_of) (f := (t.f 7)) (fd := (t.d 7)) (ps := ["parts", "sort"]) ?_ ?_ ?_ ?_ ?_ ?_ ?_ ?_ ?_ ?_
    · exact C_values_of
    · exact hr.mono (by decide)
    · exact T.M_values_of
    · exact T.F_values_of.kp
    · exact T.B_values_of
    · exact lnk1 hx
    · exact lk_rule_value_values_of
    · exact dn_values_of
    · refine ra_c ?_ ?_ ?_
      · refine qe_slice ?_ ?_ ?_
        · refine re_var 0 ?_ ?_ ?_
          · exact (Or.inl lk_rule_value_parts)
          · exact dn_parts
          exact rfl
        · refine qo_some ?_
          exact qe_int
        exact qo_none
      · decide +kernel
      refine ra_s ?_
      exact qa_nil
    decide +kernel
  · decide +kernel
  exact qa_nil
theorem sc_item_value : FnScope N_item_value ["parts"] (defScope s_item_value) := ⟨rfl, rfl, rfl, by decide +kernel, rfl, by decide +kernel, by decide +kernel⟩
theorem ok_item_value (T : Txt K mg t) (C_name_of : FnOk P w K mg base (CX1 P w) 2 (t.f 8) (t.d 8) ["part"] (spOf K mg 1 m_name_of)) (C_count_of : FnOk P w K mg base (CX1 P w) 1 (t.f 14) (t.d 14) ["part"] (spOf K mg 1 m_count_of)) (C_high_of : FnOk P w K mg base (CX1 P w) 2 (t.f 15) (t.d 15) ["part", "low"] (spOf K mg 2 m_high_of)) : FnOk P w K mg base (CX1 P w) 3 (t.f 13) (t.d 13) ["parts"] (spOf K mg 1 m_item_value) := by
  refine fnx (k := 2) (ms := b_item_value) T.F_item_value sc_item_value (by decide) (by decide) (fun _ => rfl) ?_
  intro X EE cdv A outer s H E hX hr hx hpo
  subst hX
  have hu := room200 hr
  have nd := sc_item_value.nd
  have hfr : HasFr (cxOf (CX1 P w) P w K mg base N_item_value "item_value" (defScope s_item_value) (t.f 13) cdv A outer s H E) := ⟨_, outer, s.heap.objs.size, rfl, rfl, rfl⟩
  refine qss_cons ?_ ?_
  · refine qs_if ?_ ?_ ?_
    · refine rt_cmp ?_ ?_ ?_ ?_
      · exact (op_neD hu)
      · refine re_len ?_ ?_ ?_ ?_
        · exact T.N_len
        · exact lk_item_value_len
        · refine ra_c ?_ ?_ ?_
          · refine re_var 0 ?_ ?_ ?_
            · exact (Or.inl lk_item_value_parts)
            · exact dn_parts
            exact rfl
          · decide +kernel
          exact qa_nil
        decide +kernel
      · exact qe_int
      decide +kernel
    · refine qss_one ?_
      refine rs_raise (C := (t.c 0)) ?_ ?_ ?_ ?_ ?_ ?_ ?_ ?_
      · exact rfl
      · exact hx
      · exact T.M_NoText
      · exact T.E_NoText
      · exact lk_item_value_NoText
      · exact dn_NoText
      · refine ra_s ?_
        exact qa_nil
      decide +kernel
    exact qss_nil
  refine qss_cons ?_ ?_
  · refine rs_set (i := 1) ?_ ?_ ?_ ?_ ?_ ?_
    · exact nd
    · exact (Or.inl lk_item_value_low)
    · refine re_call (CX := CX1 P w) (k := kk_count_of) (f := (t.f 14)) (fd := (t.d 14)) (ps := ["part"]) ?_ ?_ ?_ ?_ ?_ ?_ ?_ ?_ ?_ ?_
      · exact C_count_of
      · exact hr.mono (by decide)
      · exact T.M_count_of
      · exact T.F_count_of.kp
      · exact T.B_count_of
      · exact lnk1 hx
      · exact lk_item_value_count_of
      · exact dn_count_of
      · refine ra_c ?_ ?_ ?_
        · refine re_index ?_ ?_ ?_
          · refine re_var 0 ?_ ?_ ?_
            · exact (Or.inl lk_item_value_parts)
            · exact dn_parts
            exact rfl
          · exact qe_int
          decide +kernel
        · decide +kernel
        exact qa_nil
      decide +kernel
    · exact Or.inl rfl
    · exact rfl
    decide +kernel
  refine qss_one ?_
  refine qs_ret ?_
  refine qe_tup ?_
  refine ra_c ?_ ?_ ?_
  · refine re_call (CX := CX1 P w) (k := kk_name_of) (f := (t.f 8)) (fd := (t.d 8)) (ps := ["part"]) ?_ ?_ ?_ ?_ ?_ ?_ ?_ ?_ ?_ ?_
    · exact C_name_of
    · exact hr.mono (by decide)
    · exact T.M_name_of
    · exact T.F_name_of.kp
    · exact T.B_name_of
    · exact lnk1 hx
    · exact lk_item_value_name_of
    · exact dn_name_of
    · refine ra_c ?_ ?_ ?_
      · refine re_index ?_ ?_ ?_
        · refine re_var 0 ?_ ?_ ?_
          · exact (Or.inl lk_item_value_parts)
          · exact dn_parts
          exact rfl
        · exact qe_int
        decide +kernel
      · decide +kernel
      exact qa_nil
    decide +kernel
  · decide +kernel
  refine ra_c ?_ ?_ ?_
  · refine re_var 1 ?_ ?_ ?_
    · exact (Or.inl lk_item_value_low)
    · exact dn_low
    exact rfl
  · decide +kernel
  refine ra_c ?_ ?_ ?_
  · refine re_call (CX := CX1 P w) (k := kk_high_of) (f := (t.f 15)) (fd := (t.d 15)) (ps := ["part", "low"]) ?_ ?_ ?_ ?_ ?_ ?_ ?_ ?_ ?_ ?_
    · exact C_high_of
    · exact hr.mono (by decide)
    · exact T.M_high_of
    · exact T.F_high_of.kp
    · exact T.B_high_of
    · exact lnk1 hx
    · exact lk_item_value_high_of
    · exact dn_high_of
    · refine ra_c ?_ ?_ ?_
      · refine re_index ?_ ?_ ?_
        · refine re_var 0 ?_ ?_ ?_
          · exact (Or.inl lk_item_value_parts)
          · exact dn_parts
          exact rfl
        · exact qe_int
        decide +kernel
      · decide +kernel
      refine ra_c ?_ ?_ ?_
      · refine re_var 1 ?_ ?_ ?_
        · exact (Or.inl lk_item_value_low)
        · exact dn_low
        exact rfl
      · decide +kernel
      exact qa_nil
    decide +kernel
  · decide +kernel
  exact qa_nil
theorem sc_way_value : FnScope N_way_value ["parts"] (defScope s_way_value) := ⟨rfl, rfl, rfl, by decide +kernel, rfl, by decide +kernel, by decide +kernel⟩
theorem ok_way_value (T : Txt K mg t) (C_values_of : FnOk P w K mg base (CX1 P w) 2 (t.f 7) (t.d 7) ["parts", "sort"] (spOf K mg 2 m_values_of)) : FnOk P w K mg base (CX1 P w) 3 (t.f 17) (t.d 17) ["parts"] (spOf K mg 1 m_way_value) := by
  refine fnx (k := 2) (ms := b_way_value) T.F_way_value sc_way_value (by decide) (by decide) (fun _ => rfl) ?_
  intro X EE cdv A outer s H E hX hr hx hpo
  subst hX
  have hu := room200 hr
  have nd := sc_way_value.nd
  have hfr : HasFr (cxOf (CX1 P w) P w K mg base N_way_value "way_value" (defScope s_way_value) (t.f 17) cdv A outer s H E) := ⟨_, outer, s.heap.objs.size, rfl, rfl, rfl⟩
  refine qss_cons ?_ ?_
  · refine qs_if ?_ ?_ ?_
    · refine rt_cmp ?_ ?_ ?_ ?_
      · exact op_ltD
      · refine re_len ?_ ?_ ?_ ?_
        · exact T.N_len
        · exact lk_way_value_len
        · refine ra_c ?_ ?_ ?_
          · refine re_var 0 ?_ ?_ ?_
            · exact (Or.inl lk_way_value_parts)
            · exact dn_parts
            exact rfl
          · decide +kernel
          exact qa_nil
        decide +kernel
      · exact qe_int
      decide +kernel
    · refine qss_one ?_
      refine rs_raise (C := (t.c 0)) ?_ ?_ ?_ ?_ ?_ ?_ ?_ ?_
      · exact rfl
      · exact hx
      · exact T.M_NoText
      · exact T.E_NoText
      · exact lk_way_value_NoText
      · exact dn_NoText
      · refine ra_s ?_
        exact qa_nil
      decide +kernel
    exact qss_nil
  refine qss_one ?_
  refine qs_ret ?_
  refine re_call (CX := CX1 P w) (k := kk_values_of) (f := (t.f 7)) (fd := (t.d 7)) (ps := ["parts", "sort"]) ?_ ?_ ?_ ?_ ?_ ?_ ?_ ?_ ?_ ?_
  · exact C_values_of
  · exact hr.mono (by decide)
  · exact T.M_values_of
  · exact T.F_values_of.kp
  · exact T.B_values_of
  · exact lnk1 hx
  · exact lk_way_value_values_of
  · exact dn_values_of
  · refine ra_c ?_ ?_ ?_
    · refine qe_slice ?_ ?_ ?_
      · refine re_var 0 ?_ ?_ ?_
        · exact (Or.inl lk_way_value_parts)
        · exact dn_parts
        exact rfl
      · refine qo_some ?_
        exact qe_int
      exact qo_none
    · decide +kernel
    refine ra_s ?_
    exact qa_nil
  decide +kernel
theorem sc_look_value : FnScope N_look_value ["parts"] (defScope s_look_value) := ⟨rfl, rfl, rfl, by decide +kernel, rfl, by decide +kernel, by decide +kernel⟩
theorem ok_look_value (T : Txt K mg t) (C_name_of : FnOk P w K mg base (CX1 P w) 2 (t.f 8) (t.d 8) ["part"] (spOf K mg 1 m_name_of)) (C_look_of : FnOk P w K mg base (CX1 P w) 2 (t.f 19) (t.d 19) ["part"] (spOf K mg 1 m_look_of)) : FnOk P w K mg base (CX1 P w) 3 (t.f 18) (t.d 18) ["parts"] (spOf K mg 1 m_look_value) := by
  refine fnx (k := 2) (ms := b_look_value) T.F_look_value sc_look_value (by decide) (by decide) (fun _ => rfl) ?_
  intro X EE cdv A outer s H E hX hr hx hpo
  subst hX
  have hu := room200 hr
  have nd := sc_look_value.nd
  have hfr : HasFr (cxOf (CX1 P w) P w K mg base N_look_value "look_value" (defScope s_look_value) (t.f 18) cdv A outer s H E) := ⟨_, outer, s.heap.objs.size, rfl, rfl, rfl⟩
  refine qss_cons ?_ ?_
  · refine qs_if ?_ ?_ ?_
    · refine qt_w ?_
      refine qw_and ?_ ?_
      · refine rt_cmp ?_ ?_ ?_ ?_
        · exact (op_eqD hu)
        · refine re_len ?_ ?_ ?_ ?_
          · exact T.N_len
          · exact lk_look_value_len
          · refine ra_c ?_ ?_ ?_
            · refine re_var 0 ?_ ?_ ?_
              · exact (Or.inl lk_look_value_parts)
              · exact dn_parts
              exact rfl
            · decide +kernel
            exact qa_nil
          decide +kernel
        · exact qe_int
        decide +kernel
      refine qw_and1 ?_
      refine rt_cmp ?_ ?_ ?_ ?_
      · exact (op_eqD hu)
      · refine re_index ?_ ?_ ?_
        · refine re_var 0 ?_ ?_ ?_
          · exact (Or.inl lk_look_value_parts)
          · exact dn_parts
          exact rfl
        · exact qe_int
        decide +kernel
      · exact qe_str
      decide +kernel
    · refine qss_one ?_
      refine qs_ret ?_
      refine qe_tup ?_
      refine ra_s ?_
      refine ra_c ?_ ?_ ?_
      · refine re_call (CX := CX1 P w) (k := kk_name_of) (f := (t.f 8)) (fd := (t.d 8)) (ps := ["part"]) ?_ ?_ ?_ ?_ ?_ ?_ ?_ ?_ ?_ ?_
        · exact C_name_of
        · exact hr.mono (by decide)
        · exact T.M_name_of
        · exact T.F_name_of.kp
        · exact T.B_name_of
        · exact lnk1 hx
        · exact lk_look_value_name_of
        · exact dn_name_of
        · refine ra_c ?_ ?_ ?_
          · refine re_index ?_ ?_ ?_
            · refine re_var 0 ?_ ?_ ?_
              · exact (Or.inl lk_look_value_parts)
              · exact dn_parts
              exact rfl
            · exact qe_int
            decide +kernel
          · decide +kernel
          exact qa_nil
        decide +kernel
      · decide +kernel
      exact qa_nil
    exact qss_nil
  refine qss_cons ?_ ?_
  · refine qs_if ?_ ?_ ?_
    · refine qt_w ?_
      refine qw_and ?_ ?_
      · refine rt_cmp ?_ ?_ ?_ ?_
        · exact (op_eqD hu)
        · refine re_len ?_ ?_ ?_ ?_
          · exact T.N_len
          · exact lk_look_value_len
          · refine ra_c ?_ ?_ ?_
            · refine re_var 0 ?_ ?_ ?_
              · exact (Or.inl lk_look_value_parts)
              · exact dn_parts
              exact rfl
            · decide +kernel
            exact qa_nil
          decide +kernel
        · exact qe_int
        decide +kernel
      refine qw_and1 ?_
      refine rt_cmp ?_ ?_ ?_ ?_
      · exact (op_eqD hu)
      · refine re_index ?_ ?_ ?_
        · refine re_var 0 ?_ ?_ ?_
          · exact (Or.inl lk_look_value_parts)
          · exact dn_parts
          exact rfl
        · exact qe_int
        decide +kernel
      · exact qe_str
      decide +kernel
    · refine qss_one ?_
      refine qs_ret ?_
      refine qe_tup ?_
      refine ra_s ?_
      refine ra_c ?_ ?_ ?_
      · refine re_call (CX := CX1 P w) (k := kk_look_of) (f := (t.f 19)) (fd := (t.d 19)) (ps := ["part"]) ?_ ?_ ?_ ?_ ?_ ?_ ?_ ?_ ?_ ?_
        · exact C_look_of
        · exact hr.mono (by decide)
        · exact T.M_look_of
        · exact T.F_look_of.kp
        · exact T.B_look_of
        · exact lnk1 hx
        · exact lk_look_value_look_of
        · exact dn_look_of
        · refine ra_c ?_ ?_ ?_
          · refine re_index ?_ ?_ ?_
            · refine re_var 0 ?_ ?_ ?_
              · exact (Or.inl lk_look_value_parts)
              · exact dn_parts
              exact rfl
            · exact qe_int
            decide +kernel
          · decide +kernel
          exact qa_nil
        decide +kernel
      · decide +kernel
      exact qa_nil
    exact qss_nil
  refine qss_cons ?_ ?_
  · refine qs_if ?_ ?_ ?_
    · refine qt_w ?_
      refine qw_and ?_ ?_
      · refine rt_cmp ?_ ?_ ?_ ?_
        · exact (op_eqD hu)
        · refine re_len ?_ ?_ ?_ ?_
          · exact T.N_len
          · exact lk_look_value_len
          · refine ra_c ?_ ?_ ?_
            · refine re_var 0 ?_ ?_ ?_
              · exact (Or.inl lk_look_value_parts)
              · exact dn_parts
              exact rfl
            · decide +kernel
            exact qa_nil
          decide +kernel
        · exact qe_int
        decide +kernel
      refine qw_and1 ?_
      refine rt_cmp ?_ ?_ ?_ ?_
      · exact (op_inD hu)
      · refine re_index ?_ ?_ ?_
        · refine re_var 0 ?_ ?_ ?_
          · exact (Or.inl lk_look_value_parts)
          · exact dn_parts
          exact rfl
        · exact qe_int
        decide +kernel
      · refine qe_tup ?_
        refine ra_s ?_
        refine ra_s ?_
        exact qa_nil
      decide +kernel
    · refine qss_one ?_
      refine qs_ret ?_
      refine qe_tup ?_
      refine ra_c ?_ ?_ ?_
      · refine re_index ?_ ?_ ?_
        · refine re_var 0 ?_ ?_ ?_
          · exact (Or.inl lk_look_value_parts)
          · exact dn_parts
          exact rfl
        · exact qe_int
        decide +kernel
      · decide +kernel
      refine ra_c ?_ ?_ ?_
      · refine re_call (CX := CX1 P w) (k := kk_look_of) (f := (t.f 19)) (fd := (t.d 19)) (ps := ["part"]) ?_ ?_ ?_ ?_ ?_ ?_ ?_ ?_ ?_ ?_
        · exact C_look_of
        · exact hr.mono (by decide)
        · exact T.M_look_of
        · exact T.F_look_of.kp
        · exact T.B_look_of
        · exact lnk1 hx
        · exact lk_look_value_look_of
        · exact dn_look_of
        · refine ra_c ?_ ?_ ?_
          · refine re_index ?_ ?_ ?_
            · refine re_var 0 ?_ ?_ ?_
              · exact (Or.inl lk_look_value_parts)
              · exact dn_parts
              exact rfl
            · exact qe_int
            decide +kernel
          · decide +kernel
          exact qa_nil
        decide +kernel
      · decide +kernel
      refine ra_c ?_ ?_ ?_
      · refine re_call (CX := CX1 P w) (k := kk_look_of) (f := (t.f 19)) (fd := (t.d 19)) (ps := ["part"]) ?_ ?_ ?_ ?_ ?_ ?_ ?_ ?_ ?_ ?_
        · exact C_look_of
        · exact hr.mono (by decide)
        · exact T.M_look_of
        · exact T.F_look_of.kp
        · exact T.B_look_of
        · exact lnk1 hx
        · exact lk_look_value_look_of
        · exact dn_look_of
        · refine ra_c ?_ ?_ ?_
          · refine re_index ?_ ?_ ?_
            · refine re_var 0 ?_ ?_ ?_
              · exact (Or.inl lk_look_value_parts)
              · exact dn_parts
              exact rfl
            · exact qe_int
            decide +kernel
          · decide +kernel
          exact qa_nil
        decide +kernel
      · decide +kernel
      exact qa_nil
    exact qss_nil
  refine qss_one ?_
  refine rs_raise (C := (t.c 0)) ?_ ?_ ?_ ?_ ?_ ?_ ?_ ?_
  · exact rfl
  · exact hx
  · exact T.M_NoText
  · exact T.E_NoText
  · exact lk_look_value_NoText
  · exact dn_NoText
  · refine ra_s ?_
    exact qa_nil
  decide +kernel
theorem sc_make_in_shape : FnScope N_make_in_shape ["parts"] (defScope s_make_in_shape) := ⟨rfl, rfl, rfl, by decide +kernel, rfl, by decide +kernel, by decide +kernel⟩
theorem ok_make_in_shape (T : Txt K mg t) (C_shape_value : FnOk P w K mg base (CX1 P w) 3 (t.f 11) (t.d 11) ["parts"] (spOf K mg 1 m_shape_value)) (C_rule_value : FnOk P w K mg base (CX1 P w) 3 (t.f 12) (t.d 12) ["parts"] (spOf K mg 1 m_rule_value)) (C_item_value : FnOk P w K mg base (CX1 P w) 3 (t.f 13) (t.d 13) ["parts"] (spOf K mg 1 m_item_value)) : FnOk P w K mg base (CX1 P w) 4 (t.f 10) (t.d 10) ["parts"] (spOf K mg 1 m_make_in_shape) := by
  refine fnx (k := 3) (ms := b_make_in_shape) T.F_make_in_shape sc_make_in_shape (by decide) (by decide) (fun _ => rfl) ?_
  intro X EE cdv A outer s H E hX hr hx hpo
  subst hX
  have hu := room200 hr
  have nd := sc_make_in_shape.nd
  have hfr : HasFr (cxOf (CX1 P w) P w K mg base N_make_in_shape "make_in_shape" (defScope s_make_in_shape) (t.f 10) cdv A outer s H E) := ⟨_, outer, s.heap.objs.size, rfl, rfl, rfl⟩
  refine qss_cons ?_ ?_
  · refine qs_if ?_ ?_ ?_
    · refine rt_cmp ?_ ?_ ?_ ?_
      · exact (op_eqD hu)
      · refine qe_slice ?_ ?_ ?_
        · refine re_var 0 ?_ ?_ ?_
          · exact (Or.inl lk_make_in_shape_parts)
          · exact dn_parts
          exact rfl
        · exact qo_none
        refine qo_some ?_
        exact qe_int
      · refine qe_lst ?_
        refine ra_s ?_
        exact qa_nil
      decide +kernel
    · refine qss_one ?_
      refine qs_ret ?_
      refine qe_tup ?_
      refine ra_s ?_
      refine ra_c ?_ ?_ ?_
      · refine re_call (CX := CX1 P w) (k := kk_shape_value) (f := (t.f 11)) (fd := (t.d 11)) (ps := ["parts"]) ?_ ?_ ?_ ?_ ?_ ?_ ?_ ?_ ?_ ?_
        · exact C_shape_value
        · exact hr.mono (by decide)
        · exact T.M_shape_value
        · exact T.F_shape_value.kp
        · exact T.B_shape_value
        · exact lnk1 hx
        · exact lk_make_in_shape_shape_value
        · exact dn_shape_value
        · refine ra_c ?_ ?_ ?_
          · refine re_var 0 ?_ ?_ ?_
            · exact (Or.inl lk_make_in_shape_parts)
            · exact dn_parts
            exact rfl
          · decide +kernel
          exact qa_nil
        decide +kernel
      · decide +kernel
      exact qa_nil
    exact qss_nil
  refine qss_cons ?_ ?_
  · refine qs_if ?_ ?_ ?_
    · refine rt_cmp ?_ ?_ ?_ ?_
      · exact (op_eqD hu)
      · refine qe_slice ?_ ?_ ?_
        · refine re_var 0 ?_ ?_ ?_
          · exact (Or.inl lk_make_in_shape_parts)
          · exact dn_parts
          exact rfl
        · exact qo_none
        refine qo_some ?_
        exact qe_int
      · refine qe_lst ?_
        refine ra_s ?_
        exact qa_nil
      decide +kernel
    · refine qss_one ?_
      refine qs_ret ?_
      refine qe_tup ?_
      refine ra_s ?_
      refine ra_c ?_ ?_ ?_
      · refine re_call (CX := CX1 P w) (k := kk_rule_value) (f := (t.f 12)) (fd := (t.d 12)) (ps := ["parts"]) ?_ ?_ ?_ ?_ ?_ ?_ ?_ ?_ ?_ ?_
        · exact C_rule_value
        · exact hr.mono (by decide)
        · exact T.M_rule_value
        · exact T.F_rule_value.kp
        · exact T.B_rule_value
        · exact lnk1 hx
        · exact lk_make_in_shape_rule_value
        · exact dn_rule_value
        · refine ra_c ?_ ?_ ?_
          · refine re_var 0 ?_ ?_ ?_
            · exact (Or.inl lk_make_in_shape_parts)
            · exact dn_parts
            exact rfl
          · decide +kernel
          exact qa_nil
        decide +kernel
      · decide +kernel
      exact qa_nil
    exact qss_nil
  refine qss_one ?_
  refine qs_ret ?_
  refine qe_tup ?_
  refine ra_s ?_
  refine ra_c ?_ ?_ ?_
  · refine re_call (CX := CX1 P w) (k := kk_item_value) (f := (t.f 13)) (fd := (t.d 13)) (ps := ["parts"]) ?_ ?_ ?_ ?_ ?_ ?_ ?_ ?_ ?_ ?_
    · exact C_item_value
    · exact hr.mono (by decide)
    · exact T.M_item_value
    · exact T.F_item_value.kp
    · exact T.B_item_value
    · exact lnk1 hx
    · exact lk_make_in_shape_item_value
    · exact dn_item_value
    · refine ra_c ?_ ?_ ?_
      · refine re_var 0 ?_ ?_ ?_
        · exact (Or.inl lk_make_in_shape_parts)
        · exact dn_parts
        exact rfl
      · decide +kernel
      exact qa_nil
    decide +kernel
  · decide +kernel
  exact qa_nil
theorem sc_make_in_way : FnScope N_make_in_way ["parts"] (defScope s_make_in_way) := ⟨rfl, rfl, rfl, by decide +kernel, rfl, by decide +kernel, by decide +kernel⟩
theorem ok_make_in_way (T : Txt K mg t) (C_way_value : FnOk P w K mg base (CX1 P w) 3 (t.f 17) (t.d 17) ["parts"] (spOf K mg 1 m_way_value)) (C_look_value : FnOk P w K mg base (CX1 P w) 3 (t.f 18) (t.d 18) ["parts"] (spOf K mg 1 m_look_value)) (C_look_of : FnOk P w K mg base (CX1 P w) 2 (t.f 19) (t.d 19) ["part"] (spOf K mg 1 m_look_of)) : FnOk P w K mg base (CX1 P w) 4 (t.f 16) (t.d 16) ["parts"] (spOf K mg 1 m_make_in_way) := by
  refine fnx (k := 3) (ms := b_make_in_way) T.F_make_in_way sc_make_in_way (by decide) (by decide) (fun _ => rfl) ?_
  intro X EE cdv A outer s H E hX hr hx hpo
  subst hX
  have hu := room200 hr
  have nd := sc_make_in_way.nd
  have hfr : HasFr (cxOf (CX1 P w) P w K mg base N_make_in_way "make_in_way" (defScope s_make_in_way) (t.f 16) cdv A outer s H E) := ⟨_, outer, s.heap.objs.size, rfl, rfl, rfl⟩
  refine qss_cons ?_ ?_
  · refine qs_if ?_ ?_ ?_
    · refine rt_cmp ?_ ?_ ?_ ?_
      · exact (op_eqD hu)
      · refine qe_slice ?_ ?_ ?_
        · refine re_var 0 ?_ ?_ ?_
          · exact (Or.inl lk_make_in_way_parts)
          · exact dn_parts
          exact rfl
        · exact qo_none
        refine qo_some ?_
        exact qe_int
      · refine qe_lst ?_
        refine ra_s ?_
        exact qa_nil
      decide +kernel
    · refine qss_one ?_
      refine qs_ret ?_
      refine qe_tup ?_
      refine ra_s ?_
      refine ra_c ?_ ?_ ?_
      · refine re_call (CX := CX1 P w) (k := kk_way_value) (f := (t.f 17)) (fd := (t.d 17)) (ps := ["parts"]) ?_ ?_ ?_ ?_ ?_ ?_ ?_ ?_ ?_ ?_
        · exact C_way_value
        · exact hr.mono (by decide)
        · exact T.M_way_value
        · exact T.F_way_value.kp
        · exact T.B_way_value
        · exact lnk1 hx
        · exact lk_make_in_way_way_value
        · exact dn_way_value
        · refine ra_c ?_ ?_ ?_
          · refine re_var 0 ?_ ?_ ?_
            · exact (Or.inl lk_make_in_way_parts)
            · exact dn_parts
            exact rfl
          · decide +kernel
          exact qa_nil
        decide +kernel
      · decide +kernel
      exact qa_nil
    exact qss_nil
  refine qss_cons ?_ ?_
  · refine qs_if ?_ ?_ ?_
    · refine qt_w ?_
      refine qw_and ?_ ?_
      · refine rt_cmp ?_ ?_ ?_ ?_
        · exact (op_eqD hu)
        · refine re_len ?_ ?_ ?_ ?_
          · exact T.N_len
          · exact lk_make_in_way_len
          · refine ra_c ?_ ?_ ?_
            · refine re_var 0 ?_ ?_ ?_
              · exact (Or.inl lk_make_in_way_parts)
              · exact dn_parts
              exact rfl
            · decide +kernel
            exact qa_nil
          decide +kernel
        · exact qe_int
        decide +kernel
      refine qw_and1 ?_
      refine rt_cmp ?_ ?_ ?_ ?_
      · exact (op_inD hu)
      · refine re_index ?_ ?_ ?_
        · refine re_var 0 ?_ ?_ ?_
          · exact (Or.inl lk_make_in_way_parts)
          · exact dn_parts
          exact rfl
        · exact qe_int
        decide +kernel
      · refine re_glob ?_ ?_ ?_
        · exact T.G_GOES
        · exact lk_make_in_way_GOES
        exact dn_GOES
      decide +kernel
    · refine qss_one ?_
      refine qs_ret ?_
      refine qe_tup ?_
      refine ra_s ?_
      refine ra_c ?_ ?_ ?_
      · refine qe_tup ?_
        refine ra_c ?_ ?_ ?_
        · refine re_index ?_ ?_ ?_
          · refine re_var 0 ?_ ?_ ?_
            · exact (Or.inl lk_make_in_way_parts)
            · exact dn_parts
            exact rfl
          · exact qe_int
          decide +kernel
        · decide +kernel
        refine ra_c ?_ ?_ ?_
        · refine re_call (CX := CX1 P w) (k := kk_look_of) (f := (t.f 19)) (fd := (t.d 19)) (ps := ["part"]) ?_ ?_ ?_ ?_ ?_ ?_ ?_ ?_ ?_ ?_
          · exact C_look_of
          · exact hr.mono (by decide)
          · exact T.M_look_of
          · exact T.F_look_of.kp
          · exact T.B_look_of
          · exact lnk1 hx
          · exact lk_make_in_way_look_of
          · exact dn_look_of
          · refine ra_c ?_ ?_ ?_
            · refine re_index ?_ ?_ ?_
              · refine re_var 0 ?_ ?_ ?_
                · exact (Or.inl lk_make_in_way_parts)
                · exact dn_parts
                exact rfl
              · exact qe_int
              decide +kernel
            · decide +kernel
            exact qa_nil
          decide +kernel
        · decide +kernel
        exact qa_nil
      · decide +kernel
      exact qa_nil
    exact qss_nil
  refine qss_one ?_
  refine qs_ret ?_
  refine qe_tup ?_
  refine ra_s ?_
  refine ra_c ?_ ?_ ?_
  · refine re_call (CX := CX1 P w) (k := kk_look_value) (f := (t.f 18)) (fd := (t.d 18)) (ps := ["parts"]) ?_ ?_ ?_ ?_ ?_ ?_ ?_ ?_ ?_ ?_
    · exact C_look_value
    · exact hr.mono (by decide)
    · exact T.M_look_value
    · exact T.F_look_value.kp
    · exact T.B_look_value
    · exact lnk1 hx
    · exact lk_make_in_way_look_value
    · exact dn_look_value
    · refine ra_c ?_ ?_ ?_
      · refine re_var 0 ?_ ?_ ?_
        · exact (Or.inl lk_make_in_way_parts)
        · exact dn_parts
        exact rfl
      · decide +kernel
      exact qa_nil
    decide +kernel
  · decide +kernel
  exact qa_nil
theorem sc_read_bracket : FnScope N_read_bracket ["text", "make"] (defScope s_read_bracket) := ⟨rfl, rfl, rfl, by decide +kernel, rfl, by decide +kernel, by decide +kernel⟩
theorem ok_read_bracket (T : Txt K mg t) (C_words_of : FnOk P w K mg base (CX1 P w) 1 (t.f 4) (t.d 4) ["text"] (spOf K mg 1 m_words_of)) (C_make_tree : FnOk P w K mg base (CX1 P w) 3 (t.f 9) (t.d 9) ["parts"] (spOf K mg 1 m_make_tree)) (C_make_in_shape : FnOk P w K mg base (CX1 P w) 4 (t.f 10) (t.d 10) ["parts"] (spOf K mg 1 m_make_in_shape)) (C_make_in_way : FnOk P w K mg base (CX1 P w) 4 (t.f 16) (t.d 16) ["parts"] (spOf K mg 1 m_make_in_way)) : FnOk P w K mg base (CX1 P w) 5 (t.f 5) (t.d 5) ["text", "make"] (spOf K mg 2 m_read_bracket) := by
  refine fnx (k := 4) (ms := b_read_bracket) T.F_read_bracket sc_read_bracket (by decide) (by decide) (fun _ => rfl) ?_
  intro X EE cdv A outer s H E hX hr hx hpo
  subst hX
  have hu := room200 hr
  have nd := sc_read_bracket.nd
  have hfr : HasFr (cxOf (CX1 P w) P w K mg base N_read_bracket "read_bracket" (defScope s_read_bracket) (t.f 5) cdv A outer s H E) := ⟨_, outer, s.heap.objs.size, rfl, rfl, rfl⟩
  refine qss_cons ?_ ?_
  · refine rs_set (i := 2) ?_ ?_ ?_ ?_ ?_ ?_
    · exact nd
    · exact (Or.inl lk_read_bracket_unshut)
    · refine qe_lst ?_
      refine ra_c ?_ ?_ ?_
      · refine qe_lst ?_
        exact qa_nil
      · decide +kernel
      exact qa_nil
    · exact Or.inl rfl
    · exact rfl
    decide +kernel
  refine qss_cons ?_ ?_
  · refine rs_for ?_ ?_ ?_ ?_ ?_ ?_
    · exact hpo
    · exact rfl
    · refine re_call (CX := CX1 P w) (k := kk_words_of) (f := (t.f 4)) (fd := (t.d 4)) (ps := ["text"]) ?_ ?_ ?_ ?_ ?_ ?_ ?_ ?_ ?_ ?_
      · exact C_words_of
      · exact hr.mono (by decide)
      · exact T.M_words_of
      · exact T.F_words_of.kp
      · exact T.B_words_of
      · exact lnk1 hx
      · exact lk_read_bracket_words_of
      · exact dn_words_of
      · refine ra_c ?_ ?_ ?_
        · refine re_var 0 ?_ ?_ ?_
          · exact (Or.inl lk_read_bracket_text)
          · exact dn_text
          exact rfl
        · decide +kernel
        exact qa_nil
      decide +kernel
    · refine rg_name (i := 3) ?_ ?_ ?_ ?_
      · exact nd
      · exact (Or.inl lk_read_bracket_word)
      · exact Or.inl rfl
      exact rfl
    · refine qss_one ?_
      refine qs_if ?_ ?_ ?_
      · refine rt_cmp ?_ ?_ ?_ ?_
        · exact (op_eqD hu)
        · refine re_var 3 ?_ ?_ ?_
          · exact (Or.inl lk_read_bracket_word)
          · exact dn_word
          exact rfl
        · exact qe_str
        decide +kernel
      · refine qss_one ?_
        refine rs_expr ?_ ?_
        · refine re_append ?_ ?_ ?_ ?_ ?_
          · refine re_var 2 ?_ ?_ ?_
            · exact (Or.inl lk_read_bracket_unshut)
            · exact dn_unshut
            exact rfl
          · refine ra_c ?_ ?_ ?_
            · refine qe_lst ?_
              exact qa_nil
            · decide +kernel
            exact qa_nil
          · decide +kernel
          · decide +kernel
          exact rfl
        decide +kernel
      refine qss_one ?_
      refine qs_if ?_ ?_ ?_
      · refine rt_cmp ?_ ?_ ?_ ?_
        · exact (op_eqD hu)
        · refine re_var 3 ?_ ?_ ?_
          · exact (Or.inl lk_read_bracket_word)
          · exact dn_word
          exact rfl
        · exact qe_str
        decide +kernel
      · refine qss_cons ?_ ?_
        · refine rs_set (i := 4) ?_ ?_ ?_ ?_ ?_ ?_
          · exact nd
          · exact (Or.inl lk_read_bracket_parts)
          · refine re_pop ?_ ?_ ?_
            · refine re_var 2 ?_ ?_ ?_
              · exact (Or.inl lk_read_bracket_unshut)
              · exact dn_unshut
              exact rfl
            · decide +kernel
            exact rfl
          · exact Or.inl rfl
          · exact rfl
          decide +kernel
        refine qss_cons ?_ ?_
        · refine qs_if ?_ ?_ ?_
          · refine rt_cmp ?_ ?_ ?_ ?_
            · exact (op_eqD hu)
            · refine re_len ?_ ?_ ?_ ?_
              · exact T.N_len
              · exact lk_read_bracket_len
              · refine ra_c ?_ ?_ ?_
                · refine re_var 2 ?_ ?_ ?_
                  · exact (Or.inl lk_read_bracket_unshut)
                  · exact dn_unshut
                  exact rfl
                · decide +kernel
                exact qa_nil
              decide +kernel
            · exact qe_int
            decide +kernel
          · refine qss_one ?_
            refine rs_raise (C := (t.c 0)) ?_ ?_ ?_ ?_ ?_ ?_ ?_ ?_
            · exact rfl
            · exact hx
            · exact T.M_NoText
            · exact T.E_NoText
            · exact lk_read_bracket_NoText
            · exact dn_NoText
            · refine ra_s ?_
              exact qa_nil
            decide +kernel
          exact qss_nil
        refine qss_one ?_
        refine rs_expr ?_ ?_
        · refine re_append ?_ ?_ ?_ ?_ ?_
          · refine re_index ?_ ?_ ?_
            · refine re_var 2 ?_ ?_ ?_
              · exact (Or.inl lk_read_bracket_unshut)
              · exact dn_unshut
              exact rfl
            · refine qe_neg ?_
              exact qe_int
            decide +kernel
          · refine ra_c ?_ ?_ ?_
            · refine re_callV (CX := CX1 P w) ?_ ?_ ?_ ?_ ?_ ?_ ?_
              · exact rfl
              · exact (Or.inl lk_read_bracket_make)
              · exact dn_make
              · exact allF ⟨⟨_, _, _, _, C_make_tree, hr.mono (by decide), T.M_make_tree, T.F_make_tree.kp, T.B_make_tree⟩, ⟨⟨_, _, _, _, C_make_in_shape, hr.mono (by decide), T.M_make_in_shape, T.F_make_in_shape.kp, T.B_make_in_shape⟩, ⟨⟨_, _, _, _, C_make_in_way, hr.mono (by decide), T.M_make_in_way, T.F_make_in_way.kp, T.B_make_in_way⟩, trivial⟩⟩⟩
              · exact lnk1 hx
              · refine ra_c ?_ ?_ ?_
                · refine re_var 4 ?_ ?_ ?_
                  · exact (Or.inl lk_read_bracket_parts)
                  · exact dn_parts
                  exact rfl
                · decide +kernel
                exact qa_nil
              decide +kernel
            · decide +kernel
            exact qa_nil
          · decide +kernel
          · decide +kernel
          exact rfl
        decide +kernel
      refine qss_one ?_
      refine rs_expr ?_ ?_
      · refine re_append ?_ ?_ ?_ ?_ ?_
        · refine re_index ?_ ?_ ?_
          · refine re_var 2 ?_ ?_ ?_
            · exact (Or.inl lk_read_bracket_unshut)
            · exact dn_unshut
            exact rfl
          · refine qe_neg ?_
            exact qe_int
          decide +kernel
        · refine ra_c ?_ ?_ ?_
          · refine re_var 3 ?_ ?_ ?_
            · exact (Or.inl lk_read_bracket_word)
            · exact dn_word
            exact rfl
          · decide +kernel
          exact qa_nil
        · decide +kernel
        · decide +kernel
        exact rfl
      decide +kernel
    decide +kernel
  refine qss_cons ?_ ?_
  · refine qs_if ?_ ?_ ?_
    · refine rt_cmp ?_ ?_ ?_ ?_
      · exact op_gtD
      · refine re_len ?_ ?_ ?_ ?_
        · exact T.N_len
        · exact lk_read_bracket_len
        · refine ra_c ?_ ?_ ?_
          · refine re_var 2 ?_ ?_ ?_
            · exact (Or.inl lk_read_bracket_unshut)
            · exact dn_unshut
            exact rfl
          · decide +kernel
          exact qa_nil
        decide +kernel
      · exact qe_int
      decide +kernel
    · refine qss_one ?_
      refine rs_raise (C := (t.c 0)) ?_ ?_ ?_ ?_ ?_ ?_ ?_ ?_
      · exact rfl
      · exact hx
      · exact T.M_NoText
      · exact T.E_NoText
      · exact lk_read_bracket_NoText
      · exact dn_NoText
      · refine ra_s ?_
        exact qa_nil
      decide +kernel
    exact qss_nil
  refine qss_cons ?_ ?_
  · refine qs_if ?_ ?_ ?_
    · refine rt_cmp ?_ ?_ ?_ ?_
      · exact (op_neD hu)
      · refine re_len ?_ ?_ ?_ ?_
        · exact T.N_len
        · exact lk_read_bracket_len
        · refine ra_c ?_ ?_ ?_
          · refine re_index ?_ ?_ ?_
            · refine re_var 2 ?_ ?_ ?_
              · exact (Or.inl lk_read_bracket_unshut)
              · exact dn_unshut
              exact rfl
            · exact qe_int
            decide +kernel
          · decide +kernel
          exact qa_nil
        decide +kernel
      · exact qe_int
      decide +kernel
    · refine qss_one ?_
      refine rs_raise (C := (t.c 0)) ?_ ?_ ?_ ?_ ?_ ?_ ?_ ?_
      · exact rfl
      · exact hx
      · exact T.M_NoText
      · exact T.E_NoText
      · exact lk_read_bracket_NoText
      · exact dn_NoText
      · refine ra_s ?_
        exact qa_nil
      decide +kernel
    exact qss_nil
  refine qss_one ?_
  refine qs_ret ?_
  refine re_index ?_ ?_ ?_
  · refine re_index ?_ ?_ ?_
    · refine re_var 2 ?_ ?_ ?_
      · exact (Or.inl lk_read_bracket_unshut)
      · exact dn_unshut
      exact rfl
    · exact qe_int
    decide +kernel
  · exact qe_int
  decide +kernel
theorem sc_read_tree : FnScope N_read_tree ["text"] (defScope s_read_tree) := ⟨rfl, rfl, rfl, by decide +kernel, rfl, by decide +kernel, by decide +kernel⟩
theorem ok_read_tree (T : Txt K mg t) (C_read_bracket : FnOk P w K mg base (CX1 P w) 5 (t.f 5) (t.d 5) ["text", "make"] (spOf K mg 2 m_read_bracket)) (C_value_of : FnOk P w K mg base (CX1 P w) 1 (t.f 6) (t.d 6) ["part", "sort"] (spOf K mg 2 m_value_of)) : FnOk P w K mg base (CX1 P w) 6 (t.f 1) (t.d 1) ["text"] (spOf K mg 1 m_read_tree) := by
  refine fnx (k := 5) (ms := b_read_tree) T.F_read_tree sc_read_tree (by decide) (by decide) (fun _ => rfl) ?_
  intro X EE cdv A outer s H E hX hr hx hpo
  subst hX
  have hu := room200 hr
  have nd := sc_read_tree.nd
  have hfr : HasFr (cxOf (CX1 P w) P w K mg base N_read_tree "read_tree" (defScope s_read_tree) (t.f 1) cdv A outer s H E) := ⟨_, outer, s.heap.objs.size, rfl, rfl, rfl⟩
  refine qss_one ?_
  refine qs_ret ?_
  refine re_call (CX := CX1 P w) (k := kk_value_of) (f := (t.f 6)) (fd := (t.d 6)) (ps := ["part", "sort"]) ?_ ?_ ?_ ?_ ?_ ?_ ?_ ?_ ?_ ?_
  · exact C_value_of
  · exact hr.mono (by decide)
  · exact T.M_value_of
  · exact T.F_value_of.kp
  · exact T.B_value_of
  · exact lnk1 hx
  · exact lk_read_tree_value_of
  · exact dn_value_of
  · refine ra_c ?_ ?_ ?_
    · refine re_call (CX := CX1 P w) (k := kk_read_bracket) (f := (t.f 5)) (fd := (t.d 5)) (ps := ["text", "make"]) ?_ ?_ ?_ ?_ ?_ ?_ ?_ ?_ ?_ ?_
      · exact C_read_bracket
      · exact hr.mono (by decide)
      · exact T.M_read_bracket
      · exact T.F_read_bracket.kp
      · exact T.B_read_bracket
      · exact lnk1 hx
      · exact lk_read_tree_read_bracket
      · exact dn_read_bracket
      · refine ra_c ?_ ?_ ?_
        · refine re_var 0 ?_ ?_ ?_
          · exact (Or.inl lk_read_tree_text)
          · exact dn_text
          exact rfl
        · decide +kernel
        refine ra_c ?_ ?_ ?_
        · refine re_fn (f := (t.f 9)) ?_ ?_ ?_
          · exact T.M_make_tree
          · exact lk_read_tree_make_tree
          exact dn_make_tree
        · decide +kernel
        exact qa_nil
      decide +kernel
    · decide +kernel
    refine ra_s ?_
    exact qa_nil
  decide +kernel
theorem sc_read_shape : FnScope N_read_shape ["text"] (defScope s_read_shape) := ⟨rfl, rfl, rfl, by decide +kernel, rfl, by decide +kernel, by decide +kernel⟩
theorem ok_read_shape (T : Txt K mg t) (C_read_bracket : FnOk P w K mg base (CX1 P w) 5 (t.f 5) (t.d 5) ["text", "make"] (spOf K mg 2 m_read_bracket)) (C_value_of : FnOk P w K mg base (CX1 P w) 1 (t.f 6) (t.d 6) ["part", "sort"] (spOf K mg 2 m_value_of)) : FnOk P w K mg base (CX1 P w) 6 (t.f 2) (t.d 2) ["text"] (spOf K mg 1 m_read_shape) := by
  refine fnx (k := 5) (ms := b_read_shape) T.F_read_shape sc_read_shape (by decide) (by decide) (fun _ => rfl) ?_
  intro X EE cdv A outer s H E hX hr hx hpo
  subst hX
  have hu := room200 hr
  have nd := sc_read_shape.nd
  have hfr : HasFr (cxOf (CX1 P w) P w K mg base N_read_shape "read_shape" (defScope s_read_shape) (t.f 2) cdv A outer s H E) := ⟨_, outer, s.heap.objs.size, rfl, rfl, rfl⟩
  refine qss_one ?_
  refine qs_ret ?_
  refine re_call (CX := CX1 P w) (k := kk_value_of) (f := (t.f 6)) (fd := (t.d 6)) (ps := ["part", "sort"]) ?_ ?_ ?_ ?_ ?_ ?_ ?_ ?_ ?_ ?_
  · exact C_value_of
  · exact hr.mono (by decide)
  · exact T.M_value_of
  · exact T.F_value_of.kp
  · exact T.B_value_of
  · exact lnk1 hx
  · exact lk_read_shape_value_of
  · exact dn_value_of
  · refine ra_c ?_ ?_ ?_
    · refine re_call (CX := CX1 P w) (k := kk_read_bracket) (f := (t.f 5)) (fd := (t.d 5)) (ps := ["text", "make"]) ?_ ?_ ?_ ?_ ?_ ?_ ?_ ?_ ?_ ?_
      · exact C_read_bracket
      · exact hr.mono (by decide)
      · exact T.M_read_bracket
      · exact T.F_read_bracket.kp
      · exact T.B_read_bracket
      · exact lnk1 hx
      · exact lk_read_shape_read_bracket
      · exact dn_read_bracket
      · refine ra_c ?_ ?_ ?_
        · refine re_var 0 ?_ ?_ ?_
          · exact (Or.inl lk_read_shape_text)
          · exact dn_text
          exact rfl
        · decide +kernel
        refine ra_c ?_ ?_ ?_
        · refine re_fn (f := (t.f 10)) ?_ ?_ ?_
          · exact T.M_make_in_shape
          · exact lk_read_shape_make_in_shape
          exact dn_make_in_shape
        · decide +kernel
        exact qa_nil
      decide +kernel
    · decide +kernel
    refine ra_s ?_
    exact qa_nil
  decide +kernel
theorem sc_read_way : FnScope N_read_way ["text"] (defScope s_read_way) := ⟨rfl, rfl, rfl, by decide +kernel, rfl, by decide +kernel, by decide +kernel⟩
theorem ok_read_way (T : Txt K mg t) (C_read_bracket : FnOk P w K mg base (CX1 P w) 5 (t.f 5) (t.d 5) ["text", "make"] (spOf K mg 2 m_read_bracket)) (C_value_of : FnOk P w K mg base (CX1 P w) 1 (t.f 6) (t.d 6) ["part", "sort"] (spOf K mg 2 m_value_of)) : FnOk P w K mg base (CX1 P w) 6 (t.f 3) (t.d 3) ["text"] (spOf K mg 1 m_read_way) := by
  refine fnx (k := 5) (ms := b_read_way) T.F_read_way sc_read_way (by decide) (by decide) (fun _ => rfl) ?_
  intro X EE cdv A outer s H E hX hr hx hpo
  subst hX
  have hu := room200 hr
  have nd := sc_read_way.nd
  have hfr : HasFr (cxOf (CX1 P w) P w K mg base N_read_way "read_way" (defScope s_read_way) (t.f 3) cdv A outer s H E) := ⟨_, outer, s.heap.objs.size, rfl, rfl, rfl⟩
  refine qss_one ?_
  refine qs_ret ?_
  refine re_call (CX := CX1 P w) (k := kk_value_of) (f := (t.f 6)) (fd := (t.d 6)) (ps := ["part", "sort"]) ?_ ?_ ?_ ?_ ?_ ?_ ?_ ?_ ?_ ?_
  · exact C_value_of
  · exact hr.mono (by decide)
  · exact T.M_value_of
  · exact T.F_value_of.kp
  · exact T.B_value_of
  · exact lnk1 hx
  · exact lk_read_way_value_of
  · exact dn_value_of
  · refine ra_c ?_ ?_ ?_
    · refine re_call (CX := CX1 P w) (k := kk_read_bracket) (f := (t.f 5)) (fd := (t.d 5)) (ps := ["text", "make"]) ?_ ?_ ?_ ?_ ?_ ?_ ?_ ?_ ?_ ?_
      · exact C_read_bracket
      · exact hr.mono (by decide)
      · exact T.M_read_bracket
      · exact T.F_read_bracket.kp
      · exact T.B_read_bracket
      · exact lnk1 hx
      · exact lk_read_way_read_bracket
      · exact dn_read_bracket
      · refine ra_c ?_ ?_ ?_
        · refine re_var 0 ?_ ?_ ?_
          · exact (Or.inl lk_read_way_text)
          · exact dn_text
          exact rfl
        · decide +kernel
        refine ra_c ?_ ?_ ?_
        · refine re_fn (f := (t.f 16)) ?_ ?_ ?_
          · exact T.M_make_in_way
          · exact lk_read_way_make_in_way
          exact dn_make_in_way
        · decide +kernel
        exact qa_nil
      decide +kernel
    · decide +kernel
    refine ra_s ?_
    exact qa_nil
  decide +kernel
theorem sc__law_read : FnScope N__law_read ["_law_sort", "_law_text_here"] (defScope s__law_read) := ⟨rfl, rfl, rfl, by decide +kernel, rfl, by decide +kernel, by decide +kernel⟩
theorem ok__law_read (T : Txt K mg t) (C_read_tree : FnOk P w K mg base (CX1 P w) 6 (t.f 1) (t.d 1) ["text"] (spOf K mg 1 m_read_tree)) (C_read_shape : FnOk P w K mg base (CX1 P w) 6 (t.f 2) (t.d 2) ["text"] (spOf K mg 1 m_read_shape)) (C_read_way : FnOk P w K mg base (CX1 P w) 6 (t.f 3) (t.d 3) ["text"] (spOf K mg 1 m_read_way)) : FnOk P w K mg base (CX1 P w) 7 (t.f 27) (t.d 27) ["_law_sort", "_law_text_here"] (spOf K mg 2 m__law_read) := by
  refine fnx (k := 6) (ms := b__law_read) T.F__law_read sc__law_read (by decide) (by decide) (fun _ => rfl) ?_
  intro X EE cdv A outer s H E hX hr hx hpo
  subst hX
  have hu := room200 hr
  have nd := sc__law_read.nd
  have hfr : HasFr (cxOf (CX1 P w) P w K mg base N__law_read "_law_read" (defScope s__law_read) (t.f 27) cdv A outer s H E) := ⟨_, outer, s.heap.objs.size, rfl, rfl, rfl⟩
  refine qss_cons ?_ ?_
  · refine qs_if ?_ ?_ ?_
    · refine rt_cmp ?_ ?_ ?_ ?_
      · exact (op_eqD hu)
      · refine re_var 0 ?_ ?_ ?_
        · exact (Or.inl lk__law_read__law_sort)
        · exact dn__law_sort
        exact rfl
      · exact qe_int
      decide +kernel
    · refine qss_one ?_
      refine qs_ret ?_
      refine re_call (CX := CX1 P w) (k := kk_read_tree) (f := (t.f 1)) (fd := (t.d 1)) (ps := ["text"]) ?_ ?_ ?_ ?_ ?_ ?_ ?_ ?_ ?_ ?_
      · exact C_read_tree
      · exact hr.mono (by decide)
      · exact T.M_read_tree
      · exact T.F_read_tree.kp
      · exact T.B_read_tree
      · exact lnk1 hx
      · exact lk__law_read_read_tree
      · exact dn_read_tree
      · refine ra_c ?_ ?_ ?_
        · refine re_var 1 ?_ ?_ ?_
          · exact (Or.inl lk__law_read__law_text_here)
          · exact dn__law_text_here
          exact rfl
        · decide +kernel
        exact qa_nil
      decide +kernel
    exact qss_nil
  refine qss_cons ?_ ?_
  · refine qs_if ?_ ?_ ?_
    · refine rt_cmp ?_ ?_ ?_ ?_
      · exact (op_eqD hu)
      · refine re_var 0 ?_ ?_ ?_
        · exact (Or.inl lk__law_read__law_sort)
        · exact dn__law_sort
        exact rfl
      · exact qe_int
      decide +kernel
    · refine qss_one ?_
      refine qs_ret ?_
      refine re_call (CX := CX1 P w) (k := kk_read_shape) (f := (t.f 2)) (fd := (t.d 2)) (ps := ["text"]) ?_ ?_ ?_ ?_ ?_ ?_ ?_ ?_ ?_ ?_
      · exact C_read_shape
      · exact hr.mono (by decide)
      · exact T.M_read_shape
      · exact T.F_read_shape.kp
      · exact T.B_read_shape
      · exact lnk1 hx
      · exact lk__law_read_read_shape
      · exact dn_read_shape
      · refine ra_c ?_ ?_ ?_
        · refine re_var 1 ?_ ?_ ?_
          · exact (Or.inl lk__law_read__law_text_here)
          · exact dn__law_text_here
          exact rfl
        · decide +kernel
        exact qa_nil
      decide +kernel
    exact qss_nil
  refine qss_one ?_
  refine qs_ret ?_
  refine re_call (CX := CX1 P w) (k := kk_read_way) (f := (t.f 3)) (fd := (t.d 3)) (ps := ["text"]) ?_ ?_ ?_ ?_ ?_ ?_ ?_ ?_ ?_ ?_
  · exact C_read_way
  · exact hr.mono (by decide)
  · exact T.M_read_way
  · exact T.F_read_way.kp
  · exact T.B_read_way
  · exact lnk1 hx
  · exact lk__law_read_read_way
  · exact dn_read_way
  · refine ra_c ?_ ?_ ?_
    · refine re_var 1 ?_ ?_ ?_
      · exact (Or.inl lk__law_read__law_text_here)
      · exact dn__law_text_here
      exact rfl
    · decide +kernel
    exact qa_nil
  decide +kernel
theorem sc_law : FnScope N_law ["_law_script"] (defScope s_law) := ⟨rfl, rfl, rfl, by decide +kernel, rfl, by decide +kernel, by decide +kernel⟩
theorem ok_law (T : Txt K mg t) (C__law_draws : FnOk P w K mg base (CX1 P w) 1 (t.f 20) (t.d 20) ["_law_script", "_law_many"] (spOf K mg 2 m__law_draws)) (C__law_name : FnOk P w K mg base (CX1 P w) 1 (t.f 21) (t.d 21) ["_law_draw"] (spOf K mg 1 m__law_name)) (C__law_good : FnOk P w K mg base (CX1 P w) 1 (t.f 22) (t.d 22) ["_law_cell"] (spOf K mg 1 m__law_good)) (C__law_bad_trees : FnOk P w K mg base (CX1 P w) 1 (t.f 23) (t.d 23) [] (spOf K mg 0 m__law_bad_trees)) (C__law_bad_shapes : FnOk P w K mg base (CX1 P w) 1 (t.f 24) (t.d 24) [] (spOf K mg 0 m__law_bad_shapes)) (C__law_bad_ways : FnOk P w K mg base (CX1 P w) 1 (t.f 25) (t.d 25) [] (spOf K mg 0 m__law_bad_ways)) (C__law_text : FnOk P w K mg base (CX1 P w) 1 (t.f 26) (t.d 26) ["_law_form", "_law_x", "_law_y", "_law_word"] (spOf K mg 4 m__law_text)) (C__law_read : FnOk P w K mg base (CX1 P w) 7 (t.f 27) (t.d 27) ["_law_sort", "_law_text_here"] (spOf K mg 2 m__law_read)) : FnOk P w K mg base (CX1 P w) 8 (t.f 28) (t.d 28) ["_law_script"] (spOf K mg 1 m_law) := by
  refine fnx (k := 7) (ms := b_law) T.F_law sc_law (by decide) (by decide) (fun _ => rfl) ?_
  intro X EE cdv A outer s H E hX hr hx hpo
  subst hX
  have hu := room200 hr
  have nd := sc_law.nd
  have hfr : HasFr (cxOf (CX1 P w) P w K mg base N_law "law" (defScope s_law) (t.f 28) cdv A outer s H E) := ⟨_, outer, s.heap.objs.size, rfl, rfl, rfl⟩
  refine qss_cons ?_ ?_
  · refine rs_set (i := 1) ?_ ?_ ?_ ?_ ?_ ?_
    · exact nd
    · exact (Or.inl lk_law__law_draws_here)
    · refine re_call (CX := CX1 P w) (k := kk__law_draws) (f := (t.f 20)) (fd := (t.d 20)) (ps := ["_law_script", "_law_many"]) ?_ ?_ ?_ ?_ ?_ ?_ ?_ ?_ ?_ ?_
      · exact C__law_draws
      · exact hr.mono (by decide)
      · exact T.M__law_draws
      · exact T.F__law_draws.kp
      · exact T.B__law_draws
      · exact lnk1 hx
      · exact lk_law__law_draws
      · exact dn__law_draws
      · refine ra_c ?_ ?_ ?_
        · refine re_var 0 ?_ ?_ ?_
          · exact (Or.inl lk_law__law_script)
          · exact dn__law_script
          exact rfl
        · decide +kernel
        refine ra_i ?_
        exact qa_nil
      decide +kernel
    · exact Or.inl rfl
    · exact rfl
    decide +kernel
  refine qss_cons ?_ ?_
  · refine rs_set (i := 2) ?_ ?_ ?_ ?_ ?_ ?_
    · exact nd
    · exact (Or.inl lk_law__law_taken)
    · refine qe_lst ?_
      refine ra_s ?_
      refine ra_s ?_
      refine ra_s ?_
      refine ra_s ?_
      refine ra_s ?_
      refine ra_s ?_
      refine ra_s ?_
      refine ra_s ?_
      refine ra_s ?_
      refine ra_s ?_
      refine ra_s ?_
      refine ra_s ?_
      exact qa_nil
    · exact Or.inl rfl
    · exact rfl
    decide +kernel
  refine qss_cons ?_ ?_
  · refine rs_set (i := 3) ?_ ?_ ?_ ?_ ?_ ?_
    · exact nd
    · exact (Or.inl lk_law__law_x)
    · refine re_call (CX := CX1 P w) (k := kk__law_name) (f := (t.f 21)) (fd := (t.d 21)) (ps := ["_law_draw"]) ?_ ?_ ?_ ?_ ?_ ?_ ?_ ?_ ?_ ?_
      · exact C__law_name
      · exact hr.mono (by decide)
      · exact T.M__law_name
      · exact T.F__law_name.kp
      · exact T.B__law_name
      · exact lnk1 hx
      · exact lk_law__law_name
      · exact dn__law_name
      · refine ra_c ?_ ?_ ?_
        · refine re_index ?_ ?_ ?_
          · refine re_var 1 ?_ ?_ ?_
            · exact (Or.inl lk_law__law_draws_here)
            · exact dn__law_draws_here
            exact rfl
          · exact qe_int
          decide +kernel
        · decide +kernel
        exact qa_nil
      decide +kernel
    · exact Or.inl rfl
    · exact rfl
    decide +kernel
  refine qss_cons ?_ ?_
  · refine rs_set (i := 4) ?_ ?_ ?_ ?_ ?_ ?_
    · exact nd
    · exact (Or.inl lk_law__law_y)
    · refine re_call (CX := CX1 P w) (k := kk__law_name) (f := (t.f 21)) (fd := (t.d 21)) (ps := ["_law_draw"]) ?_ ?_ ?_ ?_ ?_ ?_ ?_ ?_ ?_ ?_
      · exact C__law_name
      · exact hr.mono (by decide)
      · exact T.M__law_name
      · exact T.F__law_name.kp
      · exact T.B__law_name
      · exact lnk1 hx
      · exact lk_law__law_name
      · exact dn__law_name
      · refine ra_c ?_ ?_ ?_
        · refine re_index ?_ ?_ ?_
          · refine re_var 1 ?_ ?_ ?_
            · exact (Or.inl lk_law__law_draws_here)
            · exact dn__law_draws_here
            exact rfl
          · exact qe_int
          decide +kernel
        · decide +kernel
        exact qa_nil
      decide +kernel
    · exact Or.inl rfl
    · exact rfl
    decide +kernel
  refine qss_cons ?_ ?_
  · refine rs_forR1 ?_ ?_ ?_ ?_ ?_ ?_ ?_ ?_
    · exact hpo
    · exact rfl
    · exact T.N_range
    · exact lk_law_range
    · refine ra_i ?_
      exact qa_nil
    · refine rg_name (i := 5) ?_ ?_ ?_ ?_
      · exact nd
      · exact (Or.inl lk_law__law_turn)
      · exact Or.inl rfl
      exact rfl
    · refine qss_cons ?_ ?_
      · refine rs_set (i := 6) ?_ ?_ ?_ ?_ ?_ ?_
        · exact nd
        · exact (Or.inl lk_law__law_draw)
        · refine re_index ?_ ?_ ?_
          · refine re_var 1 ?_ ?_ ?_
            · exact (Or.inl lk_law__law_draws_here)
            · exact dn__law_draws_here
            exact rfl
          · refine qe_add ?_ ?_
            · exact qe_int
            refine re_var 5 ?_ ?_ ?_
            · exact (Or.inl lk_law__law_turn)
            · exact dn__law_turn
            exact rfl
          decide +kernel
        · exact Or.inl rfl
        · exact rfl
        decide +kernel
      refine qss_cons ?_ ?_
      · refine rs_set (i := 7) ?_ ?_ ?_ ?_ ?_ ?_
        · exact nd
        · exact (Or.inl lk_law__law_good_here)
        · refine qe_eq ?_ ?_ ?_
          · exact hu
          · refine qe_mod ?_ ?_
            · refine re_var 6 ?_ ?_ ?_
              · exact (Or.inl lk_law__law_draw)
              · exact dn__law_draw
              exact rfl
            exact qe_int
          exact qe_int
        · exact Or.inl rfl
        · exact rfl
        decide +kernel
      refine qss_cons ?_ ?_
      · refine rs_set (i := 8) ?_ ?_ ?_ ?_ ?_ ?_
        · exact nd
        · exact (Or.inl lk_law__law_some)
        · refine re_index ?_ ?_ ?_
          · refine qe_lst ?_
            refine ra_c ?_ ?_ ?_
            · refine re_call0 (CX := CX1 P w) (k := kk__law_bad_trees) (f := (t.f 23)) (fd := (t.d 23)) (ps := []) ?_ ?_ ?_ ?_ ?_ ?_ ?_ ?_
              · exact C__law_bad_trees
              · exact hr.mono (by decide)
              · exact T.M__law_bad_trees
              · exact T.F__law_bad_trees.kp
              · exact T.B__law_bad_trees
              · exact lnk1 hx
              · exact lk_law__law_bad_trees
              exact dn__law_bad_trees
            · decide +kernel
            refine ra_c ?_ ?_ ?_
            · refine re_call0 (CX := CX1 P w) (k := kk__law_bad_shapes) (f := (t.f 24)) (fd := (t.d 24)) (ps := []) ?_ ?_ ?_ ?_ ?_ ?_ ?_ ?_
              · exact C__law_bad_shapes
              · exact hr.mono (by decide)
              · exact T.M__law_bad_shapes
              · exact T.F__law_bad_shapes.kp
              · exact T.B__law_bad_shapes
              · exact lnk1 hx
              · exact lk_law__law_bad_shapes
              exact dn__law_bad_shapes
            · decide +kernel
            refine ra_c ?_ ?_ ?_
            · refine re_call0 (CX := CX1 P w) (k := kk__law_bad_ways) (f := (t.f 25)) (fd := (t.d 25)) (ps := []) ?_ ?_ ?_ ?_ ?_ ?_ ?_ ?_
              · exact C__law_bad_ways
              · exact hr.mono (by decide)
              · exact T.M__law_bad_ways
              · exact T.F__law_bad_ways.kp
              · exact T.B__law_bad_ways
              · exact lnk1 hx
              · exact lk_law__law_bad_ways
              exact dn__law_bad_ways
            · decide +kernel
            exact qa_nil
          · refine qe_mod ?_ ?_
            · refine qe_fdiv ?_ ?_
              · refine re_var 6 ?_ ?_ ?_
                · exact (Or.inl lk_law__law_draw)
                · exact dn__law_draw
                exact rfl
              exact qe_int
            exact qe_int
          decide +kernel
        · exact Or.inl rfl
        · exact rfl
        decide +kernel
      refine qss_cons ?_ ?_
      · refine rs_set (i := 9) ?_ ?_ ?_ ?_ ?_ ?_
        · exact nd
        · exact (Or.inl lk_law__law_form)
        · refine re_index ?_ ?_ ?_
          · refine re_var 8 ?_ ?_ ?_
            · exact (Or.inl lk_law__law_some)
            · exact dn__law_some
            exact rfl
          · refine qe_mod ?_ ?_
            · refine qe_fdiv ?_ ?_
              · refine re_var 6 ?_ ?_ ?_
                · exact (Or.inl lk_law__law_draw)
                · exact dn__law_draw
                exact rfl
              exact qe_int
            refine re_len ?_ ?_ ?_ ?_
            · exact T.N_len
            · exact lk_law_len
            · refine ra_c ?_ ?_ ?_
              · refine re_var 8 ?_ ?_ ?_
                · exact (Or.inl lk_law__law_some)
                · exact dn__law_some
                exact rfl
              · decide +kernel
              exact qa_nil
            decide +kernel
          decide +kernel
        · exact Or.inl rfl
        · exact rfl
        decide +kernel
      refine qss_cons ?_ ?_
      · refine qs_if ?_ ?_ ?_
        · refine rt_tru ?_ ?_
          · refine re_var 7 ?_ ?_ ?_
            · exact (Or.inl lk_law__law_good_here)
            · exact dn__law_good_here
            exact rfl
          decide +kernel
        · refine qss_one ?_
          refine rs_set (i := 9) ?_ ?_ ?_ ?_ ?_ ?_
          · exact nd
          · exact (Or.inl lk_law__law_form)
          · refine re_call (CX := CX1 P w) (k := kk__law_good) (f := (t.f 22)) (fd := (t.d 22)) (ps := ["_law_cell"]) ?_ ?_ ?_ ?_ ?_ ?_ ?_ ?_ ?_ ?_
            · exact C__law_good
            · exact hr.mono (by decide)
            · exact T.M__law_good
            · exact T.F__law_good.kp
            · exact T.B__law_good
            · exact lnk1 hx
            · exact lk_law__law_good
            · exact dn__law_good
            · refine ra_c ?_ ?_ ?_
              · refine qe_fdiv ?_ ?_
                · refine re_var 6 ?_ ?_ ?_
                  · exact (Or.inl lk_law__law_draw)
                  · exact dn__law_draw
                  exact rfl
                exact qe_int
              · decide +kernel
              exact qa_nil
            decide +kernel
          · exact Or.inl rfl
          · exact rfl
          decide +kernel
        exact qss_nil
      refine qss_cons ?_ ?_
      · refine rs_set (i := 10) ?_ ?_ ?_ ?_ ?_ ?_
        · exact nd
        · exact (Or.inl lk_law__law_read_here)
        · exact qe_bl
        · exact Or.inl rfl
        · exact rfl
        decide +kernel
      refine qss_cons ?_ ?_
      · refine qs_try ?_ ?_ ?_ ?_ ?_
        · exact rfl
        · exact ⟨_, rfl⟩
        · refine fun E1 pn1 EE1 hx hpo => ?_
          refine qss_cons ?_ ?_
          · refine rs_expr ?_ ?_
            · refine re_call (CX := CX1 P w) (k := kk__law_read) (f := (t.f 27)) (fd := (t.d 27)) (ps := ["_law_sort", "_law_text_here"]) ?_ ?_ ?_ ?_ ?_ ?_ ?_ ?_ ?_ ?_
              · exact C__law_read
              · exact hr.mono (by decide)
              · exact T.M__law_read
              · exact T.F__law_read.kp
              · exact T.B__law_read
              · exact lnk1 hx
              · exact lk_law__law_read
              · exact dn__law_read
              · refine ra_c ?_ ?_ ?_
                · refine re_index ?_ ?_ ?_
                  · refine re_var 9 ?_ ?_ ?_
                    · exact (Or.inl lk_law__law_form)
                    · exact dn__law_form
                    exact rfl
                  · exact qe_int
                  decide +kernel
                · decide +kernel
                refine ra_c ?_ ?_ ?_
                · refine re_call (CX := CX1 P w) (k := kk__law_text) (f := (t.f 26)) (fd := (t.d 26)) (ps := ["_law_form", "_law_x", "_law_y", "_law_word"]) ?_ ?_ ?_ ?_ ?_ ?_ ?_ ?_ ?_ ?_
                  · exact C__law_text
                  · exact hr.mono (by decide)
                  · exact T.M__law_text
                  · exact T.F__law_text.kp
                  · exact T.B__law_text
                  · exact lnk1 hx
                  · exact lk_law__law_text
                  · exact dn__law_text
                  · refine ra_c ?_ ?_ ?_
                    · refine re_index ?_ ?_ ?_
                      · refine re_var 9 ?_ ?_ ?_
                        · exact (Or.inl lk_law__law_form)
                        · exact dn__law_form
                        exact rfl
                      · exact qe_int
                      decide +kernel
                    · decide +kernel
                    refine ra_c ?_ ?_ ?_
                    · refine re_var 3 ?_ ?_ ?_
                      · exact (Or.inl lk_law__law_x)
                      · exact dn__law_x
                      exact rfl
                    · decide +kernel
                    refine ra_c ?_ ?_ ?_
                    · refine re_var 4 ?_ ?_ ?_
                      · exact (Or.inl lk_law__law_y)
                      · exact dn__law_y
                      exact rfl
                    · decide +kernel
                    refine ra_c ?_ ?_ ?_
                    · refine re_index ?_ ?_ ?_
                      · refine re_var 2 ?_ ?_ ?_
                        · exact (Or.inl lk_law__law_taken)
                        · exact dn__law_taken
                        exact rfl
                      · refine qe_mod ?_ ?_
                        · refine re_index ?_ ?_ ?_
                          · refine re_var 1 ?_ ?_ ?_
                            · exact (Or.inl lk_law__law_draws_here)
                            · exact dn__law_draws_here
                            exact rfl
                          · refine qe_add ?_ ?_
                            · exact qe_int
                            refine re_var 5 ?_ ?_ ?_
                            · exact (Or.inl lk_law__law_turn)
                            · exact dn__law_turn
                            exact rfl
                          decide +kernel
                        exact qe_int
                      decide +kernel
                    · decide +kernel
                    exact qa_nil
                  decide +kernel
                · decide +kernel
                exact qa_nil
              decide +kernel
            decide +kernel
          refine qss_one ?_
          refine rs_set (i := 10) ?_ ?_ ?_ ?_ ?_ ?_
          · exact nd
          · exact (Or.inl lk_law__law_read_here)
          · exact qe_bl
          · exact Or.inl rfl
          · exact rfl
          decide +kernel
        · refine fun pn1 => ?_
          refine qh_cons (cv := .ref (t.c 0)) ?_ ?_ ?_ ?_ ?_ ?_
          · exact T.M_NoText
          · exact allX ⟨⟨_, T.M_NoText, T.X_NoText_NoText⟩, trivial⟩
          · exact lk_law_NoText
          · exact dn_NoText.1
          · refine fun e1 => ?_
            refine qss_one ?_
            refine rs_set (i := 10) ?_ ?_ ?_ ?_ ?_ ?_
            · exact nd
            · exact (Or.inl lk_law__law_read_here)
            · exact qe_bl
            · exact Or.inl rfl
            · exact rfl
            decide +kernel
          refine qh_cons (cv := .ref (t.c 1)) ?_ ?_ ?_ ?_ ?_ ?_
          · exact T.M_PathError
          · exact allX ⟨⟨_, T.M_NoText, T.X_NoText_PathError⟩, trivial⟩
          · exact lk_law_PathError
          · exact dn_PathError.1
          · refine fun e1 => ?_
            refine qss_one ?_
            refine qs_ret ?_
            exact qe_bl
          exact qh_nil
        exact qss_nil
      refine qss_one ?_
      refine qs_if ?_ ?_ ?_
      · refine rt_cmp ?_ ?_ ?_ ?_
        · exact (op_neD hu)
        · refine re_var 10 ?_ ?_ ?_
          · exact (Or.inl lk_law__law_read_here)
          · exact dn__law_read_here
          exact rfl
        · refine re_var 7 ?_ ?_ ?_
          · exact (Or.inl lk_law__law_good_here)
          · exact dn__law_good_here
          exact rfl
        decide +kernel
      · refine qss_one ?_
        refine qs_ret ?_
        exact qe_bl
      exact qss_nil
    decide +kernel
  refine qss_one ?_
  refine qs_ret ?_
  exact qe_bl
end
theorem us_0 {p : List Value → Prop} (h : p []) : ∀ us : List Value, us.length = 0 → p us := fun us e => by
  rcases us with _ | ⟨z, us⟩
  · exact h
  · cases e
theorem us_1 {p : List Value → Prop} (h : ∀ a0, p [a0]) : ∀ us : List Value, us.length = 1 → p us := fun us e => by
  rcases us with _ | ⟨a0, us⟩
  · cases e
  rcases us with _ | ⟨z, us⟩
  · exact h a0
  · cases e
theorem us_2 {p : List Value → Prop} (h : ∀ a0 a1, p [a0, a1]) : ∀ us : List Value, us.length = 2 → p us := fun us e => by
  rcases us with _ | ⟨a0, us⟩
  · cases e
  rcases us with _ | ⟨a1, us⟩
  · cases e
  rcases us with _ | ⟨z, us⟩
  · exact h a0 a1
  · cases e
theorem us_4 {p : List Value → Prop} (h : ∀ a0 a1 a2 a3, p [a0, a1, a2, a3]) : ∀ us : List Value, us.length = 4 → p us := fun us e => by
  rcases us with _ | ⟨a0, us⟩
  · cases e
  rcases us with _ | ⟨a1, us⟩
  · cases e
  rcases us with _ | ⟨a2, us⟩
  · cases e
  rcases us with _ | ⟨a3, us⟩
  · cases e
  rcases us with _ | ⟨z, us⟩
  · exact h a0 a1 a2 a3
  · cases e
theorem txt_mk {K : PySem.W.Frag} {h : Heap} {mg : Str → Option Value} (X : K.In h) (G : h.Ns mainGlobals mg) {f0 : Addr} {od0 an0 : Option Addr} {sl0 : Array (Option Value)} {oc0 kV0 dc0 pm0 cd0 ct0 : Value} (a0 : PySem.W.nsIn K mainGlobals "is_name" = some (some (.ref f0))) (l0 : K.lookup f0 = some ⟨oc0, od0, .func (PySem.W.fnOf "is_name" "is_name" (defArgs s_is_name) (defBody s_is_name) (defScope s_is_name) .none kV0 dc0 pm0 an0 cd0 ct0), sl0⟩) (c0 : PySem.W.codeIn K cd0 "is_name" = true) (k0 : PySem.W.keepIn K (.ref f0) = true) {f1 : Addr} {od1 an1 : Option Addr} {sl1 : Array (Option Value)} {oc1 kV1 dc1 pm1 cd1 ct1 : Value} (a1 : PySem.W.nsIn K mainGlobals "read_tree" = some (some (.ref f1))) (l1 : K.lookup f1 = some ⟨oc1, od1, .func (PySem.W.fnOf "read_tree" "read_tree" (defArgs s_read_tree) (defBody s_read_tree) (defScope s_read_tree) .none kV1 dc1 pm1 an1 cd1 ct1), sl1⟩) (c1 : PySem.W.codeIn K cd1 "read_tree" = true) (k1 : PySem.W.keepIn K (.ref f1) = true) {f2 : Addr} {od2 an2 : Option Addr} {sl2 : Array (Option Value)} {oc2 kV2 dc2 pm2 cd2 ct2 : Value} (a2 : PySem.W.nsIn K mainGlobals "read_shape" = some (some (.ref f2))) (l2 : K.lookup f2 = some ⟨oc2, od2, .func (PySem.W.fnOf "read_shape" "read_shape" (defArgs s_read_shape) (defBody s_read_shape) (defScope s_read_shape) .none kV2 dc2 pm2 an2 cd2 ct2), sl2⟩) (c2 : PySem.W.codeIn K cd2 "read_shape" = true) (k2 : PySem.W.keepIn K (.ref f2) = true) {f3 : Addr} {od3 an3 : Option Addr} {sl3 : Array (Option Value)} {oc3 kV3 dc3 pm3 cd3 ct3 : Value} (a3 : PySem.W.nsIn K mainGlobals "read_way" = some (some (.ref f3))) (l3 : K.lookup f3 = some ⟨oc3, od3, .func (PySem.W.fnOf "read_way" "read_way" (defArgs s_read_way) (defBody s_read_way) (defScope s_read_way) .none kV3 dc3 pm3 an3 cd3 ct3), sl3⟩) (c3 : PySem.W.codeIn K cd3 "read_way" = true) (k3 : PySem.W.keepIn K (.ref f3) = true) {f4 : Addr} {od4 an4 : Option Addr} {sl4 : Array (Option Value)} {oc4 kV4 dc4 pm4 cd4 ct4 : Value} (a4 : PySem.W.nsIn K mainGlobals "words_of" = some (some (.ref f4))) (l4 : K.lookup f4 = some ⟨oc4, od4, .func (PySem.W.fnOf "words_of" "words_of" (defArgs s_words_of) (defBody s_words_of) (defScope s_words_of) .none kV4 dc4 pm4 an4 cd4 ct4), sl4⟩) (c4 : PySem.W.codeIn K cd4 "words_of" = true) (k4 : PySem.W.keepIn K (.ref f4) = true) {f5 : Addr} {od5 an5 : Option Addr} {sl5 : Array (Option Value)} {oc5 kV5 dc5 pm5 cd5 ct5 : Value} (a5 : PySem.W.nsIn K mainGlobals "read_bracket" = some (some (.ref f5))) (l5 : K.lookup f5 = some ⟨oc5, od5, .func (PySem.W.fnOf "read_bracket" "read_bracket" (defArgs s_read_bracket) (defBody s_read_bracket) (defScope s_read_bracket) .none kV5 dc5 pm5 an5 cd5 ct5), sl5⟩) (c5 : PySem.W.codeIn K cd5 "read_bracket" = true) (k5 : PySem.W.keepIn K (.ref f5) = true) {f6 : Addr} {od6 an6 : Option Addr} {sl6 : Array (Option Value)} {oc6 kV6 dc6 pm6 cd6 ct6 : Value} (a6 : PySem.W.nsIn K mainGlobals "value_of" = some (some (.ref f6))) (l6 : K.lookup f6 = some ⟨oc6, od6, .func (PySem.W.fnOf "value_of" "value_of" (defArgs s_value_of) (defBody s_value_of) (defScope s_value_of) .none kV6 dc6 pm6 an6 cd6 ct6), sl6⟩) (c6 : PySem.W.codeIn K cd6 "value_of" = true) (k6 : PySem.W.keepIn K (.ref f6) = true) {f7 : Addr} {od7 an7 : Option Addr} {sl7 : Array (Option Value)} {oc7 kV7 dc7 pm7 cd7 ct7 : Value} (a7 : PySem.W.nsIn K mainGlobals "values_of" = some (some (.ref f7))) (l7 : K.lookup f7 = some ⟨oc7, od7, .func (PySem.W.fnOf "values_of" "values_of" (defArgs s_values_of) (defBody s_values_of) (defScope s_values_of) .none kV7 dc7 pm7 an7 cd7 ct7), sl7⟩) (c7 : PySem.W.codeIn K cd7 "values_of" = true) (k7 : PySem.W.keepIn K (.ref f7) = true) {f8 : Addr} {od8 an8 : Option Addr} {sl8 : Array (Option Value)} {oc8 kV8 dc8 pm8 cd8 ct8 : Value} (a8 : PySem.W.nsIn K mainGlobals "name_of" = some (some (.ref f8))) (l8 : K.lookup f8 = some ⟨oc8, od8, .func (PySem.W.fnOf "name_of" "name_of" (defArgs s_name_of) (defBody s_name_of) (defScope s_name_of) .none kV8 dc8 pm8 an8 cd8 ct8), sl8⟩) (c8 : PySem.W.codeIn K cd8 "name_of" = true) (k8 : PySem.W.keepIn K (.ref f8) = true) {f9 : Addr} {od9 an9 : Option Addr} {sl9 : Array (Option Value)} {oc9 kV9 dc9 pm9 cd9 ct9 : Value} (a9 : PySem.W.nsIn K mainGlobals "make_tree" = some (some (.ref f9))) (l9 : K.lookup f9 = some ⟨oc9, od9, .func (PySem.W.fnOf "make_tree" "make_tree" (defArgs s_make_tree) (defBody s_make_tree) (defScope s_make_tree) .none kV9 dc9 pm9 an9 cd9 ct9), sl9⟩) (c9 : PySem.W.codeIn K cd9 "make_tree" = true) (k9 : PySem.W.keepIn K (.ref f9) = true) {f10 : Addr} {od10 an10 : Option Addr} {sl10 : Array (Option Value)} {oc10 kV10 dc10 pm10 cd10 ct10 : Value} (a10 : PySem.W.nsIn K mainGlobals "make_in_shape" = some (some (.ref f10))) (l10 : K.lookup f10 = some ⟨oc10, od10, .func (PySem.W.fnOf "make_in_shape" "make_in_shape" (defArgs s_make_in_shape) (defBody s_make_in_shape) (defScope s_make_in_shape) .none kV10 dc10 pm10 an10 cd10 ct10), sl10⟩) (c10 : PySem.W.codeIn K cd10 "make_in_shape" = true) (k10 : PySem.W.keepIn K (.ref f10) = true) {f11 : Addr} {od11 an11 : Option Addr} {sl11 : Array (Option Value)} {oc11 kV11 dc11 pm11 cd11 ct11 : Value} (a11 : PySem.W.nsIn K mainGlobals "shape_value" = some (some (.ref f11))) (l11 : K.lookup f11 = some ⟨oc11, od11, .func (PySem.W.fnOf "shape_value" "shape_value" (defArgs s_shape_value) (defBody s_shape_value) (defScope s_shape_value) .none kV11 dc11 pm11 an11 cd11 ct11), sl11⟩) (c11 : PySem.W.codeIn K cd11 "shape_value" = true) (k11 : PySem.W.keepIn K (.ref f11) = true) {f12 : Addr} {od12 an12 : Option Addr} {sl12 : Array (Option Value)} {oc12 kV12 dc12 pm12 cd12 ct12 : Value} (a12 : PySem.W.nsIn K mainGlobals "rule_value" = some (some (.ref f12))) (l12 : K.lookup f12 = some ⟨oc12, od12, .func (PySem.W.fnOf "rule_value" "rule_value" (defArgs s_rule_value) (defBody s_rule_value) (defScope s_rule_value) .none kV12 dc12 pm12 an12 cd12 ct12), sl12⟩) (c12 : PySem.W.codeIn K cd12 "rule_value" = true) (k12 : PySem.W.keepIn K (.ref f12) = true) {f13 : Addr} {od13 an13 : Option Addr} {sl13 : Array (Option Value)} {oc13 kV13 dc13 pm13 cd13 ct13 : Value} (a13 : PySem.W.nsIn K mainGlobals "item_value" = some (some (.ref f13))) (l13 : K.lookup f13 = some ⟨oc13, od13, .func (PySem.W.fnOf "item_value" "item_value" (defArgs s_item_value) (defBody s_item_value) (defScope s_item_value) .none kV13 dc13 pm13 an13 cd13 ct13), sl13⟩) (c13 : PySem.W.codeIn K cd13 "item_value" = true) (k13 : PySem.W.keepIn K (.ref f13) = true) {f14 : Addr} {od14 an14 : Option Addr} {sl14 : Array (Option Value)} {oc14 kV14 dc14 pm14 cd14 ct14 : Value} (a14 : PySem.W.nsIn K mainGlobals "count_of" = some (some (.ref f14))) (l14 : K.lookup f14 = some ⟨oc14, od14, .func (PySem.W.fnOf "count_of" "count_of" (defArgs s_count_of) (defBody s_count_of) (defScope s_count_of) .none kV14 dc14 pm14 an14 cd14 ct14), sl14⟩) (c14 : PySem.W.codeIn K cd14 "count_of" = true) (k14 : PySem.W.keepIn K (.ref f14) = true) {f15 : Addr} {od15 an15 : Option Addr} {sl15 : Array (Option Value)} {oc15 kV15 dc15 pm15 cd15 ct15 : Value} (a15 : PySem.W.nsIn K mainGlobals "high_of" = some (some (.ref f15))) (l15 : K.lookup f15 = some ⟨oc15, od15, .func (PySem.W.fnOf "high_of" "high_of" (defArgs s_high_of) (defBody s_high_of) (defScope s_high_of) .none kV15 dc15 pm15 an15 cd15 ct15), sl15⟩) (c15 : PySem.W.codeIn K cd15 "high_of" = true) (k15 : PySem.W.keepIn K (.ref f15) = true) {f16 : Addr} {od16 an16 : Option Addr} {sl16 : Array (Option Value)} {oc16 kV16 dc16 pm16 cd16 ct16 : Value} (a16 : PySem.W.nsIn K mainGlobals "make_in_way" = some (some (.ref f16))) (l16 : K.lookup f16 = some ⟨oc16, od16, .func (PySem.W.fnOf "make_in_way" "make_in_way" (defArgs s_make_in_way) (defBody s_make_in_way) (defScope s_make_in_way) .none kV16 dc16 pm16 an16 cd16 ct16), sl16⟩) (c16 : PySem.W.codeIn K cd16 "make_in_way" = true) (k16 : PySem.W.keepIn K (.ref f16) = true) {f17 : Addr} {od17 an17 : Option Addr} {sl17 : Array (Option Value)} {oc17 kV17 dc17 pm17 cd17 ct17 : Value} (a17 : PySem.W.nsIn K mainGlobals "way_value" = some (some (.ref f17))) (l17 : K.lookup f17 = some ⟨oc17, od17, .func (PySem.W.fnOf "way_value" "way_value" (defArgs s_way_value) (defBody s_way_value) (defScope s_way_value) .none kV17 dc17 pm17 an17 cd17 ct17), sl17⟩) (c17 : PySem.W.codeIn K cd17 "way_value" = true) (k17 : PySem.W.keepIn K (.ref f17) = true) {f18 : Addr} {od18 an18 : Option Addr} {sl18 : Array (Option Value)} {oc18 kV18 dc18 pm18 cd18 ct18 : Value} (a18 : PySem.W.nsIn K mainGlobals "look_value" = some (some (.ref f18))) (l18 : K.lookup f18 = some ⟨oc18, od18, .func (PySem.W.fnOf "look_value" "look_value" (defArgs s_look_value) (defBody s_look_value) (defScope s_look_value) .none kV18 dc18 pm18 an18 cd18 ct18), sl18⟩) (c18 : PySem.W.codeIn K cd18 "look_value" = true) (k18 : PySem.W.keepIn K (.ref f18) = true) {f19 : Addr} {od19 an19 : Option Addr} {sl19 : Array (Option Value)} {oc19 kV19 dc19 pm19 cd19 ct19 : Value} (a19 : PySem.W.nsIn K mainGlobals "look_of" = some (some (.ref f19))) (l19 : K.lookup f19 = some ⟨oc19, od19, .func (PySem.W.fnOf "look_of" "look_of" (defArgs s_look_of) (defBody s_look_of) (defScope s_look_of) .none kV19 dc19 pm19 an19 cd19 ct19), sl19⟩) (c19 : PySem.W.codeIn K cd19 "look_of" = true) (k19 : PySem.W.keepIn K (.ref f19) = true) {f20 : Addr} {od20 an20 : Option Addr} {sl20 : Array (Option Value)} {oc20 kV20 dc20 pm20 cd20 ct20 : Value} (a20 : PySem.W.nsIn K mainGlobals "_law_draws" = some (some (.ref f20))) (l20 : K.lookup f20 = some ⟨oc20, od20, .func (PySem.W.fnOf "_law_draws" "_law_draws" (defArgs s__law_draws) (defBody s__law_draws) (defScope s__law_draws) .none kV20 dc20 pm20 an20 cd20 ct20), sl20⟩) (c20 : PySem.W.codeIn K cd20 "_law_draws" = true) (k20 : PySem.W.keepIn K (.ref f20) = true) {f21 : Addr} {od21 an21 : Option Addr} {sl21 : Array (Option Value)} {oc21 kV21 dc21 pm21 cd21 ct21 : Value} (a21 : PySem.W.nsIn K mainGlobals "_law_name" = some (some (.ref f21))) (l21 : K.lookup f21 = some ⟨oc21, od21, .func (PySem.W.fnOf "_law_name" "_law_name" (defArgs s__law_name) (defBody s__law_name) (defScope s__law_name) .none kV21 dc21 pm21 an21 cd21 ct21), sl21⟩) (c21 : PySem.W.codeIn K cd21 "_law_name" = true) (k21 : PySem.W.keepIn K (.ref f21) = true) {f22 : Addr} {od22 an22 : Option Addr} {sl22 : Array (Option Value)} {oc22 kV22 dc22 pm22 cd22 ct22 : Value} (a22 : PySem.W.nsIn K mainGlobals "_law_good" = some (some (.ref f22))) (l22 : K.lookup f22 = some ⟨oc22, od22, .func (PySem.W.fnOf "_law_good" "_law_good" (defArgs s__law_good) (defBody s__law_good) (defScope s__law_good) .none kV22 dc22 pm22 an22 cd22 ct22), sl22⟩) (c22 : PySem.W.codeIn K cd22 "_law_good" = true) (k22 : PySem.W.keepIn K (.ref f22) = true) {f23 : Addr} {od23 an23 : Option Addr} {sl23 : Array (Option Value)} {oc23 kV23 dc23 pm23 cd23 ct23 : Value} (a23 : PySem.W.nsIn K mainGlobals "_law_bad_trees" = some (some (.ref f23))) (l23 : K.lookup f23 = some ⟨oc23, od23, .func (PySem.W.fnOf "_law_bad_trees" "_law_bad_trees" (defArgs s__law_bad_trees) (defBody s__law_bad_trees) (defScope s__law_bad_trees) .none kV23 dc23 pm23 an23 cd23 ct23), sl23⟩) (c23 : PySem.W.codeIn K cd23 "_law_bad_trees" = true) (k23 : PySem.W.keepIn K (.ref f23) = true) {f24 : Addr} {od24 an24 : Option Addr} {sl24 : Array (Option Value)} {oc24 kV24 dc24 pm24 cd24 ct24 : Value} (a24 : PySem.W.nsIn K mainGlobals "_law_bad_shapes" = some (some (.ref f24))) (l24 : K.lookup f24 = some ⟨oc24, od24, .func (PySem.W.fnOf "_law_bad_shapes" "_law_bad_shapes" (defArgs s__law_bad_shapes) (defBody s__law_bad_shapes) (defScope s__law_bad_shapes) .none kV24 dc24 pm24 an24 cd24 ct24), sl24⟩) (c24 : PySem.W.codeIn K cd24 "_law_bad_shapes" = true) (k24 : PySem.W.keepIn K (.ref f24) = true) {f25 : Addr} {od25 an25 : Option Addr} {sl25 : Array (Option Value)} {oc25 kV25 dc25 pm25 cd25 ct25 : Value} (a25 : PySem.W.nsIn K mainGlobals "_law_bad_ways" = some (some (.ref f25))) (l25 : K.lookup f25 = some ⟨oc25, od25, .func (PySem.W.fnOf "_law_bad_ways" "_law_bad_ways" (defArgs s__law_bad_ways) (defBody s__law_bad_ways) (defScope s__law_bad_ways) .none kV25 dc25 pm25 an25 cd25 ct25), sl25⟩) (c25 : PySem.W.codeIn K cd25 "_law_bad_ways" = true) (k25 : PySem.W.keepIn K (.ref f25) = true) {f26 : Addr} {od26 an26 : Option Addr} {sl26 : Array (Option Value)} {oc26 kV26 dc26 pm26 cd26 ct26 : Value} (a26 : PySem.W.nsIn K mainGlobals "_law_text" = some (some (.ref f26))) (l26 : K.lookup f26 = some ⟨oc26, od26, .func (PySem.W.fnOf "_law_text" "_law_text" (defArgs s__law_text) (defBody s__law_text) (defScope s__law_text) .none kV26 dc26 pm26 an26 cd26 ct26), sl26⟩) (c26 : PySem.W.codeIn K cd26 "_law_text" = true) (k26 : PySem.W.keepIn K (.ref f26) = true) {f27 : Addr} {od27 an27 : Option Addr} {sl27 : Array (Option Value)} {oc27 kV27 dc27 pm27 cd27 ct27 : Value} (a27 : PySem.W.nsIn K mainGlobals "_law_read" = some (some (.ref f27))) (l27 : K.lookup f27 = some ⟨oc27, od27, .func (PySem.W.fnOf "_law_read" "_law_read" (defArgs s__law_read) (defBody s__law_read) (defScope s__law_read) .none kV27 dc27 pm27 an27 cd27 ct27), sl27⟩) (c27 : PySem.W.codeIn K cd27 "_law_read" = true) (k27 : PySem.W.keepIn K (.ref f27) = true) {f28 : Addr} {od28 an28 : Option Addr} {sl28 : Array (Option Value)} {oc28 kV28 dc28 pm28 cd28 ct28 : Value} (a28 : PySem.W.nsIn K mainGlobals "law" = some (some (.ref f28))) (l28 : K.lookup f28 = some ⟨oc28, od28, .func (PySem.W.fnOf "law" "law" (defArgs s_law) (defBody s_law) (defScope s_law) .none kV28 dc28 pm28 an28 cd28 ct28), sl28⟩) (c28 : PySem.W.codeIn K cd28 "law" = true) (k28 : PySem.W.keepIn K (.ref f28) = true) (z0 : PySem.W.nsIn K mainGlobals "all" = some none) (z1 : PySem.W.nsIn K mainGlobals "isinstance" = some none) (z2 : PySem.W.nsIn K mainGlobals "len" = some none) (z3 : PySem.W.nsIn K mainGlobals "max" = some none) (z4 : PySem.W.nsIn K mainGlobals "range" = some none) (z5 : PySem.W.nsIn K mainGlobals "str" = some none) (z6 : PySem.W.nsIn K mainGlobals "tuple" = some none) {ga0 : Addr} {gi0 : Array Value} {gn0 : Nat} {gs0 : Array (Option Value)} (g0 : PySem.W.nsIn K mainGlobals "COUNTS" = some (some (.ref ga0))) (gl0 : K.lookup ga0 = some ⟨.type "tuple", none, .seq gi0 gn0, gs0⟩) (gv0 : Vals [V.str "0", V.str "1", V.str "2"] gi0.toList) {ga1 : Addr} {gi1 : Array Value} {gn1 : Nat} {gs1 : Array (Option Value)} (g1 : PySem.W.nsIn K mainGlobals "GOES" = some (some (.ref ga1))) (gl1 : K.lookup ga1 = some ⟨.type "tuple", none, .seq gi1 gn1, gs1⟩) (gv1 : Vals [V.str "down", V.str "deep", V.str "later"] gi1.toList) {ga2 : Addr} {gi2 : Array Value} {gn2 : Nat} {gs2 : Array (Option Value)} (g2 : PySem.W.nsIn K mainGlobals "KEPT_WORDS" = some (some (.ref ga2))) (gl2 : K.lookup ga2 = some ⟨.type "tuple", none, .seq gi2 gn2, gs2⟩) (gv2 : Vals [V.str "start", V.str "rule", V.str "row", V.str "mix", V.str "many", V.str "any", V.str "kind", V.str "not", V.str "both", V.str "either", V.str "way", V.str "mark"] gi2.toList) {gt3 : Tok} (g3 : PySem.W.nsIn K mainGlobals "LETTERS" = some (some (.str "abcdefghijklmnopqrstuvwxyz" gt3))) {gt4 : Tok} (g4 : PySem.W.nsIn K mainGlobals "LONGEST" = some (some (.int (8) gt4))) {ga5 : Addr} {gi5 : Array Value} {gn5 : Nat} {gs5 : Array (Option Value)} (g5 : PySem.W.nsIn K mainGlobals "ORDERS" = some (some (.ref ga5))) (gl5 : K.lookup ga5 = some ⟨.type "tuple", none, .seq gi5 gn5, gs5⟩) (gv5 : Vals [V.str "row", V.str "mix"] gi5.toList) {cc0 : Addr} (cm0 : PySem.W.nsIn K mainGlobals "NoText" = some (some (.ref cc0))) (ce0 : PySem.W.excIn K cc0 bmVE "ValueError.__new__" = true) {cc1 : Addr} (cm1 : PySem.W.nsIn K mainGlobals "PathError" = some (some (.ref cc1))) (ce1 : PySem.W.excIn K cc1 bmVE "ValueError.__new__" = true) (cx0 : PySem.W.exmOne K (.ref cc0) (.ref cc0) = some true) (cx1 : PySem.W.exmOne K (.ref cc0) (.ref cc1) = some true) : ∃ t, Txt K mg t ∧ ∃ kV dc pm an cd ct, (t.d 28) = PySem.W.fnOf "law" "law" (defArgs s_law) (defBody s_law) (defScope s_law) .none kV dc pm an cd ct := by
  have F0 := fun_mk (st := s_is_name) l0 c0 k0
  have F1 := fun_mk (st := s_read_tree) l1 c1 k1
  have F2 := fun_mk (st := s_read_shape) l2 c2 k2
  have F3 := fun_mk (st := s_read_way) l3 c3 k3
  have F4 := fun_mk (st := s_words_of) l4 c4 k4
  have F5 := fun_mk (st := s_read_bracket) l5 c5 k5
  have F6 := fun_mk (st := s_value_of) l6 c6 k6
  have F7 := fun_mk (st := s_values_of) l7 c7 k7
  have F8 := fun_mk (st := s_name_of) l8 c8 k8
  have F9 := fun_mk (st := s_make_tree) l9 c9 k9
  have F10 := fun_mk (st := s_make_in_shape) l10 c10 k10
  have F11 := fun_mk (st := s_shape_value) l11 c11 k11
  have F12 := fun_mk (st := s_rule_value) l12 c12 k12
  have F13 := fun_mk (st := s_item_value) l13 c13 k13
  have F14 := fun_mk (st := s_count_of) l14 c14 k14
  have F15 := fun_mk (st := s_high_of) l15 c15 k15
  have F16 := fun_mk (st := s_make_in_way) l16 c16 k16
  have F17 := fun_mk (st := s_way_value) l17 c17 k17
  have F18 := fun_mk (st := s_look_value) l18 c18 k18
  have F19 := fun_mk (st := s_look_of) l19 c19 k19
  have F20 := fun_mk (st := s__law_draws) l20 c20 k20
  have F21 := fun_mk (st := s__law_name) l21 c21 k21
  have F22 := fun_mk (st := s__law_good) l22 c22 k22
  have F23 := fun_mk (st := s__law_bad_trees) l23 c23 k23
  have F24 := fun_mk (st := s__law_bad_shapes) l24 c24 k24
  have F25 := fun_mk (st := s__law_bad_ways) l25 c25 k25
  have F26 := fun_mk (st := s__law_text) l26 c26 k26
  have F27 := fun_mk (st := s__law_read) l27 c27 k27
  have F28 := fun_mk (st := s_law) l28 c28 k28
  exact ⟨⟨fun i => [f0, f1, f2, f3, f4, f5, f6, f7, f8, f9, f10, f11, f12, f13, f14, f15, f16, f17, f18, f19, f20, f21, f22, f23, f24, f25, f26, f27, f28].getD i f0, fun i => [PySem.W.fnOf "is_name" "is_name" (defArgs s_is_name) (defBody s_is_name) (defScope s_is_name) .none kV0 dc0 pm0 an0 cd0 ct0, PySem.W.fnOf "read_tree" "read_tree" (defArgs s_read_tree) (defBody s_read_tree) (defScope s_read_tree) .none kV1 dc1 pm1 an1 cd1 ct1, PySem.W.fnOf "read_shape" "read_shape" (defArgs s_read_shape) (defBody s_read_shape) (defScope s_read_shape) .none kV2 dc2 pm2 an2 cd2 ct2, PySem.W.fnOf "read_way" "read_way" (defArgs s_read_way) (defBody s_read_way) (defScope s_read_way) .none kV3 dc3 pm3 an3 cd3 ct3, PySem.W.fnOf "words_of" "words_of" (defArgs s_words_of) (defBody s_words_of) (defScope s_words_of) .none kV4 dc4 pm4 an4 cd4 ct4, PySem.W.fnOf "read_bracket" "read_bracket" (defArgs s_read_bracket) (defBody s_read_bracket) (defScope s_read_bracket) .none kV5 dc5 pm5 an5 cd5 ct5, PySem.W.fnOf "value_of" "value_of" (defArgs s_value_of) (defBody s_value_of) (defScope s_value_of) .none kV6 dc6 pm6 an6 cd6 ct6, PySem.W.fnOf "values_of" "values_of" (defArgs s_values_of) (defBody s_values_of) (defScope s_values_of) .none kV7 dc7 pm7 an7 cd7 ct7, PySem.W.fnOf "name_of" "name_of" (defArgs s_name_of) (defBody s_name_of) (defScope s_name_of) .none kV8 dc8 pm8 an8 cd8 ct8, PySem.W.fnOf "make_tree" "make_tree" (defArgs s_make_tree) (defBody s_make_tree) (defScope s_make_tree) .none kV9 dc9 pm9 an9 cd9 ct9, PySem.W.fnOf "make_in_shape" "make_in_shape" (defArgs s_make_in_shape) (defBody s_make_in_shape) (defScope s_make_in_shape) .none kV10 dc10 pm10 an10 cd10 ct10, PySem.W.fnOf "shape_value" "shape_value" (defArgs s_shape_value) (defBody s_shape_value) (defScope s_shape_value) .none kV11 dc11 pm11 an11 cd11 ct11, PySem.W.fnOf "rule_value" "rule_value" (defArgs s_rule_value) (defBody s_rule_value) (defScope s_rule_value) .none kV12 dc12 pm12 an12 cd12 ct12, PySem.W.fnOf "item_value" "item_value" (defArgs s_item_value) (defBody s_item_value) (defScope s_item_value) .none kV13 dc13 pm13 an13 cd13 ct13, PySem.W.fnOf "count_of" "count_of" (defArgs s_count_of) (defBody s_count_of) (defScope s_count_of) .none kV14 dc14 pm14 an14 cd14 ct14, PySem.W.fnOf "high_of" "high_of" (defArgs s_high_of) (defBody s_high_of) (defScope s_high_of) .none kV15 dc15 pm15 an15 cd15 ct15, PySem.W.fnOf "make_in_way" "make_in_way" (defArgs s_make_in_way) (defBody s_make_in_way) (defScope s_make_in_way) .none kV16 dc16 pm16 an16 cd16 ct16, PySem.W.fnOf "way_value" "way_value" (defArgs s_way_value) (defBody s_way_value) (defScope s_way_value) .none kV17 dc17 pm17 an17 cd17 ct17, PySem.W.fnOf "look_value" "look_value" (defArgs s_look_value) (defBody s_look_value) (defScope s_look_value) .none kV18 dc18 pm18 an18 cd18 ct18, PySem.W.fnOf "look_of" "look_of" (defArgs s_look_of) (defBody s_look_of) (defScope s_look_of) .none kV19 dc19 pm19 an19 cd19 ct19, PySem.W.fnOf "_law_draws" "_law_draws" (defArgs s__law_draws) (defBody s__law_draws) (defScope s__law_draws) .none kV20 dc20 pm20 an20 cd20 ct20, PySem.W.fnOf "_law_name" "_law_name" (defArgs s__law_name) (defBody s__law_name) (defScope s__law_name) .none kV21 dc21 pm21 an21 cd21 ct21, PySem.W.fnOf "_law_good" "_law_good" (defArgs s__law_good) (defBody s__law_good) (defScope s__law_good) .none kV22 dc22 pm22 an22 cd22 ct22, PySem.W.fnOf "_law_bad_trees" "_law_bad_trees" (defArgs s__law_bad_trees) (defBody s__law_bad_trees) (defScope s__law_bad_trees) .none kV23 dc23 pm23 an23 cd23 ct23, PySem.W.fnOf "_law_bad_shapes" "_law_bad_shapes" (defArgs s__law_bad_shapes) (defBody s__law_bad_shapes) (defScope s__law_bad_shapes) .none kV24 dc24 pm24 an24 cd24 ct24, PySem.W.fnOf "_law_bad_ways" "_law_bad_ways" (defArgs s__law_bad_ways) (defBody s__law_bad_ways) (defScope s__law_bad_ways) .none kV25 dc25 pm25 an25 cd25 ct25, PySem.W.fnOf "_law_text" "_law_text" (defArgs s__law_text) (defBody s__law_text) (defScope s__law_text) .none kV26 dc26 pm26 an26 cd26 ct26, PySem.W.fnOf "_law_read" "_law_read" (defArgs s__law_read) (defBody s__law_read) (defScope s__law_read) .none kV27 dc27 pm27 an27 cd27 ct27, PySem.W.fnOf "law" "law" (defArgs s_law) (defBody s_law) (defScope s_law) .none kV28 dc28 pm28 an28 cd28 ct28].getD i (PySem.W.fnOf "is_name" "is_name" (defArgs s_is_name) (defBody s_is_name) (defScope s_is_name) .none kV0 dc0 pm0 an0 cd0 ct0), fun i => [cc0, cc1].getD i 0⟩, ⟨F0, F0.binds (fun _ _ _ _ _ _ => us_1 fun _ => rfl), PySem.W.mg_of X G a0, F1, F1.binds (fun _ _ _ _ _ _ => us_1 fun _ => rfl), PySem.W.mg_of X G a1, F2, F2.binds (fun _ _ _ _ _ _ => us_1 fun _ => rfl), PySem.W.mg_of X G a2, F3, F3.binds (fun _ _ _ _ _ _ => us_1 fun _ => rfl), PySem.W.mg_of X G a3, F4, F4.binds (fun _ _ _ _ _ _ => us_1 fun _ => rfl), PySem.W.mg_of X G a4, F5, F5.binds (fun _ _ _ _ _ _ => us_2 fun _ _ => rfl), PySem.W.mg_of X G a5, F6, F6.binds (fun _ _ _ _ _ _ => us_2 fun _ _ => rfl), PySem.W.mg_of X G a6, F7, F7.binds (fun _ _ _ _ _ _ => us_2 fun _ _ => rfl), PySem.W.mg_of X G a7, F8, F8.binds (fun _ _ _ _ _ _ => us_1 fun _ => rfl), PySem.W.mg_of X G a8, F9, F9.binds (fun _ _ _ _ _ _ => us_1 fun _ => rfl), PySem.W.mg_of X G a9, F10, F10.binds (fun _ _ _ _ _ _ => us_1 fun _ => rfl), PySem.W.mg_of X G a10, F11, F11.binds (fun _ _ _ _ _ _ => us_1 fun _ => rfl), PySem.W.mg_of X G a11, F12, F12.binds (fun _ _ _ _ _ _ => us_1 fun _ => rfl), PySem.W.mg_of X G a12, F13, F13.binds (fun _ _ _ _ _ _ => us_1 fun _ => rfl), PySem.W.mg_of X G a13, F14, F14.binds (fun _ _ _ _ _ _ => us_1 fun _ => rfl), PySem.W.mg_of X G a14, F15, F15.binds (fun _ _ _ _ _ _ => us_2 fun _ _ => rfl), PySem.W.mg_of X G a15, F16, F16.binds (fun _ _ _ _ _ _ => us_1 fun _ => rfl), PySem.W.mg_of X G a16, F17, F17.binds (fun _ _ _ _ _ _ => us_1 fun _ => rfl), PySem.W.mg_of X G a17, F18, F18.binds (fun _ _ _ _ _ _ => us_1 fun _ => rfl), PySem.W.mg_of X G a18, F19, F19.binds (fun _ _ _ _ _ _ => us_1 fun _ => rfl), PySem.W.mg_of X G a19, F20, F20.binds (fun _ _ _ _ _ _ => us_2 fun _ _ => rfl), PySem.W.mg_of X G a20, F21, F21.binds (fun _ _ _ _ _ _ => us_1 fun _ => rfl), PySem.W.mg_of X G a21, F22, F22.binds (fun _ _ _ _ _ _ => us_1 fun _ => rfl), PySem.W.mg_of X G a22, F23, F23.binds (fun _ _ _ _ _ _ => us_0 rfl), PySem.W.mg_of X G a23, F24, F24.binds (fun _ _ _ _ _ _ => us_0 rfl), PySem.W.mg_of X G a24, F25, F25.binds (fun _ _ _ _ _ _ => us_0 rfl), PySem.W.mg_of X G a25, F26, F26.binds (fun _ _ _ _ _ _ => us_4 fun _ _ _ _ => rfl), PySem.W.mg_of X G a26, F27, F27.binds (fun _ _ _ _ _ _ => us_2 fun _ _ => rfl), PySem.W.mg_of X G a27, F28, F28.binds (fun _ _ _ _ _ _ => us_1 fun _ => rfl), PySem.W.mg_of X G a28, PySem.W.mg_none_of X G z0, PySem.W.mg_none_of X G z1, PySem.W.mg_none_of X G z2, PySem.W.mg_none_of X G z3, PySem.W.mg_none_of X G z4, PySem.W.mg_none_of X G z5, PySem.W.mg_none_of X G z6, ⟨.ref ga0, .ref ga0, PySem.W.mg_of X G g0, rfl, fun ρ H => by unfold g_COUNTS Rep; exact ⟨ga0, _, rfl, .inr ⟨_, gi0, gn0, gl0, rfl, rfl, by have := gv0.length; rw [← Array.length_toList, ← this]; decide, gv0⟩, by simp only [Reps, Rep]; simp⟩⟩, ⟨.ref ga1, .ref ga1, PySem.W.mg_of X G g1, rfl, fun ρ H => by unfold g_GOES Rep; exact ⟨ga1, _, rfl, .inr ⟨_, gi1, gn1, gl1, rfl, rfl, by have := gv1.length; rw [← Array.length_toList, ← this]; decide, gv1⟩, by simp only [Reps, Rep]; simp⟩⟩, ⟨.ref ga2, .ref ga2, PySem.W.mg_of X G g2, rfl, fun ρ H => by unfold g_KEPT_WORDS Rep; exact ⟨ga2, _, rfl, .inr ⟨_, gi2, gn2, gl2, rfl, rfl, by have := gv2.length; rw [← Array.length_toList, ← this]; decide, gv2⟩, by simp only [Reps, Rep]; simp⟩⟩, ⟨_, V.str "abcdefghijklmnopqrstuvwxyz", PySem.W.mg_of X G g3, ⟨_, rfl⟩, fun ρ H => by unfold g_LETTERS Rep; rfl⟩, ⟨_, V.int (8), PySem.W.mg_of X G g4, ⟨_, rfl⟩, fun ρ H => by unfold g_LONGEST Rep; rfl⟩, ⟨.ref ga5, .ref ga5, PySem.W.mg_of X G g5, rfl, fun ρ H => by unfold g_ORDERS Rep; exact ⟨ga5, _, rfl, .inr ⟨_, gi5, gn5, gl5, rfl, rfl, by have := gv5.length; rw [← Array.length_toList, ← this]; decide, gv5⟩, by simp only [Reps, Rep]; simp⟩⟩, ⟨ga0, _, PySem.W.mg_of X G g0, gl0, rfl, rfl⟩, PySem.W.mg_of X G cm0, ce0, PySem.W.mg_of X G cm1, ce1, cx0, cx1⟩, _, _, _, _, _, _, rfl⟩
section
variable {P : Program} {w : World} {K : PySem.W.Frag} {mg : Str → Option Value} {base : Heap} {t : Adr}
theorem law_ok (T : Txt K mg t) : FnOk P w K mg base (CX1 P w) 8 (t.f 28) (t.d 28) ["_law_script"] (spOf K mg 1 m_law) := by
  have C_is_name := ok_is_name (P := P) (w := w) (base := base) T
  have C_words_of := ok_words_of (P := P) (w := w) (base := base) T
  have C_value_of := ok_value_of (P := P) (w := w) (base := base) T
  have C_count_of := ok_count_of (P := P) (w := w) (base := base) T
  have C__law_draws := ok__law_draws (P := P) (w := w) (base := base) T
  have C__law_name := ok__law_name (P := P) (w := w) (base := base) T
  have C__law_good := ok__law_good (P := P) (w := w) (base := base) T
  have C__law_bad_trees := ok__law_bad_trees (P := P) (w := w) (base := base) T
  have C__law_bad_shapes := ok__law_bad_shapes (P := P) (w := w) (base := base) T
  have C__law_bad_ways := ok__law_bad_ways (P := P) (w := w) (base := base) T
  have C__law_text := ok__law_text (P := P) (w := w) (base := base) T
  have C_values_of := ok_values_of (P := P) (w := w) (base := base) T C_value_of
  have C_name_of := ok_name_of (P := P) (w := w) (base := base) T C_is_name
  have C_high_of := ok_high_of (P := P) (w := w) (base := base) T C_count_of
  have C_look_of := ok_look_of (P := P) (w := w) (base := base) T C_value_of
  have C_make_tree := ok_make_tree (P := P) (w := w) (base := base) T C_values_of C_name_of
  have C_shape_value := ok_shape_value (P := P) (w := w) (base := base) T C_values_of C_name_of
  have C_rule_value := ok_rule_value (P := P) (w := w) (base := base) T C_values_of C_name_of
  have C_item_value := ok_item_value (P := P) (w := w) (base := base) T C_name_of C_count_of C_high_of
  have C_way_value := ok_way_value (P := P) (w := w) (base := base) T C_values_of
  have C_look_value := ok_look_value (P := P) (w := w) (base := base) T C_name_of C_look_of
  have C_make_in_shape := ok_make_in_shape (P := P) (w := w) (base := base) T C_shape_value C_rule_value C_item_value
  have C_make_in_way := ok_make_in_way (P := P) (w := w) (base := base) T C_way_value C_look_value C_look_of
  have C_read_bracket := ok_read_bracket (P := P) (w := w) (base := base) T C_words_of C_make_tree C_make_in_shape C_make_in_way
  have C_read_tree := ok_read_tree (P := P) (w := w) (base := base) T C_read_bracket C_value_of
  have C_read_shape := ok_read_shape (P := P) (w := w) (base := base) T C_read_bracket C_value_of
  have C_read_way := ok_read_way (P := P) (w := w) (base := base) T C_read_bracket C_value_of
  have C__law_read := ok__law_read (P := P) (w := w) (base := base) T C_read_tree C_read_shape C_read_way
  have C_law := ok_law (P := P) (w := w) (base := base) T C__law_draws C__law_name C__law_good C__law_bad_trees C__law_bad_shapes C__law_bad_ways C__law_text C__law_read
  exact C_law
end
end K16
end
section
set_option Elab.async false
set_option linter.all false
set_option maxRecDepth 100000
set_option maxHeartbeats 4000000
namespace K16
open PySem PySem.Spec L2 L3
noncomputable def letters : Str := "abcdefghijklmnopqrstuvwxyz"
noncomputable def sgn (c : Nat) : Bool := !(Builtin.Str.occurrences letters ⟨#[c]⟩ 0 letters.length 1).isEmpty
noncomputable def words : List Str := ["start", "rule", "row", "mix", "many", "any", "kind", "not", "both", "either", "way", "mark"]
noncomputable def kept (t : Str) : Bool := words.any fun y => y == t
noncomputable def isNm (t : Str) : Bool := (!kept t && (decide (1 ≤ (t.length : Int)) && decide ((t.length : Int) ≤ 8))) && t.cps.toList.all sgn
theorem inB_words (t : Str) (G : DH) (h : PyData.strOk t = true) : inB (.str t) (words.map D.str) G = some (kept t) := inB_strs t words G h (by decide +kernel)
theorem comp_signs (τ : DS) (G0 : DH) : ∀ (cs : List Nat) (acc : List D), acc.length + cs.length ≤ 1000 →
    compP oN [] tYes (eOp (dIn false) (eVar 0) (eC g_LETTERS)) G0.length (cs.map fun c => .str ⟨#[c]⟩) τ (G0 ++ [.lst acc]) = .ok (.obj G0.length) (G0 ++ [.lst (acc ++ cs.map fun c => .bl (sgn c))])
  | [], acc, hl => by simp [compP]
  | c :: cs, acc, hl => by
    have hs : acc.length < sizeLine := Nat.lt_of_lt_of_le (by simp at hl; omega) (lz (n := 2000) (by first | decide | omega))
    have e : compOne oN [] tYes (eOp (dIn false) (eVar 0) (eC g_LETTERS)) G0.length (.str ⟨#[c]⟩) τ (G0 ++ [.lst acc]) = .ok () (G0 ++ [.lst (acc ++ [.bl (sgn c)])]) := by
      simp [compOne, oN, tYes, ret_l, eOp_l, eVar_l, bd_ok, bind_l, eC_l, g_LETTERS, dIn, seqOf, hs, sgn, letters]
    rw [List.map_cons, compP, e]
    dsimp only
    rw [comp_signs τ G0 cs (acc ++ [D.bl (sgn c)]) (by simp at hl ⊢; omega)]
    simp
theorem bls_map (bs : List Bool) : blsOf (bs.map D.bl) = some bs := by
  induction bs with
  | nil => rfl
  | cons b r ih => simp [blsOf, ih]
theorem is_name_eq (t : Str) (G : DH) (h : PyData.strOk t = true) (hl : t.length ≤ 900) : ∃ E, m_is_name [.str t] G = .ok (.bl (isNm t)) (G ++ E) := by
  have hz : t.length ≤ sizeLine := lz (by first | decide | omega)
  have hk := inB_words t G h
  have ek : g_KEPT_WORDS = .tup (words.map D.str) := rfl
  have hc := comp_signs [some (.str t)] G t.cps.toList [] (by simpa [Str.length] using (by have : t.cps.size = t.length := rfl; omega : t.cps.size ≤ 1000))
  cases hkk : kept t with
  | true =>
    refine ⟨[], ?_⟩
    rw [hkk] at hk
    simp [dTru, dIx, seqOf, dInt2, dInt2L, dLen, dAdd, dNew, dTup, kindOk, dAppend, dPop, dIsi, tyD, Ty.is, m_is_name, b_is_name, dIn, ek, hk, isNm, hkk]
  | false =>
    rw [hkk] at hk
    by_cases h0 : t.length = 0
    · refine ⟨[], ?_⟩
      simp [dTru, dIx, seqOf, dInt2, dInt2L, dLen, dAdd, dNew, dTup, kindOk, dAppend, dPop, dIsi, tyD, Ty.is, m_is_name, b_is_name, dIn, ek, hk, isNm, hkk, hz, dEq_int, h0]
    · have h1 : 1 ≤ t.length := by omega
      have h0' : ((t.length : Int) == 0) = false := by simp; omega
      by_cases h8 : 8 < t.length
      · refine ⟨[], ?_⟩
        have h9 : ¬ t.length ≤ 8 := by omega
        have h8I : (8 : Int) < (t.length : Int) := by omega
        have h9I : ¬ (t.length : Int) ≤ 8 := by omega
        simp [dTru, dIx, seqOf, dInt2, dInt2L, dLen, dAdd, dNew, dTup, kindOk, dAppend, dPop, dIsi, tyD, Ty.is, m_is_name, b_is_name, dIn, ek, hk, isNm, hkk, hz, dEq_int, h0', g_LONGEST, h8, h9, h8I, h9I]
      · refine ⟨[.lst (t.cps.toList.map fun c => .bl (sgn c))], ?_⟩
        have h9 : t.length ≤ 8 := by omega
        have h8I : ¬ (8 : Int) < (t.length : Int) := by omega
        have h9I : (t.length : Int) ≤ 8 := by omega
        have h1I : 1 ≤ (t.length : Int) := by omega
        have hb : blsOf (t.cps.toList.map fun c => D.bl (sgn c)) = some (t.cps.toList.map sgn) := by
          have := bls_map (t.cps.toList.map sgn)
          rw [List.map_map] at this
          exact this
        simp only [List.nil_append] at hc
        simp [dTru, dIx, seqOf, dInt2, dInt2L, dLen, dAdd, dNew, dTup, kindOk, dAppend, dPop, dIsi, tyD, Ty.is, m_is_name, b_is_name, dIn, ek, hk, isNm, hkk, hz, dEq_int, h0', g_LONGEST, h8, h9, h8I, h9I, h1, h1I, hc, dAll, hb]
noncomputable def Lay (n : Nat) (d : D) : Prop := ∀ (G : DH) (k : Nat), n ≤ k → ∃ p, toP G k d = some p ∧ p.canLay0 = true
theorem Lay.mono {n m : Nat} {d : D} (h : Lay n d) (hm : n ≤ m) : Lay m d := fun G k hk => h G k (Nat.le_trans hm hk)
theorem lay_str {s : Str} (h : PyData.strOk s = true) : Lay 1 (.str s) := fun G k hk => by
  obtain ⟨k, rfl⟩ : ∃ j, k = j + 1 := ⟨k - 1, by omega⟩
  exact ⟨.str s, rfl, by simpa [PyData.canLay0] using h⟩
theorem lay_int (i : Int) : Lay 1 (.int i) := fun G k hk => by
  obtain ⟨k, rfl⟩ : ∃ j, k = j + 1 := ⟨k - 1, by omega⟩
  exact ⟨.int i, rfl, by simp [PyData.canLay0]⟩
theorem lay_non : Lay 1 .non := fun G k hk => by
  obtain ⟨k, rfl⟩ : ∃ j, k = j + 1 := ⟨k - 1, by omega⟩
  exact ⟨.none, rfl, by simp [PyData.canLay0]⟩
theorem lay_all {n : Nat} : ∀ (ds : List D), (∀ d ∈ ds, Lay n d) → ∀ (G : DH) (k : Nat), n ≤ k → ∃ ps, optMap (toP G k) ds = some ps ∧ PyData.canLayAll0 ps = true
  | [], h, G, k, hk => ⟨[], rfl, by simp [PyData.canLayAll0]⟩
  | d :: ds, h, G, k, hk => by
    obtain ⟨p, e1, c1⟩ := h d (by simp) G k hk
    obtain ⟨ps, e2, c2⟩ := lay_all ds (fun x hx => h x (by simp [hx])) G k hk
    exact ⟨p :: ps, by simp [optMap, e1, e2], by simp [PyData.canLayAll0, c1, c2]⟩
theorem lay_tup {n : Nat} {ds : List D} (h : ∀ d ∈ ds, Lay n d) : Lay (n + 1) (.tup ds) := fun G k hk => by
  obtain ⟨k, rfl⟩ : ∃ j, k = j + 1 := ⟨k - 1, by omega⟩
  obtain ⟨ps, e, c⟩ := lay_all ds h G k (by first | decide | omega)
  exact ⟨.tuple ps, by simp [toP, e], by simpa [PyData.canLay0] using c⟩
theorem tup_p {ds : List D} {n : Nat} (hn : n ≤ deep) (h : Lay n (.tup ds)) (G : DH) : ∃ ps, toP G deep (.tup ds) = some (.tuple ps) ∧ (PyData.tuple ps).canLay0 = true := by
  obtain ⟨p, e, c⟩ := h G deep hn
  have e' : (optMap (toP G 199) ds).map PyData.tuple = some p := e
  cases q : optMap (toP G 199) ds with
  | none => rw [q] at e'; cases e'
  | some ps => rw [q] at e'; cases e'; exact ⟨ps, e, c⟩
theorem dEq_tup {ds : List D} {n : Nat} (hn : n ≤ deep) (h : Lay n (.tup ds)) (s : Str) (hs : PyData.strOk s = true) (G : DH) : dEq false (.tup ds) (.str s) G = .ok (.bl false) G := by
  obtain ⟨ps, e, c⟩ := tup_p hn h G
  have e2 : toP G deep (.str s) = some (.str s) := rfl
  have hc : ((PyData.tuple ps).canLay0 && ((PyData.str s).canLay0 && decide (min (PyData.tuple ps).depth (PyData.str s).depth ≤ 180))) = true := by
    have : (PyData.str s).depth ≤ 180 := by simp [PyData.depth]
    have h3 : min (PyData.tuple ps).depth (PyData.str s).depth ≤ 180 := by omega
    rw [c, show (PyData.str s).canLay0 = true by simpa [PyData.canLay0] using hs]
    simpa using h3
  unfold dEq dEqB
  rw [e, e2]
  dsimp only
  rw [if_pos hc]
  simp [PyData.eqv]
theorem depth_strs : ∀ ws : List Str, PyData.depthAll (ws.map PyData.str) ≤ 180
  | [] => by simp [PyData.depthAll]
  | w :: ws => by
    have := depth_strs ws
    simp [PyData.depthAll, PyData.depth]
    omega
theorem inB_tup {ds : List D} {n : Nat} (hn : n ≤ deep) (h : Lay n (.tup ds)) (ws : List Str) (hw : PyData.canLayAll0 (ws.map PyData.str) = true) (G : DH) : inB (.tup ds) (ws.map D.str) G = some false := by
  obtain ⟨ps, e, c⟩ := tup_p hn h G
  unfold inB
  rw [e, optMap_strs]
  dsimp only
  have h3 : min (PyData.depthAll (ws.map PyData.str)) (PyData.tuple ps).depth ≤ 180 := by have := depth_strs ws; omega
  rw [if_pos (by rw [c, hw]; simpa using h3)]
  simp [List.any_map, PyData.eqv]
end K16
end
section
set_option Elab.async false
set_option linter.all false
set_option maxRecDepth 100000
set_option maxHeartbeats 4000000
namespace K16
open PySem PySem.Spec L2 L3
noncomputable def consts : List Str := ["(", ")", "start", "rule", "row", "mix", "many", "any", "kind", "not", "both", "either", "way", "0", "1", "2", "down", "deep", "later"]
noncomputable def cls (s : Str) : Nat := match consts.findIdx? (· == s) with
  | some i => i
  | none => if isNm s then 100 else 101
noncomputable def nmC (c : Nat) : Bool := c == 16 || c == 17 || c == 18 || c == 100
theorem cls_consts : ∀ i < 19, cls (consts.getD i "") = i ∧ isNm (consts.getD i "") = nmC i := by decide +kernel
theorem cls_lt {s : Str} (h : cls s < 19) : s = consts.getD (cls s) "" := by
  unfold cls at h ⊢
  cases q : consts.findIdx? (· == s) with
  | none => rw [q] at h; dsimp only at h; split at h <;> omega
  | some i =>
    dsimp only
    obtain ⟨hi, hp, _⟩ := List.findIdx?_eq_some_iff_getElem.mp q
    have := eq_of_beq hp
    rw [List.getD_eq_getElem?_getD, List.getElem?_eq_getElem hi, ← this]; rfl
theorem cls_eq (s : Str) (i : Nat) (hi : i < 19) : (s == consts.getD i "") = (cls s == i) := by
  rw [Bool.eq_iff_iff]
  constructor
  · intro h
    rw [eq_of_beq h, (cls_consts i hi).1]
    simp
  · intro h
    have e : cls s = i := by simpa using h
    have := cls_lt (s := s) (by first | decide | omega)
    rw [e] at this
    rw [this]; simp
theorem isNm_cls (s : Str) : isNm s = nmC (cls s) := by
  by_cases h : cls s < 19
  · have e := cls_lt h
    have := (cls_consts (cls s) h).2
    rw [← e] at this
    exact this
  · unfold cls at h ⊢
    cases q : consts.findIdx? (· == s) with
    | some i =>
      rw [q] at h
      obtain ⟨hi, _⟩ := List.findIdx?_eq_some_iff_getElem.mp q
      exact absurd hi h
    | none =>
      dsimp only
      cases isNm s <;> rfl
inductive Pt where
  | w (c : Nat) | v (t : Nat)
noncomputable def sorts : List Str := ["tree", "shape", "rule", "item", "way", "step", "look"]
noncomputable def sortS (t : Nat) : Str := sorts.getD t ""
noncomputable def Rp (N : Nat) : Pt → D → Prop
  | .w c, d => ∃ s, d = .str s ∧ PyData.strOk s = true ∧ s.length ≤ 900 ∧ cls s = c
  | .v t, d => ∃ x, d = .tup [.str (sortS t), x] ∧ Lay N x ∧ t < 7
theorem sortS_ok : ∀ t < 7, PyData.strOk (sortS t) = true ∧ (sortS t).length ≤ 10 := by decide +kernel
theorem vLay {N t : Nat} {x : D} (hN : 1 ≤ N) (ht : t < 7) (l : Lay N x) : Lay (N + 1) (.tup [.str (sortS t), x]) := lay_tup fun d hd => by
  rcases List.mem_cons.mp hd with rfl | hd
  · exact (lay_str (sortS_ok t ht).1).mono hN
  · rw [List.mem_singleton.mp hd]; exact l
theorem Rp.mono {N M : Nat} (h : N ≤ M) : ∀ {p : Pt} {d : D}, Rp N p d → Rp M p d
  | .w c, d, r => r
  | .v t, d, ⟨x, e, l, ht⟩ => ⟨x, e, l.mono h, ht⟩
noncomputable def nmP : Pt → Bool
  | .w c => nmC c
  | .v _ => false
noncomputable def valP (t : Nat) : Pt → Bool
  | .w _ => false
  | .v u => u == t
noncomputable def isW (c : Nat) : Pt → Bool
  | .w b => b == c
  | .v _ => false
noncomputable def Nt (o : Out D) (G : DH) : Prop := ∃ as E, o = .exn (.mk "NoText" as) (G ++ E)
noncomputable def Okv (o : Out D) (G : DH) (v : D) : Prop := ∃ E, o = .ok v (G ++ E)
theorem sortS_eq : ∀ t < 7, ∀ u < 7, (sortS t == sortS u) = (t == u) := by decide +kernel
theorem consts_ok : ∀ i < 19, PyData.strOk (consts.getD i "") = true := by decide +kernel
theorem eq_part {N : Nat} (hN1 : 1 ≤ N) (hN : N + 1 ≤ deep) {p : Pt} {d : D} (r : Rp N p d) (i : Nat) (hi : i < 19) (G : DH) : dEq false d (.str (consts.getD i "")) G = .ok (.bl (isW i p)) G := by
  cases p with
  | w c =>
    obtain ⟨s, rfl, k, l, rfl⟩ := r
    rw [dEq_str _ _ _ _ k (consts_ok i hi), cls_eq s i hi]
    simp [isW]
  | v t =>
    obtain ⟨x, rfl, l, ht⟩ := r
    exact dEq_tup hN (vLay hN1 ht l) _ (consts_ok i hi) G
theorem name_sim {N : Nat} {p : Pt} {d : D} (r : Rp N p d) (G : DH) : if nmP p then Okv (m_name_of [d] G) G d else Nt (m_name_of [d] G) G := by
  have z1 : (1 : Nat) ≤ sizeLine := lz (by first | decide | omega)
  cases p with
  | w c =>
    obtain ⟨s, rfl, k, l, rfl⟩ := r
    obtain ⟨E, e⟩ := is_name_eq s G k l
    rw [isNm_cls] at e
    cases h : nmC (cls s) with
    | true =>
      rw [h] at e
      rw [if_pos (show nmP (.w (cls s)) = true from h)]
      exact ⟨E, by simp [dTru, dIx, seqOf, dInt2, dInt2L, dLen, dAdd, dNew, dTup, kindOk, dAppend, dPop, dIsi, tyD, Ty.is, m_name_of, b_name_of, e]⟩
    | false =>
      rw [h] at e
      rw [if_neg (by simp [nmP, h])]
      exact ⟨_, E, by simp [dTru, dIx, seqOf, dInt2, dInt2L, dLen, dAdd, dNew, dTup, kindOk, dAppend, dPop, dIsi, tyD, Ty.is, m_name_of, b_name_of, e, z1]; rfl⟩
  | v t =>
    obtain ⟨x, rfl, l, ht⟩ := r
    rw [if_neg (by simp [nmP])]
    exact ⟨_, [], by simp [dTru, dIx, seqOf, dInt2, dInt2L, dLen, dAdd, dNew, dTup, kindOk, dAppend, dPop, dIsi, tyD, Ty.is, m_name_of, b_name_of, m_is_name, b_is_name, z1]; rfl⟩
theorem value_sim {N : Nat} {p : Pt} {d : D} (r : Rp N p d) (t : Nat) (ht : t < 7) (G : DH) : if valP t p then ∃ x, m_value_of [d, .str (sortS t)] G = .ok x G ∧ Lay N x else Nt (m_value_of [d, .str (sortS t)] G) G := by
  have z1 : (1 : Nat) ≤ sizeLine := lz (by first | decide | omega)
  have hc : ("what must stand here: " : Str).length ≤ sizeLine := lz (by decide +kernel)
  have hl := (sortS_ok t ht).2
  have hf : (("what must stand here: " : Str) ++ sortS t).length ≤ sizeLine ∧ (sortS t).length ≤ sizeLine := by
    have : ("what must stand here: " : Str).length = 22 := by decide +kernel
    exact ⟨lz (by rw [len_add]; omega), lz (by first | decide | omega)⟩
  cases p with
  | w c =>
    obtain ⟨s, rfl, k, l, rfl⟩ := r
    rw [if_neg (by simp [valP])]
    exact ⟨_, [], by simp [dTru, dIx, seqOf, dInt2, dInt2L, dLen, dAdd, dNew, dTup, kindOk, dAppend, dPop, dIsi, tyD, Ty.is, m_value_of, b_value_of, eFmt_l hc, fmt1, hf, z1]; rfl⟩
  | v u =>
    obtain ⟨x, rfl, l, hu⟩ := r
    have he := dEq_str false (sortS u) (sortS t) G (sortS_ok u hu).1 (sortS_ok t ht).1
    rw [sortS_eq u hu t ht] at he
    have a0 : atI [D.str (sortS u), x] 0 = some (.str (sortS u)) := by
      have := atI_nat (xs := [D.str (sortS u), x]) (j := 0) (v := .str (sortS u)) rfl
      simpa using this
    have a1 : atI [D.str (sortS u), x] 1 = some x := by
      have := atI_nat (xs := [D.str (sortS u), x]) (j := 1) (v := x) rfl
      simpa using this
    cases h : (u == t) with
    | true =>
      rw [h] at he
      have hut : u = t := by simpa using h
      rw [if_pos (by simp [valP, hut])]
      refine ⟨x, ?_, l⟩
      simp [dTru, dIx, seqOf, dInt2, dInt2L, dLen, dAdd, dNew, dTup, kindOk, dAppend, dPop, dIsi, tyD, Ty.is, m_value_of, b_value_of, a0, a1, he]
    | false =>
      rw [h] at he
      rw [if_neg (by simp [valP, h])]
      exact ⟨_, [], by simp [dTru, dIx, seqOf, dInt2, dInt2L, dLen, dAdd, dNew, dTup, kindOk, dAppend, dPop, dIsi, tyD, Ty.is, m_value_of, b_value_of, a0, a1, he, eFmt_l hc, fmt1, hf, z1]; rfl⟩
noncomputable def inP (f : Nat → Bool) : Pt → Bool
  | .w c => f c
  | .v _ => false
theorem in_part {N : Nat} (hN1 : 1 ≤ N) (hN : N + 1 ≤ deep) {p : Pt} {d : D} (r : Rp N p d) (ws : List Str) (hw : PyData.canLayAll0 (ws.map PyData.str) = true) (f : Nat → Bool) (hf : ∀ s, (ws.any (· == s)) = f (cls s)) (G : DH) :
    inB d (ws.map D.str) G = some (inP f p) := by
  cases p with
  | w c =>
    obtain ⟨s, rfl, k, l, rfl⟩ := r
    rw [inB_strs s ws G k hw, hf]; rfl
  | v t =>
    obtain ⟨x, rfl, l, ht⟩ := r
    exact inB_tup hN (vLay hN1 ht l) ws hw G
noncomputable def Rps (N : Nat) : List Pt → List D → Prop
  | [], [] => True
  | p :: ps, d :: ds => Rp N p d ∧ Rps N ps ds
  | _, _ => False
theorem Rps.len {N : Nat} : ∀ {ps : List Pt} {ds : List D}, Rps N ps ds → ps.length = ds.length
  | [], [], _ => rfl
  | p :: ps, d :: ds, h => by simp [Rps.len h.2]
  | [], d :: ds, h => h.elim
  | p :: ps, [], h => h.elim
theorem Rps.mono {N M : Nat} (h : N ≤ M) : ∀ {ps : List Pt} {ds : List D}, Rps N ps ds → Rps M ps ds
  | [], [], _ => trivial
  | p :: ps, d :: ds, r => ⟨r.1.mono h, Rps.mono h r.2⟩
  | [], d :: ds, r => r.elim
  | p :: ps, [], r => r.elim
theorem Rps.app {N : Nat} {p : Pt} {d : D} (r : Rp N p d) : ∀ {ps : List Pt} {ds : List D}, Rps N ps ds → Rps N (ps ++ [p]) (ds ++ [d])
  | [], [], _ => ⟨r, trivial⟩
  | q :: ps, e :: ds, h => ⟨h.1, Rps.app r h.2⟩
  | [], d :: ds, r => r.elim
  | p :: ps, [], r => r.elim
theorem values_loop {N : Nat} (t : Nat) (ht : t < 7) (C : DH) (o : Nat) (ds : List D) (hC : C[o]? = some (.lst ds)) (hlen : ds.length ≤ 400) : ∀ (rest : List D) (ps : List Pt) (k : Nat) (acc : List D) (fl : Nat), ds.drop k = rest → Rps N ps rest → rest.length < fl → acc.length + rest.length ≤ 500 →
    if ps.all (valP t) then ∃ xs, compO oN [false, true] tYes (eCall 2 m_value_of (aCons (eVar 0) (aCons (eVar 2) (aNil)))) C.length o fl k [some (.obj o), some (.str (sortS t))] (C ++ [.lst acc]) = .ok (.obj C.length) (C ++ [.lst (acc ++ xs)]) ∧ xs.length = rest.length ∧ ∀ x ∈ xs, Lay N x
    else Nt (compO oN [false, true] tYes (eCall 2 m_value_of (aCons (eVar 0) (aCons (eVar 2) (aNil)))) C.length o fl k [some (.obj o), some (.str (sortS t))] (C ++ [.lst acc])) C
  | _, _, k, acc, 0, hd, hr, hf, ha => by omega
  | [], [], k, acc, fl + 1, hd, hr, hf, ha => by
    have hk : ds[k]? = none := List.getElem?_eq_none (List.drop_eq_nil_iff.mp hd)
    rw [if_pos (by simp)]
    refine ⟨[], ?_, rfl, by simp⟩
    rw [compO, lstOf_app hC]
    simp [hk]
  | d :: r, p :: ps, k, acc, fl + 1, hd, hr, hf, ha => by
    have hs : acc.length < sizeLine := Nat.lt_of_lt_of_le (by simp at ha; omega) (lz (n := 1001) (by first | decide | omega))
    have hlt : k < ds.length := by
      rcases Nat.lt_or_ge k ds.length with h | h
      · exact h
      · rw [List.drop_eq_nil_of_le h] at hd; cases hd
    rw [List.drop_eq_getElem_cons hlt] at hd
    have hk : ds[k]? = some d := by rw [List.getElem?_eq_getElem hlt]; exact congrArg some (List.cons.inj hd).1
    have hv := value_sim hr.1 t ht (C ++ [.lst acc])
    cases h : valP t p with
    | true =>
      rw [if_pos h] at hv
      obtain ⟨x, ex, lx⟩ := hv
      have e1 : compOne oN [false, true] tYes (eCall 2 m_value_of (aCons (eVar 0) (aCons (eVar 2) (aNil)))) C.length d [some (.obj o), some (.str (sortS t))] (C ++ [.lst acc]) = .ok () (C ++ [.lst (acc ++ [x])]) := by
        simp [dTru, dIx, seqOf, dInt2, dInt2L, dLen, dAdd, dNew, dTup, kindOk, dAppend, dPop, dIsi, tyD, Ty.is, compOne, oN, mask, tYes, ex, hs]
      have ih := values_loop t ht C o ds hC hlen r ps (k + 1) (acc ++ [x]) fl (List.cons.inj hd).2 hr.2 (by simpa using hf) (by simp at ha ⊢; omega)
      rw [compO, lstOf_app hC]
      simp only [hk, e1, List.all_cons, h, Bool.true_and]
      by_cases ha2 : ps.all (valP t) = true
      · rw [if_pos ha2] at ih ⊢
        obtain ⟨xs, e2, hx, hl⟩ := ih
        refine ⟨x :: xs, by rw [e2]; simp, by simp [hx], ?_⟩
        intro y hy
        rcases List.mem_cons.mp hy with rfl | hy
        · exact lx
        · exact hl y hy
      · rw [if_neg ha2] at ih ⊢
        exact ih
    | false =>
      rw [if_neg (by simp [h])] at hv
      obtain ⟨as, E, ex⟩ := hv
      rw [if_neg (by simp [h])]
      have e1 : compOne oN [false, true] tYes (eCall 2 m_value_of (aCons (eVar 0) (aCons (eVar 2) (aNil)))) C.length d [some (.obj o), some (.str (sortS t))] (C ++ [.lst acc]) = .exn (.mk "NoText" as) (C ++ ([.lst acc] ++ E)) := by
        simp only [List.append_assoc] at ex
        simp [dTru, dIx, seqOf, dInt2, dInt2L, dLen, dAdd, dNew, dTup, kindOk, dAppend, dPop, dIsi, tyD, Ty.is, compOne, oN, mask, tYes, ex]
      refine ⟨as, [.lst acc] ++ E, ?_⟩
      rw [compO, lstOf_app hC]
      simp only [hk, e1]
  | [], p :: ps, k, acc, fl + 1, hd, hr, hf, ha => hr.elim
  | d :: r, [], k, acc, fl + 1, hd, hr, hf, ha => hr.elim
theorem values_sim {N : Nat} (t : Nat) (ht : t < 7) (G : DH) (o : Nat) (ds : List D) (ps : List Pt) (hG : G[o]? = some (.lst ds)) (hr : Rps N ps ds) (hl : ds.length ≤ 400) :
    if ps.all (valP t) then ∃ xs E, m_values_of [.obj o, .str (sortS t)] G = .ok (.tup xs) (G ++ E) ∧ ∀ x ∈ xs, Lay N x else Nt (m_values_of [.obj o, .str (sortS t)] G) G := by
  have h := values_loop t ht G o ds hG hl ds ps 0 [] (ds.length + 1) (by simp) hr (by first | decide | omega) (by simp; omega)
  by_cases ha : ps.all (valP t) = true
  · rw [if_pos ha] at h ⊢
    obtain ⟨xs, e, hx, hL⟩ := h
    have hz : xs.length ≤ sizeLine := lz (by first | decide | omega)
    refine ⟨xs, [.lst xs], ?_, hL⟩
    simp only [List.nil_append] at e
    simp [dTru, dIx, seqOf, dInt2, dInt2L, dLen, dAdd, dNew, dTup, kindOk, dAppend, dPop, dIsi, tyD, Ty.is, m_values_of, b_values_of, hG, e, dTupOf, hz]
  · rw [if_neg ha] at h ⊢
    obtain ⟨as, E, e⟩ := h
    refine ⟨as, E, ?_⟩
    simp [dTru, dIx, seqOf, dInt2, dInt2L, dLen, dAdd, dNew, dTup, kindOk, dAppend, dPop, dIsi, tyD, Ty.is, m_values_of, b_values_of, hG, e]
end K16
end
section
set_option Elab.async false
set_option linter.all false
set_option maxRecDepth 100000
set_option maxHeartbeats 4000000
namespace K16
open PySem PySem.Spec L2 L3
theorem cut_from (ds : List D) (k : Nat) : cutD ds (some (k : Int)) none = ds.drop k := by
  unfold cutD
  rw [HT.sIx_none, HT.sIx_nat]
  rcases Nat.le_total k ds.length with h | h
  · rw [Nat.min_eq_left h, List.take_of_length_le (by simp)]
  · rw [Nat.min_eq_right h, List.drop_eq_nil_of_le (Nat.le_refl _), List.drop_eq_nil_of_le h]; simp
theorem cut1 (ds : List D) : cutD ds (some 1) none = ds.drop 1 := cut_from ds 1
theorem cut2 (ds : List D) : cutD ds (some 2) none = ds.drop 2 := cut_from ds 2
theorem cut4 (ds : List D) : cutD ds (some 4) none = ds.drop 4 := cut_from ds 4
theorem cutT (ds : List D) : cutD ds none (some 1) = ds.take 1 := by
  unfold cutD
  have : HT.sIx ds.length ds.length (some ((1 : Nat) : Int)) = min 1 ds.length := HT.sIx_nat _ _ 1
  rw [show HT.sIx ds.length 0 none = 0 from rfl, show (some (1 : Int)) = some ((1 : Nat) : Int) from rfl, this]
  simp
theorem at0 {α : Type} (x : α) (xs : List α) : atI (x :: xs) 0 = some x := by
  have := atI_nat (xs := x :: xs) (j := 0) (v := x) rfl
  simpa using this
theorem at1 {α : Type} (x y : α) (xs : List α) : atI (x :: y :: xs) 1 = some y := by
  have := atI_nat (xs := x :: y :: xs) (j := 1) (v := y) rfl
  simpa using this
theorem at2 {α : Type} (x y z : α) (xs : List α) : atI (x :: y :: z :: xs) 2 = some z := by
  have := atI_nat (xs := x :: y :: z :: xs) (j := 2) (v := z) rfl
  simpa using this
theorem at3 {α : Type} (x y z u : α) (xs : List α) : atI (x :: y :: z :: u :: xs) 3 = some u := by
  have := atI_nat (xs := x :: y :: z :: u :: xs) (j := 3) (v := u) rfl
  simpa using this
noncomputable def lookP (p : Pt) : Bool := isW 7 p || valP 4 p || valP 6 p
theorem look_sim {N : Nat} (hN1 : 1 ≤ N) (hN : N + 1 ≤ deep) {p : Pt} {d : D} (r : Rp N p d) (G : DH) : if lookP p then ∃ v, m_look_of [d] G = .ok v G ∧ Lay (N + 1) v else Nt (m_look_of [d] G) G := by
  have z1 : (1 : Nat) ≤ sizeLine := lz (by first | decide | omega)
  have z2 : (2 : Nat) ≤ sizeLine := lz (by first | decide | omega)
  have ea := eq_part hN1 hN r 7 (by first | decide | omega) G
  have ec : consts.getD 7 "" = "any" := rfl
  rw [ec] at ea
  have hv := value_sim r 6 (by first | decide | omega) G
  have es : sortS 6 = "look" := rfl
  rw [es] at hv
  cases p with
  | w c =>
    obtain ⟨s, rfl, k, l, rfl⟩ := r
    cases h : (cls s == 7) with
    | true =>
      rw [if_pos (by simp [lookP, isW, h])]
      refine ⟨.tup [.str "any"], ?_, (lay_tup (n := 1) (by intro d hd; rw [List.mem_singleton.mp hd]; exact lay_str (by decide +kernel))).mono (by first | decide | omega)⟩
      simp only [isW, h] at ea
      simp [dTru, dIx, seqOf, dInt2, dInt2L, dLen, dAdd, dNew, dTup, kindOk, dAppend, dPop, dIsi, tyD, Ty.is, m_look_of, b_look_of, ea, z1]
    | false =>
      rw [if_neg (by simp [lookP, isW, valP, h])]
      rw [if_neg (by simp [valP])] at hv
      obtain ⟨as, E, e⟩ := hv
      refine ⟨as, E, ?_⟩
      simp only [isW, h] at ea
      simp [dTru, dIx, seqOf, dInt2, dInt2L, dLen, dAdd, dNew, dTup, kindOk, dAppend, dPop, dIsi, tyD, Ty.is, m_look_of, b_look_of, ea, e]
  | v t =>
    obtain ⟨x, rfl, l, ht⟩ := r
    simp only [isW] at ea
    have he := dEq_str false (sortS t) (sortS 4) G (sortS_ok t ht).1 (by decide +kernel)
    rw [sortS_eq t ht 4 (by first | decide | omega)] at he
    have es4 : sortS 4 = "way" := rfl
    rw [es4] at he
    cases h : (t == 4) with
    | true =>
      rw [h] at he
      rw [if_pos (by simp [lookP, valP, h])]
      refine ⟨.tup [.str "way", x], ?_, lay_tup fun d hd => ?_⟩
      · simp [dTru, dIx, seqOf, dInt2, dInt2L, dLen, dAdd, dNew, dTup, kindOk, dAppend, dPop, dIsi, tyD, Ty.is, m_look_of, b_look_of, ea, at0, at1, he, z2]
      · rcases List.mem_cons.mp hd with rfl | hd
        · exact (lay_str (by decide +kernel)).mono hN1
        · rw [List.mem_singleton.mp hd]; exact l
    | false =>
      rw [h] at he
      cases h6 : (t == 6) with
      | true =>
        rw [if_pos (by simp [valP, h6])] at hv
        rw [if_pos (by simp [lookP, valP, h6])]
        obtain ⟨y, e, ly⟩ := hv
        refine ⟨y, ?_, ly.mono (by first | decide | omega)⟩
        simp [dTru, dIx, seqOf, dInt2, dInt2L, dLen, dAdd, dNew, dTup, kindOk, dAppend, dPop, dIsi, tyD, Ty.is, m_look_of, b_look_of, ea, at0, at1, he, e]
      | false =>
        rw [if_neg (by simp [valP, h6])] at hv
        rw [if_neg (by simp [lookP, isW, valP, h, h6])]
        obtain ⟨as, E, e⟩ := hv
        refine ⟨as, E, ?_⟩
        simp [dTru, dIx, seqOf, dInt2, dInt2L, dLen, dAdd, dNew, dTup, kindOk, dAppend, dPop, dIsi, tyD, Ty.is, m_look_of, b_look_of, ea, at0, at1, he, e]
noncomputable def cntC (p : Pt) : Option Nat := match p with
  | .w c => if c == 13 then some 0 else if c == 14 then some 1 else if c == 15 then some 2 else none
  | .v _ => none
theorem cnt_any (s : Str) : ((["0", "1", "2"] : List Str).any (· == s)) = (fun c => c == 13 || c == 14 || c == 15) (cls s) := by
  have h0 := cls_eq s 13 (by first | decide | omega)
  have h1 := cls_eq s 14 (by first | decide | omega)
  have h2 := cls_eq s 15 (by first | decide | omega)
  have c0 : consts.getD 13 "" = "0" := rfl
  have c1 : consts.getD 14 "" = "1" := rfl
  have c2 : consts.getD 15 "" = "2" := rfl
  rw [c0] at h0; rw [c1] at h1; rw [c2] at h2
  simp only [List.any_cons, List.any_nil, Bool.or_false]
  rw [← h0, ← h1, ← h2, Bool.beq_comm, Bool.beq_comm (a := ("1" : Str)), Bool.beq_comm (a := ("2" : Str)), Bool.or_assoc]
end K16
end
section
set_option Elab.async false
set_option linter.all false
set_option maxRecDepth 100000
set_option maxHeartbeats 4000000
namespace K16
open PySem PySem.Spec L2 L3
theorem get3 {α : Type} {l : List α} (h : l.length = 3) : ∃ a b c, l = [a, b, c] := by
  match l, h with
  | [a, b, c], _ => exact ⟨a, b, c, rfl⟩
theorem get2 {α : Type} {l : List α} (h : l.length = 2) : ∃ a b, l = [a, b] := by
  match l, h with
  | [a, b], _ => exact ⟨a, b, rfl⟩
theorem ge2 {α : Type} {l : List α} (h : 2 ≤ l.length) : ∃ a b r, l = a :: b :: r := by
  match l, h with
  | a :: b :: r, _ => exact ⟨a, b, r, rfl⟩
theorem ge3 {α : Type} {l : List α} (h : 3 ≤ l.length) : ∃ a b c r, l = a :: b :: c :: r := by
  match l, h with
  | a :: b :: c :: r, _ => exact ⟨a, b, c, r, rfl⟩
theorem ge4 {α : Type} {l : List α} (h : 4 ≤ l.length) : ∃ a b c d r, l = a :: b :: c :: d :: r := by
  match l, h with
  | a :: b :: c :: d :: r, _ => exact ⟨a, b, c, d, r, rfl⟩
theorem ix0 (G : DH) : dIndex g_COUNTS [.str "0"] G = .ok (.int 0) G := by rfl
theorem ix1 (G : DH) : dIndex g_COUNTS [.str "1"] G = .ok (.int 1) G := by rfl
theorem ix2 (G : DH) : dIndex g_COUNTS [.str "2"] G = .ok (.int 2) G := by rfl
theorem eC_counts : g_COUNTS = .tup [.str "0", .str "1", .str "2"] := rfl
theorem count_sim {N : Nat} (hN1 : 1 ≤ N) (hN : N + 1 ≤ deep) {p : Pt} {d : D} (r : Rp N p d) (G : DH) : match cntC p with
    | some i => m_count_of [d] G = .ok (.int i) G
    | none => Nt (m_count_of [d] G) G := by
  have z1 : (1 : Nat) ≤ sizeLine := lz (by first | decide | omega)
  have hi := in_part hN1 hN r ["0", "1", "2"] (by decide +kernel) (fun c => c == 13 || c == 14 || c == 15) cnt_any G
  simp only [List.map_cons, List.map_nil] at hi
  cases p with
  | w c =>
    obtain ⟨s, rfl, k, l, rfl⟩ := r
    simp only [inP] at hi
    by_cases h0 : cls s = 13
    · have e := cls_lt (s := s) (by first | decide | omega)
      rw [h0] at e
      have e' : s = "0" := e
      subst e'
      simp only [h0] at hi
      simp only [cntC, h0]
      have i0 := ix0 G
      rw [eC_counts] at i0
      simp [dTru, dIx, seqOf, dInt2, dInt2L, dLen, dAdd, dNew, dTup, kindOk, dAppend, dPop, dIsi, tyD, Ty.is, m_count_of, b_count_of, dIn, eC_counts, hi, i0]
    · by_cases h1 : cls s = 14
      · have e := cls_lt (s := s) (by first | decide | omega)
        rw [h1] at e
        have e' : s = "1" := e
        subst e'
        simp only [h1] at hi
        simp only [cntC, h1]
        have i0 := ix1 G
        rw [eC_counts] at i0
        simp [dTru, dIx, seqOf, dInt2, dInt2L, dLen, dAdd, dNew, dTup, kindOk, dAppend, dPop, dIsi, tyD, Ty.is, m_count_of, b_count_of, dIn, eC_counts, hi, i0]
      · by_cases h2 : cls s = 15
        · have e := cls_lt (s := s) (by first | decide | omega)
          rw [h2] at e
          have e' : s = "2" := e
          subst e'
          simp only [h2] at hi
          simp only [cntC, h2]
          have i0 := ix2 G
          rw [eC_counts] at i0
          simp [dTru, dIx, seqOf, dInt2, dInt2L, dLen, dAdd, dNew, dTup, kindOk, dAppend, dPop, dIsi, tyD, Ty.is, m_count_of, b_count_of, dIn, eC_counts, hi, i0]
        · have b0 : (cls s == 13) = false := by simpa using h0
          have b1 : (cls s == 14) = false := by simpa using h1
          have b2 : (cls s == 15) = false := by simpa using h2
          simp only [b0, b1, b2] at hi
          simp only [cntC, b0, b1, b2]
          exact ⟨_, [], by simp [dTru, dIx, seqOf, dInt2, dInt2L, dLen, dAdd, dNew, dTup, kindOk, dAppend, dPop, dIsi, tyD, Ty.is, m_count_of, b_count_of, dIn, eC_counts, hi, z1]; rfl⟩
  | v t =>
    simp only [inP] at hi
    simp only [cntC]
    exact ⟨_, [], by simp [dTru, dIx, seqOf, dInt2, dInt2L, dLen, dAdd, dNew, dTup, kindOk, dAppend, dPop, dIsi, tyD, Ty.is, m_count_of, b_count_of, dIn, eC_counts, hi, z1]; rfl⟩
noncomputable def hiC (p : Pt) (low : Nat) : Bool := isW 6 p || (match cntC p with | some h => decide (low ≤ h) | none => false)
theorem high_sim {N : Nat} (hN1 : 1 ≤ N) (hN : N + 1 ≤ deep) {p : Pt} {d : D} (r : Rp N p d) (low : Nat) (G : DH) : if hiC p low then ∃ v, m_high_of [d, .int low] G = .ok v G ∧ Lay 1 v else Nt (m_high_of [d, .int low] G) G := by
  have z1 : (1 : Nat) ≤ sizeLine := lz (by first | decide | omega)
  have em := eq_part hN1 hN r 6 (by first | decide | omega) G
  have ec : consts.getD 6 "" = "many" := rfl
  rw [ec] at em
  have hc := count_sim hN1 hN r G
  cases h6 : isW 6 p with
  | true =>
    rw [h6] at em
    rw [if_pos (by simp [hiC, h6])]
    exact ⟨.non, by simp [dTru, dIx, seqOf, dInt2, dInt2L, dLen, dAdd, dNew, dTup, kindOk, dAppend, dPop, dIsi, tyD, Ty.is, m_high_of, b_high_of, em], lay_non⟩
  | false =>
    rw [h6] at em
    cases hq : cntC p with
    | none =>
      rw [hq] at hc
      obtain ⟨as, E, e⟩ := hc
      rw [if_neg (by simp [hiC, h6, hq])]
      exact ⟨as, E, by simp [dTru, dIx, seqOf, dInt2, dInt2L, dLen, dAdd, dNew, dTup, kindOk, dAppend, dPop, dIsi, tyD, Ty.is, m_high_of, b_high_of, em, e]⟩
    | some i =>
      rw [hq] at hc
      dsimp only at hc
      by_cases hle : low ≤ i
      · rw [if_pos (by simp [hiC, h6, hq, hle])]
        have hn : ¬ i < low := by omega
        have hnI : ¬ (i : Int) < (low : Int) := by omega
        exact ⟨.int i, by simp [dTru, dIx, seqOf, dInt2, dInt2L, dLen, dAdd, dNew, dTup, kindOk, dAppend, dPop, dIsi, tyD, Ty.is, m_high_of, b_high_of, em, hc, hn, hnI], lay_int _⟩
      · rw [if_neg (by simp [hiC, h6, hq, hle])]
        have hn : i < low := by omega
        have hnI : (i : Int) < (low : Int) := by omega
        exact ⟨_, [], by simp [dTru, dIx, seqOf, dInt2, dInt2L, dLen, dAdd, dNew, dTup, kindOk, dAppend, dPop, dIsi, tyD, Ty.is, m_high_of, b_high_of, em, hc, hn, hnI, z1]; rfl⟩
noncomputable def Okl (o : Out D) (G : DH) (N : Nat) : Prop := ∃ v E, o = .ok v (G ++ E) ∧ Lay N v
noncomputable def itemC (ps : List Pt) : Bool := match ps with
  | [p0, p1, p2] => (match cntC p1 with | some low => nmP p0 && hiC p2 low | none => false)
  | _ => false
theorem lay3 {N : Nat} {a b c : D} (ha : Lay N a) (hb : Lay N b) (hc : Lay N c) : Lay (N + 1) (.tup [a, b, c]) := lay_tup fun d hd => by
  simp at hd
  rcases hd with rfl | rfl | rfl <;> assumption
theorem lay2 {N : Nat} {a b : D} (ha : Lay N a) (hb : Lay N b) : Lay (N + 1) (.tup [a, b]) := lay_tup fun d hd => by
  simp at hd
  rcases hd with rfl | rfl <;> assumption
theorem lay4 {N : Nat} {a b c e : D} (ha : Lay N a) (hb : Lay N b) (hc : Lay N c) (he : Lay N e) : Lay (N + 1) (.tup [a, b, c, e]) := lay_tup fun d hd => by
  simp at hd
  rcases hd with rfl | rfl | rfl | rfl <;> assumption
theorem nm_lay {N : Nat} (hN1 : 1 ≤ N) {p : Pt} {d : D} (r : Rp N p d) (h : nmP p = true) : Lay N d := by
  cases p with
  | w c => obtain ⟨s, rfl, k, _⟩ := r; exact (lay_str k).mono hN1
  | v t => cases h
theorem item_sim {N : Nat} (hN1 : 1 ≤ N) (hN : N + 1 ≤ deep) (G : DH) (o : Nat) (ds : List D) (ps : List Pt) (hG : G[o]? = some (.lst ds)) (hr : Rps N ps ds) : if itemC ps then Okl (m_item_value [.obj o] G) G (N + 1) else Nt (m_item_value [.obj o] G) G := by
  have z1 : (1 : Nat) ≤ sizeLine := lz (by first | decide | omega)
  have z3 : (3 : Nat) ≤ sizeLine := lz (by first | decide | omega)
  have hlen := hr.len
  by_cases h3 : ds.length = 3
  · obtain ⟨d0, d1, d2, rfl⟩ := get3 h3
    obtain ⟨p0, p1, p2, rfl⟩ := get3 (hlen.trans h3)
    obtain ⟨r0, r1, r2, _⟩ := hr
    · skip
      have hc := count_sim hN1 hN r1 G
      cases hq : cntC p1 with
      | none =>
        rw [hq] at hc
        obtain ⟨as, E, e⟩ := hc
        rw [if_neg (by simp [itemC, hq])]
        exact ⟨as, E, by simp [dTru, dIx, seqOf, dInt2, dInt2L, dLen, dAdd, dNew, dTup, kindOk, dAppend, dPop, dIsi, tyD, Ty.is, m_item_value, b_item_value, hG, dEq_int, at1, e]⟩
      | some low =>
        rw [hq] at hc
        dsimp only at hc
        have hn := name_sim r0 G
        cases h0 : nmP p0 with
        | false =>
          rw [if_neg (by simp [h0])] at hn
          obtain ⟨as, E, e⟩ := hn
          rw [if_neg (by simp [itemC, hq, h0])]
          exact ⟨as, E, by simp [dTru, dIx, seqOf, dInt2, dInt2L, dLen, dAdd, dNew, dTup, kindOk, dAppend, dPop, dIsi, tyD, Ty.is, m_item_value, b_item_value, hG, dEq_int, at0, at1, hc, e]⟩
        | true =>
          rw [if_pos h0] at hn
          obtain ⟨E, e⟩ := hn
          have hG1 : (G ++ E)[o]? = some (.lst [d0, d1, d2]) := lstOf_app hG
          have hh := high_sim hN1 hN r2 low (G ++ E)
          cases h2 : hiC p2 low with
          | true =>
            rw [if_pos h2] at hh
            obtain ⟨v, ev, lv⟩ := hh
            rw [if_pos (by simp [itemC, hq, h0, h2])]
            exact ⟨_, E, by simp [dTru, dIx, seqOf, dInt2, dInt2L, dLen, dAdd, dNew, dTup, kindOk, dAppend, dPop, dIsi, tyD, Ty.is, m_item_value, b_item_value, hG, hG1, dEq_int, at0, at1, at2, hc, e, ev, z3]; rfl, lay3 (nm_lay hN1 r0 h0) ((lay_int _).mono hN1) (lv.mono hN1)⟩
          | false =>
            rw [if_neg (by simp [h2])] at hh
            obtain ⟨as, E2, ev⟩ := hh
            rw [if_neg (by simp [itemC, hq, h0, h2])]
            rw [List.append_assoc] at ev
            exact ⟨as, E ++ E2, by simp [dTru, dIx, seqOf, dInt2, dInt2L, dLen, dAdd, dNew, dTup, kindOk, dAppend, dPop, dIsi, tyD, Ty.is, m_item_value, b_item_value, hG, hG1, dEq_int, at0, at1, at2, hc, e, ev]⟩
  · rw [if_neg (by
      intro h
      unfold itemC at h
      split at h
      · exact h3 (by simpa using hlen.symm)
      · cases h)]
    have hb : ((ds.length : Int) == 3) = false := by simp; omega
    exact ⟨_, [], by simp [dTru, dIx, seqOf, dInt2, dInt2L, dLen, dAdd, dNew, dTup, kindOk, dAppend, dPop, dIsi, tyD, Ty.is, m_item_value, b_item_value, hG, dEq_int, hb, z1]; rfl⟩
noncomputable def ruleC (ps : List Pt) : Bool := match ps with
  | _ :: p1 :: p2 :: p3 :: r => (isW 4 p3 || isW 5 p3) && nmP p1 && nmP p2 && r.all (valP 3)
  | _ => false
theorem ord_any (s : Str) : ((["row", "mix"] : List Str).any (· == s)) = (fun c => c == 4 || c == 5) (cls s) := by
  have h0 := cls_eq s 4 (by first | decide | omega)
  have h1 := cls_eq s 5 (by first | decide | omega)
  have c0 : consts.getD 4 "" = "row" := rfl
  have c1 : consts.getD 5 "" = "mix" := rfl
  rw [c0] at h0; rw [c1] at h1
  simp only [List.any_cons, List.any_nil, Bool.or_false]
  rw [← h0, ← h1, Bool.beq_comm, Bool.beq_comm (a := ("mix" : Str))]
theorem eC_orders : g_ORDERS = .tup [.str "row", .str "mix"] := rfl
theorem ordP {p : Pt} : inP (fun c => c == 4 || c == 5) p = (isW 4 p || isW 5 p) := by cases p <;> rfl
theorem ord_lay {N : Nat} (hN1 : 1 ≤ N) {p : Pt} {d : D} (r : Rp N p d) (h : (isW 4 p || isW 5 p) = true) : Lay N d := by
  cases p with
  | w c => obtain ⟨s, rfl, k, _⟩ := r; exact (lay_str k).mono hN1
  | v t => cases h
theorem rule_sim {N : Nat} (hN1 : 1 ≤ N) (hN : N + 1 ≤ deep) (G : DH) (o : Nat) (ds : List D) (ps : List Pt) (hG : G[o]? = some (.lst ds)) (hr : Rps N ps ds) (hl : ds.length ≤ 400) : if ruleC ps then Okl (m_rule_value [.obj o] G) G (N + 2) else Nt (m_rule_value [.obj o] G) G := by
  have z1 : (1 : Nat) ≤ sizeLine := lz (by first | decide | omega)
  have z4 : (4 : Nat) ≤ sizeLine := lz (by first | decide | omega)
  have hlen := hr.len
  by_cases h4 : 4 ≤ ds.length
  · obtain ⟨d0, d1, d2, d3, ds, rfl⟩ := ge4 h4
    obtain ⟨p0, p1, p2, p3, ps, rfl⟩ := ge4 (show 4 ≤ ps.length by omega)
    obtain ⟨r0, r1, r2, r3, rr⟩ := hr
    · skip
      have hlt : ¬ ds.length + 1 + 1 + 1 + 1 < 4 := by omega
      have hltI : ¬ (ds.length : Int) + 1 + 1 + 1 + 1 < 4 := by omega
      have hi := in_part hN1 hN r3 ["row", "mix"] (by decide +kernel) (fun c => c == 4 || c == 5) ord_any G
      rw [ordP] at hi
      simp only [List.map_cons, List.map_nil] at hi
      cases ho : (isW 4 p3 || isW 5 p3) with
      | false =>
        rw [ho] at hi
        rw [if_neg (by simp [ruleC, ho])]
        exact ⟨_, [], by simp [dTru, dIx, seqOf, dInt2, dInt2L, dLen, dAdd, dNew, dTup, kindOk, dAppend, dPop, dIsi, tyD, Ty.is, m_rule_value, b_rule_value, hG, hlt, hltI, at3, dIn, eC_orders, hi, z1]; rfl⟩
      | true =>
        rw [ho] at hi
        have n1 := name_sim r1 G
        have run : ∀ X1, m_name_of [d1] G = X1 → m_rule_value [.obj o] G = (((X1.bd fun x => (aCons (eCall 1 m_name_of (aCons (eOp dIx (eVar 0) (eC (D.int 2))) aNil)) (aCons (eOp dIx (eVar 0) (eC (D.int 3))) (aCons (eCall 2 m_values_of (aCons (eSl (eVar 0) (oSome (eC (D.int 4))) oNone) (aCons (eC (D.str "item")) aNil))) aNil)) [some (D.obj o)]).bind fun xs => M.ret (x :: xs)).bd dTup).rn [some (D.obj o)]).fn := fun X1 hoo => by simp [dTru, dIx, seqOf, dInt2, dInt2L, dLen, dAdd, dNew, dTup, kindOk, dAppend, dPop, dIsi, tyD, Ty.is, m_rule_value, b_rule_value, hG, hlt, hltI, at1, at3, dIn, eC_orders, hi, hoo]
        cases h1 : nmP p1 with
        | false =>
          rw [if_neg (by simp [h1])] at n1
          obtain ⟨as, E, e⟩ := n1
          rw [if_neg (by simp [ruleC, h1])]
          exact ⟨as, E, by rw [run _ e]; rfl⟩
        | true =>
          rw [if_pos h1] at n1
          obtain ⟨E1, e1⟩ := n1
          have hG1 : (G ++ E1)[o]? = some (.lst (d0 :: d1 :: d2 :: d3 :: ds)) := lstOf_app hG
          have n2 := name_sim r2 (G ++ E1)
          cases h2 : nmP p2 with
          | false =>
            rw [if_neg (by simp [h2])] at n2
            obtain ⟨as, E, e⟩ := n2
            rw [List.append_assoc] at e
            rw [if_neg (by simp [ruleC, h2])]
            exact ⟨as, E1 ++ E, by rw [run _ e1]; simp [dTru, dIx, seqOf, dInt2, dInt2L, dLen, dAdd, dNew, dTup, kindOk, dAppend, dPop, dIsi, tyD, Ty.is, hG1, at2, e]⟩
          | true =>
            rw [if_pos h2] at n2
            obtain ⟨E2, e2⟩ := n2
            rw [List.append_assoc] at e2
            have hG2 : (G ++ (E1 ++ E2))[o]? = some (.lst (d0 :: d1 :: d2 :: d3 :: ds)) := lstOf_app hG
            have hz : ds.length ≤ sizeLine := lz (by simp at hl; omega)
            have hg : (G ++ (E1 ++ (E2 ++ [.lst ds])))[G.length + (E1.length + E2.length)]? = some (.lst ds) := by
              have := ga0 (G ++ (E1 ++ E2)) (.lst ds) []
              simpa [List.append_assoc] using this
            have hv := values_sim 3 (by first | decide | omega) (G ++ (E1 ++ (E2 ++ [.lst ds]))) (G.length + (E1.length + E2.length)) ds ps hg rr (by simp at hl; omega)
            have es : sortS 3 = "item" := rfl
            rw [es] at hv
            cases h3 : ps.all (valP 3) with
            | true =>
              rw [if_pos h3] at hv
              obtain ⟨xs, E3, e3, hx⟩ := hv
              rw [if_pos (by simp only [ruleC, ho, h1, h2, h3]; rfl)]
              simp only [List.append_assoc] at e3
              refine ⟨.tup [d1, d2, d3, .tup xs], E1 ++ (E2 ++ ([.lst ds] ++ E3)), ?_, ?_⟩
              · rw [run _ e1]; simp [dTru, dIx, seqOf, dInt2, dInt2L, dLen, dAdd, dNew, dTup, kindOk, dAppend, dPop, dIsi, tyD, Ty.is, hG1, hG2, at2, at3, e2, dSl, cut4, hz, e3, z4]
              · exact lay4 ((nm_lay hN1 r1 h1).mono (by first | decide | omega)) ((nm_lay hN1 r2 h2).mono (by first | decide | omega)) ((ord_lay hN1 r3 ho).mono (by first | decide | omega)) (lay_tup hx)
            | false =>
              rw [if_neg (by simp [h3])] at hv
              obtain ⟨as, E3, e3⟩ := hv
              rw [if_neg (by simp only [ruleC, ho, h1, h2, h3]; decide)]
              simp only [List.append_assoc] at e3
              refine ⟨as, E1 ++ (E2 ++ ([.lst ds] ++ E3)), ?_⟩
              rw [run _ e1]; simp [dTru, dIx, seqOf, dInt2, dInt2L, dLen, dAdd, dNew, dTup, kindOk, dAppend, dPop, dIsi, tyD, Ty.is, hG1, hG2, at2, at3, e2, dSl, cut4, hz, e3]
  · rw [if_neg (by
      intro h
      unfold ruleC at h
      split at h
      · exact h4 (by rw [← hlen]; simp)
      · cases h)]
    have hb : ds.length < 4 := by omega
    have hbI : (ds.length : Int) < 4 := by omega
    exact ⟨_, [], by simp [dTru, dIx, seqOf, dInt2, dInt2L, dLen, dAdd, dNew, dTup, kindOk, dAppend, dPop, dIsi, tyD, Ty.is, m_rule_value, b_rule_value, hG, hb, hbI, z1]; rfl⟩
end K16
end
section
set_option Elab.async false
set_option linter.all false
set_option maxRecDepth 100000
set_option maxHeartbeats 4000000
namespace K16
open PySem PySem.Spec L2 L3
noncomputable def headW (i : Nat) : List Pt → Bool
  | p :: _ => isW i p
  | [] => false
theorem eqv_all1 (p q : PyData) : PyData.eqvAll [p] [q] = PyData.eqv p q := by simp [PyData.eqvAll]
theorem eq_head {N : Nat} (hN1 : 1 ≤ N) (hN : N + 1 ≤ 199) {ps : List Pt} {ds : List D} (hr : Rps N ps ds) (i : Nat) (hi : i < 19) (H : DH) (a b : Nat) (ha : H[a]? = some (.lst (ds.take 1))) (hb : H[b]? = some (.lst [.str (consts.getD i "")])) : dEq false (.obj a) (.obj b) H = .ok (.bl (headW i ps)) H := by
  have hs := consts_ok i hi
  have e2 : toP H deep (.obj b) = some (.list [.str (consts.getD i "")]) := by
    show (match H[b]? with | some (.lst ds) => (optMap (toP H 199) ds).map PyData.list | _ => none) = _
    rw [hb]; rfl
  have c2 : (PyData.list [.str (consts.getD i "")]).canLay0 = true := by simpa [PyData.canLay0, PyData.canLayAll0] using hs
  have d2 : (PyData.list [.str (consts.getD i "")]).depth ≤ 180 := by simp [PyData.depth, PyData.depthAll]
  have run : ∀ (q : List PyData) (r : Bool), optMap (toP H 199) (ds.take 1) = some q → PyData.canLayAll0 q = true → PyData.eqvAll q [.str (consts.getD i "")] = r → dEq false (.obj a) (.obj b) H = .ok (.bl r) H := fun q r e c v => by
    have e1 : toP H deep (.obj a) = some (.list q) := by
      show (match H[a]? with | some (.lst ds) => (optMap (toP H 199) ds).map PyData.list | _ => none) = _
      rw [ha]; dsimp only; rw [e]; rfl
    have c1 : (PyData.list q).canLay0 = true := by simpa [PyData.canLay0] using c
    have h3 : min (PyData.list q).depth (PyData.list [.str (consts.getD i "")]).depth ≤ 180 := by omega
    unfold dEq dEqB
    rw [e1, e2]
    dsimp only
    rw [if_pos (by rw [c1, c2]; simpa using h3)]
    have : PyData.eqv (.list q) (.list [.str (consts.getD i "")]) = r := by rw [← v]; simp [PyData.eqv]
    rw [this]; simp
  match ps, ds, hr with
  | [], [], _ => exact run [] false rfl (by simp [PyData.canLayAll0]) (by simp [PyData.eqvAll])
  | p :: ps, d :: ds, ⟨r, _⟩ =>
    cases p with
    | w c =>
      obtain ⟨s, rfl, k, l, rfl⟩ := r
      refine run [.str s] _ rfl (by simpa [PyData.canLayAll0, PyData.canLay0] using k) ?_
      rw [eqv_all1]
      simp only [headW, isW, ← cls_eq s i hi]
      simp [PyData.eqv]
    | v t =>
      obtain ⟨x, rfl, l, ht⟩ := r
      obtain ⟨p, e, c⟩ := vLay hN1 ht l H 199 hN
      have e' : (optMap (toP H 198) [.str (sortS t), x]).map PyData.tuple = some p := e
      cases q : optMap (toP H 198) [.str (sortS t), x] with
      | none => rw [q] at e'; cases e'
      | some qs =>
        rw [q] at e'; cases e'
        refine run [.tuple qs] false (by simp [optMap, e]) (by simpa [PyData.canLayAll0] using c) ?_
        rw [eqv_all1]
        simp [PyData.eqv]
theorem tree_sim {N : Nat} (hN1 : 1 ≤ N) (hN : N + 1 ≤ 199) (G : DH) (o : Nat) (ds : List D) (ps : List Pt) (hG : G[o]? = some (.lst ds)) (hr : Rps N ps ds) (hl : ds.length ≤ 400) :
    if (match ps with | p :: r => nmP p && r.all (valP 0) | [] => false) then ∃ d E, m_make_tree [.obj o] G = .ok d (G ++ E) ∧ Rp (N + 2) (.v 0) d else Nt (m_make_tree [.obj o] G) G := by
  have z1 : (1 : Nat) ≤ sizeLine := lz (by first | decide | omega)
  have z2 : (2 : Nat) ≤ sizeLine := lz (by first | decide | omega)
  match ps, ds, hr with
  | [], [], _ =>
    rw [if_neg (by simp)]
    exact ⟨_, [], by simp [dTru, dIx, seqOf, dInt2, dInt2L, dLen, dAdd, dNew, dTup, kindOk, dAppend, dPop, dIsi, tyD, Ty.is, m_make_tree, b_make_tree, hG, dEq_int, z1]; rfl⟩
  | p :: ps, d :: ds, ⟨r, rr⟩ =>
    have hb : ((ds.length : Int) + 1 == 0) = false := by simp; omega
    have n1 := name_sim r G
    have run : ∀ X1, m_name_of [d] G = X1 → m_make_tree [.obj o] G = ((((((X1.bd fun x => (aCons (eCall 2 m_values_of (aCons (eSl (eVar 0) (oSome (eC (.int 1))) oNone) (aCons (eC (.str "tree")) aNil))) aNil [some (.obj o)]).bind fun xs => M.ret (x :: xs)).bd dTup).bd fun x => (aNil [some (.obj o)]).bind fun xs => M.ret (x :: xs)).bd fun xs => M.ret (.str "tree" :: xs)).bd dTup).rn [some (.obj o)]).fn := fun X1 hoo => by simp [dTru, dIx, seqOf, dInt2, dInt2L, dLen, dAdd, dNew, dTup, kindOk, dAppend, dPop, dIsi, tyD, Ty.is, m_make_tree, b_make_tree, hG, dEq_int, hb, at0, hoo]
    cases h1 : nmP p with
    | false =>
      rw [if_neg (by simp [h1])] at n1
      obtain ⟨as, E, e⟩ := n1
      rw [if_neg (by simp [h1])]
      exact ⟨as, E, by rw [run _ e]; rfl⟩
    | true =>
      rw [if_pos h1] at n1
      obtain ⟨E1, e1⟩ := n1
      have hG1 : (G ++ E1)[o]? = some (.lst (d :: ds)) := lstOf_app hG
      have hz : ds.length ≤ sizeLine := lz (by simp at hl; omega)
      have hg : (G ++ (E1 ++ [.lst ds]))[G.length + E1.length]? = some (.lst ds) := by
        have := ga0 (G ++ E1) (.lst ds) []
        simpa [List.append_assoc] using this
      have hv := values_sim 0 (by first | decide | omega) (G ++ (E1 ++ [.lst ds])) (G.length + E1.length) ds ps hg rr (by simp at hl; omega)
      have es : sortS 0 = "tree" := rfl
      rw [es] at hv
      cases h3 : ps.all (valP 0) with
      | true =>
        rw [if_pos h3] at hv
        obtain ⟨xs, E3, e3, hx⟩ := hv
        rw [if_pos (by simp [h1, h3])]
        simp only [List.append_assoc] at e3
        refine ⟨.tup [.str "tree", .tup [d, .tup xs]], E1 ++ ([.lst ds] ++ E3), ?_, ⟨.tup [d, .tup xs], rfl, lay2 ((nm_lay hN1 r h1).mono (by first | decide | omega)) (lay_tup hx), by omega⟩⟩
        rw [run _ e1]; simp [dTru, dIx, seqOf, dInt2, dInt2L, dLen, dAdd, dNew, dTup, kindOk, dAppend, dPop, dIsi, tyD, Ty.is, hG1, dSl, cut1, hz, e3, z2]
      | false =>
        rw [if_neg (by simp [h3])] at hv
        obtain ⟨as, E3, e3⟩ := hv
        rw [if_neg (by simp [h1, h3])]
        simp only [List.append_assoc] at e3
        refine ⟨as, E1 ++ ([.lst ds] ++ E3), ?_⟩
        rw [run _ e1]; simp [dTru, dIx, seqOf, dInt2, dInt2L, dLen, dAdd, dNew, dTup, kindOk, dAppend, dPop, dIsi, tyD, Ty.is, hG1, dSl, cut1, hz, e3]
noncomputable def shapeC (ps : List Pt) : Bool := match ps with
  | _ :: p1 :: p2 :: r => nmP p1 && (p2 :: r).all (valP 2)
  | _ => false
theorem shape_sim {N : Nat} (hN1 : 1 ≤ N) (G : DH) (o : Nat) (ds : List D) (ps : List Pt) (hG : G[o]? = some (.lst ds)) (hr : Rps N ps ds) (hl : ds.length ≤ 400) : if shapeC ps then Okl (m_shape_value [.obj o] G) G (N + 2) else Nt (m_shape_value [.obj o] G) G := by
  have z1 : (1 : Nat) ≤ sizeLine := lz (by first | decide | omega)
  have z2 : (2 : Nat) ≤ sizeLine := lz (by first | decide | omega)
  have hlen := hr.len
  by_cases h4 : 3 ≤ ds.length
  · obtain ⟨d0, d1, d2, ds, rfl⟩ := ge3 h4
    obtain ⟨p0, p1, p2, ps, rfl⟩ := ge3 (show 3 ≤ ps.length by omega)
    obtain ⟨r0, r1, rr⟩ := hr
    have hlt : ¬ ds.length + 1 + 1 + 1 < 3 := by omega
    have hltI : ¬ (ds.length : Int) + 1 + 1 + 1 < 3 := by omega
    have n1 := name_sim r1 G
    have run : ∀ X1, m_name_of [d1] G = X1 → m_shape_value [.obj o] G = (((X1.bd fun x => (aCons (eCall 2 m_values_of (aCons (eSl (eVar 0) (oSome (eC (.int 2))) oNone) (aCons (eC (.str "rule")) aNil))) aNil [some (.obj o)]).bind fun xs => M.ret (x :: xs)).bd dTup).rn [some (.obj o)]).fn := fun X1 hoo => by simp [dTru, dIx, seqOf, dInt2, dInt2L, dLen, dAdd, dNew, dTup, kindOk, dAppend, dPop, dIsi, tyD, Ty.is, m_shape_value, b_shape_value, hG, hlt, hltI, at1, hoo]
    cases h1 : nmP p1 with
    | false =>
      rw [if_neg (by simp [h1])] at n1
      obtain ⟨as, E, e⟩ := n1
      rw [if_neg (by simp [shapeC, h1])]
      exact ⟨as, E, by rw [run _ e]; rfl⟩
    | true =>
      rw [if_pos h1] at n1
      obtain ⟨E1, e1⟩ := n1
      have hG1 : (G ++ E1)[o]? = some (.lst (d0 :: d1 :: d2 :: ds)) := lstOf_app hG
      have hz : ds.length + 1 ≤ sizeLine := lz (by simp at hl; omega)
      have hg : (G ++ (E1 ++ [.lst (d2 :: ds)]))[G.length + E1.length]? = some (.lst (d2 :: ds)) := by
        have := ga0 (G ++ E1) (.lst (d2 :: ds)) []
        simpa [List.append_assoc] using this
      have hv := values_sim 2 (by first | decide | omega) (G ++ (E1 ++ [.lst (d2 :: ds)])) (G.length + E1.length) (d2 :: ds) (p2 :: ps) hg rr (by simp at hl ⊢; omega)
      have es : sortS 2 = "rule" := rfl
      rw [es] at hv
      cases h3 : (p2 :: ps).all (valP 2) with
      | true =>
        rw [if_pos h3] at hv
        obtain ⟨xs, E3, e3, hx⟩ := hv
        rw [if_pos (by simp only [shapeC, h1, h3]; rfl)]
        simp only [List.append_assoc] at e3
        refine ⟨.tup [d1, .tup xs], E1 ++ ([.lst (d2 :: ds)] ++ E3), ?_, lay2 ((nm_lay hN1 r1 h1).mono (by first | decide | omega)) (lay_tup hx)⟩
        rw [run _ e1]; simp [dTru, dIx, seqOf, dInt2, dInt2L, dLen, dAdd, dNew, dTup, kindOk, dAppend, dPop, dIsi, tyD, Ty.is, hG1, dSl, cut2, hz, e3, z2]
      | false =>
        rw [if_neg (by simp [h3])] at hv
        obtain ⟨as, E3, e3⟩ := hv
        rw [if_neg (by simp only [shapeC, h1, h3]; decide)]
        simp only [List.append_assoc] at e3
        refine ⟨as, E1 ++ ([.lst (d2 :: ds)] ++ E3), ?_⟩
        rw [run _ e1]; simp [dTru, dIx, seqOf, dInt2, dInt2L, dLen, dAdd, dNew, dTup, kindOk, dAppend, dPop, dIsi, tyD, Ty.is, hG1, dSl, cut2, hz, e3]
  · rw [if_neg (by
      intro h
      unfold shapeC at h
      split at h
      · exact h4 (by rw [← hlen]; simp)
      · cases h)]
    have hb : ds.length < 3 := by omega
    have hbI : (ds.length : Int) < 3 := by omega
    exact ⟨_, [], by simp [dTru, dIx, seqOf, dInt2, dInt2L, dLen, dAdd, dNew, dTup, kindOk, dAppend, dPop, dIsi, tyD, Ty.is, m_shape_value, b_shape_value, hG, hb, hbI, z1]; rfl⟩
noncomputable def wayC (ps : List Pt) : Bool := match ps with
  | _ :: p1 :: r => (p1 :: r).all (valP 5)
  | _ => false
theorem way_sim {N : Nat} (G : DH) (o : Nat) (ds : List D) (ps : List Pt) (hG : G[o]? = some (.lst ds)) (hr : Rps N ps ds) (hl : ds.length ≤ 400) : if wayC ps then Okl (m_way_value [.obj o] G) G (N + 1) else Nt (m_way_value [.obj o] G) G := by
  have z1 : (1 : Nat) ≤ sizeLine := lz (by first | decide | omega)
  have hlen := hr.len
  by_cases h4 : 2 ≤ ds.length
  · obtain ⟨d0, d1, ds, rfl⟩ := ge2 h4
    obtain ⟨p0, p1, ps, rfl⟩ := ge2 (show 2 ≤ ps.length by omega)
    obtain ⟨r0, rr⟩ := hr
    have hlt : ¬ ds.length + 1 + 1 < 2 := by omega
    have hltI : ¬ (ds.length : Int) + 1 + 1 < 2 := by omega
    have hz : ds.length + 1 ≤ sizeLine := lz (by simp at hl; omega)
    have hg : (G ++ [.lst (d1 :: ds)])[G.length]? = some (.lst (d1 :: ds)) := ga0 _ _ _
    have hv := values_sim 5 (by first | decide | omega) (G ++ [.lst (d1 :: ds)]) G.length (d1 :: ds) (p1 :: ps) hg rr (by simp at hl ⊢; omega)
    have es : sortS 5 = "step" := rfl
    rw [es] at hv
    cases h3 : (p1 :: ps).all (valP 5) with
    | true =>
      rw [if_pos h3] at hv
      obtain ⟨xs, E3, e3, hx⟩ := hv
      rw [if_pos (by simp only [wayC, h3])]
      simp only [List.append_assoc] at e3
      refine ⟨.tup xs, [.lst (d1 :: ds)] ++ E3, ?_, lay_tup hx⟩
      simp [dTru, dIx, seqOf, dInt2, dInt2L, dLen, dAdd, dNew, dTup, kindOk, dAppend, dPop, dIsi, tyD, Ty.is, m_way_value, b_way_value, hG, hlt, hltI, dSl, cut1, hz, e3]
    | false =>
      rw [if_neg (by simp [h3])] at hv
      obtain ⟨as, E3, e3⟩ := hv
      rw [if_neg (by simp only [wayC, h3]; decide)]
      simp only [List.append_assoc] at e3
      refine ⟨as, [.lst (d1 :: ds)] ++ E3, ?_⟩
      simp [dTru, dIx, seqOf, dInt2, dInt2L, dLen, dAdd, dNew, dTup, kindOk, dAppend, dPop, dIsi, tyD, Ty.is, m_way_value, b_way_value, hG, hlt, hltI, dSl, cut1, hz, e3]
  · rw [if_neg (by
      intro h
      unfold wayC at h
      split at h
      · exact h4 (by rw [← hlen]; simp)
      · cases h)]
    have hb : ds.length < 2 := by omega
    have hbI : (ds.length : Int) < 2 := by omega
    exact ⟨_, [], by simp [dTru, dIx, seqOf, dInt2, dInt2L, dLen, dAdd, dNew, dTup, kindOk, dAppend, dPop, dIsi, tyD, Ty.is, m_way_value, b_way_value, hG, hb, hbI, z1]; rfl⟩
end K16
end
section
set_option Elab.async false
set_option linter.all false
set_option maxRecDepth 100000
set_option maxHeartbeats 4000000
namespace K16
open PySem PySem.Spec L2 L3
noncomputable def lookC (ps : List Pt) : Bool := match ps with
  | [p0, p1] => if isW 8 p0 then nmP p1 else if isW 9 p0 then lookP p1 else false
  | [p0, p1, p2] => (isW 10 p0 || isW 11 p0) && lookP p1 && lookP p2
  | _ => false
theorem be_any (s : Str) : ((["both", "either"] : List Str).any (· == s)) = (fun c => c == 10 || c == 11) (cls s) := by
  have h0 := cls_eq s 10 (by first | decide | omega)
  have h1 := cls_eq s 11 (by first | decide | omega)
  have c0 : consts.getD 10 "" = "both" := rfl
  have c1 : consts.getD 11 "" = "either" := rfl
  rw [c0] at h0; rw [c1] at h1
  simp only [List.any_cons, List.any_nil, Bool.or_false]
  rw [← h0, ← h1, Bool.beq_comm, Bool.beq_comm (a := ("either" : Str))]
theorem beP {p : Pt} : inP (fun c => c == 10 || c == 11) p = (isW 10 p || isW 11 p) := by cases p <;> rfl
theorem be_lay {N : Nat} (hN1 : 1 ≤ N) {p : Pt} {d : D} (r : Rp N p d) (h : (isW 10 p || isW 11 p) = true) : Lay N d := by
  cases p with
  | w c => obtain ⟨s, rfl, k, _⟩ := r; exact (lay_str k).mono hN1
  | v t => cases h
theorem lookv_sim {N : Nat} (hN1 : 1 ≤ N) (hN : N + 1 ≤ deep) (G : DH) (o : Nat) (ds : List D) (ps : List Pt) (hG : G[o]? = some (.lst ds)) (hr : Rps N ps ds) : if lookC ps then Okl (m_look_value [.obj o] G) G (N + 2) else Nt (m_look_value [.obj o] G) G := by
  have z1 : (1 : Nat) ≤ sizeLine := lz (by first | decide | omega)
  have z2 : (2 : Nat) ≤ sizeLine := lz (by first | decide | omega)
  have z3 : (3 : Nat) ≤ sizeLine := lz (by first | decide | omega)
  have hlen := hr.len
  by_cases h2 : ds.length = 2
  · obtain ⟨d0, d1, rfl⟩ := get2 h2
    obtain ⟨p0, p1, rfl⟩ := get2 (hlen.trans h2)
    obtain ⟨r0, r1, _⟩ := hr
    have ek := eq_part hN1 hN r0 8 (by first | decide | omega) G
    have en := eq_part hN1 hN r0 9 (by first | decide | omega) G
    have c8 : consts.getD 8 "" = "kind" := rfl
    have c9 : consts.getD 9 "" = "not" := rfl
    rw [c8] at ek
    rw [c9] at en
    cases h8 : isW 8 p0 with
    | true =>
      rw [h8] at ek
      have n1 := name_sim r1 G
      have run : ∀ X1, m_name_of [d1] G = X1 → ∃ k, m_look_value [.obj o] G = (((((X1.bd fun x => (aNil [some (D.obj o)]).bind fun xs => M.ret (x :: xs)).bd fun xs => M.ret (D.str "kind" :: xs)).bd dTup).rn [some (D.obj o)]).sq k).fn := fun X1 hoo => ⟨_, by simp [dTru, dIx, seqOf, dInt2, dInt2L, dLen, dAdd, dNew, dTup, kindOk, dAppend, dPop, dIsi, tyD, Ty.is, m_look_value, b_look_value, hG, dEq_int, at0, at1, ek, hoo]; rfl⟩
      cases h1 : nmP p1 with
      | true =>
        rw [if_pos h1] at n1
        obtain ⟨E, e⟩ := n1
        rw [if_pos (by simp [lookC, h8, h1])]
        exact ⟨.tup [.str "kind", d1], E, by obtain ⟨k, q⟩ := run _ e; rw [q]; simp [dTru, dIx, seqOf, dInt2, dInt2L, dLen, dAdd, dNew, dTup, kindOk, dAppend, dPop, dIsi, tyD, Ty.is, z2], lay2 ((lay_str (by decide +kernel)).mono (by first | decide | omega)) ((nm_lay hN1 r1 h1).mono (by first | decide | omega))⟩
      | false =>
        rw [if_neg (by simp [h1])] at n1
        obtain ⟨as, E, e⟩ := n1
        rw [if_neg (by simp [lookC, h8, h1])]
        exact ⟨as, E, by obtain ⟨k, q⟩ := run _ e; rw [q]; rfl⟩
    | false =>
      rw [h8] at ek
      cases h9 : isW 9 p0 with
      | true =>
        rw [h9] at en
        have l1 := look_sim hN1 hN r1 G
        have run : ∀ X1, m_look_of [d1] G = X1 → ∃ k, m_look_value [.obj o] G = (((((X1.bd fun x => (aNil [some (D.obj o)]).bind fun xs => M.ret (x :: xs)).bd fun xs => M.ret (D.str "not" :: xs)).bd dTup).rn [some (D.obj o)]).sq k).fn := fun X1 hoo => ⟨_, by simp [dTru, dIx, seqOf, dInt2, dInt2L, dLen, dAdd, dNew, dTup, kindOk, dAppend, dPop, dIsi, tyD, Ty.is, m_look_value, b_look_value, hG, dEq_int, at0, at1, ek, en, hoo]; rfl⟩
        cases h1 : lookP p1 with
        | true =>
          rw [if_pos h1] at l1
          obtain ⟨v, e, lv⟩ := l1
          rw [if_pos (by simp [lookC, h8, h9, h1])]
          exact ⟨.tup [.str "not", v], [], by obtain ⟨k, q⟩ := run _ e; rw [q]; simp [dTru, dIx, seqOf, dInt2, dInt2L, dLen, dAdd, dNew, dTup, kindOk, dAppend, dPop, dIsi, tyD, Ty.is, z2], lay2 ((lay_str (by decide +kernel)).mono (by first | decide | omega)) lv⟩
        | false =>
          rw [if_neg (by simp [h1])] at l1
          obtain ⟨as, E, e⟩ := l1
          rw [if_neg (by simp [lookC, h8, h9, h1])]
          exact ⟨as, E, by obtain ⟨k, q⟩ := run _ e; rw [q]; rfl⟩
      | false =>
        rw [h9] at en
        rw [if_neg (by simp [lookC, h8, h9])]
        exact ⟨_, [], by simp [dTru, dIx, seqOf, dInt2, dInt2L, dLen, dAdd, dNew, dTup, kindOk, dAppend, dPop, dIsi, tyD, Ty.is, m_look_value, b_look_value, hG, dEq_int, at0, at1, ek, en, z1]; rfl⟩
  · by_cases h3 : ds.length = 3
    · obtain ⟨d0, d1, d2, rfl⟩ := get3 h3
      obtain ⟨p0, p1, p2, rfl⟩ := get3 (hlen.trans h3)
      obtain ⟨r0, r1, r2, _⟩ := hr
      have hi := in_part hN1 hN r0 ["both", "either"] (by decide +kernel) (fun c => c == 10 || c == 11) be_any G
      rw [beP] at hi
      simp only [List.map_cons, List.map_nil] at hi
      cases hb : (isW 10 p0 || isW 11 p0) with
      | false =>
        rw [hb] at hi
        rw [if_neg (by simp only [lookC, hb]; simp)]
        exact ⟨_, [], by simp [dTru, dIx, seqOf, dInt2, dInt2L, dLen, dAdd, dNew, dTup, kindOk, dAppend, dPop, dIsi, tyD, Ty.is, m_look_value, b_look_value, hG, dEq_int, at0, at1, dIn, z2, hi, z1]; rfl⟩
      | true =>
        rw [hb] at hi
        have l1 := look_sim hN1 hN r1 G
        have run : ∀ X1, m_look_of [d1] G = X1 → ∃ k, m_look_value [.obj o] G = ((((((X1.bd fun x => (aCons (eCall 1 m_look_of (aCons (eOp dIx (eVar 0) (eC (D.int 2))) aNil)) aNil [some (D.obj o)]).bind fun xs => M.ret (x :: xs)).bd fun xs => M.ret (d0 :: xs)).bd dTup).rn [some (D.obj o)]).sq k).fn) := fun X1 hoo => ⟨_, by simp [dTru, dIx, seqOf, dInt2, dInt2L, dLen, dAdd, dNew, dTup, kindOk, dAppend, dPop, dIsi, tyD, Ty.is, m_look_value, b_look_value, hG, dEq_int, at0, at1, dIn, z2, hi, hoo]; rfl⟩
        cases h1 : lookP p1 with
        | false =>
          rw [if_neg (by simp [h1])] at l1
          obtain ⟨as, E, e⟩ := l1
          rw [if_neg (by simp only [lookC, hb, h1]; simp)]
          exact ⟨as, E, by obtain ⟨k, q⟩ := run _ e; rw [q]; rfl⟩
        | true =>
          rw [if_pos h1] at l1
          obtain ⟨v, e, lv⟩ := l1
          have l2 := look_sim hN1 hN r2 G
          cases h2' : lookP p2 with
          | false =>
            rw [if_neg (by simp [h2'])] at l2
            obtain ⟨as, E, e2⟩ := l2
            rw [if_neg (by simp only [lookC, hb, h1, h2']; simp)]
            exact ⟨as, E, by obtain ⟨k, q⟩ := run _ e; rw [q]; simp [dTru, dIx, seqOf, dInt2, dInt2L, dLen, dAdd, dNew, dTup, kindOk, dAppend, dPop, dIsi, tyD, Ty.is, hG, at2, e2]⟩
          | true =>
            rw [if_pos h2'] at l2
            obtain ⟨v2, e2, lv2⟩ := l2
            rw [if_pos (by simp only [lookC, hb, h1, h2']; simp)]
            exact ⟨.tup [d0, v, v2], [], by obtain ⟨k, q⟩ := run _ e; rw [q]; simp [dTru, dIx, seqOf, dInt2, dInt2L, dLen, dAdd, dNew, dTup, kindOk, dAppend, dPop, dIsi, tyD, Ty.is, hG, at2, e2, z3], lay3 ((be_lay hN1 r0 hb).mono (by first | decide | omega)) lv lv2⟩
    · rw [if_neg (by
        intro h
        unfold lookC at h
        split at h
        · exact h2 (by rw [← hlen]; rfl)
        · exact h3 (by rw [← hlen]; rfl)
        · cases h)]
      have b2 : ((ds.length : Int) == 2) = false := by simp; omega
      have b3 : ((ds.length : Int) == 3) = false := by simp; omega
      exact ⟨_, [], by simp [dTru, dIx, seqOf, dInt2, dInt2L, dLen, dAdd, dNew, dTup, kindOk, dAppend, dPop, dIsi, tyD, Ty.is, m_look_value, b_look_value, hG, dEq_int, b2, b3, z1]; rfl⟩
noncomputable def treeC (ps : List Pt) : Bool := match ps with
  | p :: r => nmP p && r.all (valP 0)
  | [] => false
noncomputable def mkTree (ps : List Pt) : Option Nat := if treeC ps then some 0 else none
noncomputable def mkShape (ps : List Pt) : Option Nat := if headW 2 ps then (if shapeC ps then some 1 else none) else if headW 3 ps then (if ruleC ps then some 2 else none) else if itemC ps then some 3 else none
noncomputable def goP : Pt → Bool := inP fun c => c == 16 || c == 17 || c == 18
noncomputable def mkWay (ps : List Pt) : Option Nat := if headW 12 ps then (if wayC ps then some 4 else none) else match ps with
  | [p0, p1] => if goP p0 then (if lookP p1 then some 5 else none) else if lookC [p0, p1] then some 6 else none
  | ps => if lookC ps then some 6 else none
noncomputable def Mk (r : Option Nat) (o : Out D) (G : DH) (M : Nat) : Prop := match r with
  | some t => ∃ d E, o = .ok d (G ++ E) ∧ Rp M (.v t) d
  | none => Nt o G
theorem mk_tree {N : Nat} (hN1 : 1 ≤ N) (hN : N + 1 ≤ 199) (G : DH) (o : Nat) (ds : List D) (ps : List Pt) (hG : G[o]? = some (.lst ds)) (hr : Rps N ps ds) (hl : ds.length ≤ 400) : Mk (mkTree ps) (m_make_tree [.obj o] G) G (N + 2) := by
  have h : if treeC ps = true then ∃ d E, m_make_tree [.obj o] G = .ok d (G ++ E) ∧ Rp (N + 2) (.v 0) d else Nt (m_make_tree [.obj o] G) G := by
    have h := tree_sim hN1 hN G o ds ps hG hr hl
    cases ps with
    | nil => exact h
    | cons p ps => exact h
  unfold mkTree
  by_cases c : treeC ps = true
  · rw [if_pos c] at h ⊢; exact h
  · rw [if_neg c] at h ⊢; exact h
theorem mk_shape {N : Nat} (hN1 : 1 ≤ N) (hN : N + 1 ≤ 199) (G : DH) (o : Nat) (ds : List D) (ps : List Pt) (hG : G[o]? = some (.lst ds)) (hr : Rps N ps ds) (hl : ds.length ≤ 400) : Mk (mkShape ps) (m_make_in_shape [.obj o] G) G (N + 2) := by
  have z1 : (1 : Nat) ≤ sizeLine := lz (by first | decide | omega)
  have z2 : (2 : Nat) ≤ sizeLine := lz (by first | decide | omega)
  have hzt : (ds.take 1).length ≤ sizeLine := lz (by simp; omega)
  have hzt' : min 1 ds.length ≤ sizeLine := lz (by first | decide | omega)
  have c2 : consts.getD 2 "" = "start" := rfl
  have c3 : consts.getD 3 "" = "rule" := rfl
  have q0 : (G ++ [.lst (ds.take 1), .lst [.str "start"]])[G.length]? = some (.lst (ds.take 1)) := ga0 _ _ _
  have q1 : (G ++ [.lst (ds.take 1), .lst [.str "start"]])[G.length + 1]? = some (.lst [.str "start"]) := ga1 _ _ _ _
  have e1 := eq_head hN1 hN hr 2 (by first | decide | omega) (G ++ [.lst (ds.take 1), .lst [.str "start"]]) G.length (G.length + 1) q0 (by rw [c2]; exact q1)
  have hG1 : (G ++ [.lst (ds.take 1), .lst [.str "start"]])[o]? = some (.lst ds) := lstOf_app hG
  unfold mkShape
  cases h2 : headW 2 ps with
  | true =>
    rw [h2] at e1
    have hs := shape_sim hN1 _ o ds ps hG1 hr hl
    rw [if_pos rfl]
    have run : ∀ X1, m_shape_value [.obj o] (G ++ [.lst (ds.take 1), .lst [.str "start"]]) = X1 → ∃ k, m_make_in_shape [.obj o] G = (((((X1.bd fun x => (aNil [some (D.obj o)]).bind fun xs => M.ret (x :: xs)).bd fun xs => M.ret (D.str "shape" :: xs)).bd dTup).rn [some (D.obj o)]).sq k).fn := fun X1 hoo => ⟨_, by simp [dTru, dIx, seqOf, dInt2, dInt2L, dLen, dAdd, dNew, dTup, kindOk, dAppend, dPop, dIsi, tyD, Ty.is, m_make_in_shape, b_make_in_shape, hG, dSl, cutT, hzt, hzt', z1, e1, hoo]; rfl⟩
    cases hc : shapeC ps with
    | true =>
      rw [if_pos hc] at hs
      obtain ⟨v, E, e, lv⟩ := hs
      exact ⟨.tup [.str "shape", v], [.lst (ds.take 1), .lst [.str "start"]] ++ E, by obtain ⟨k, q⟩ := run _ e; rw [q]; simp [dTru, dIx, seqOf, dInt2, dInt2L, dLen, dAdd, dNew, dTup, kindOk, dAppend, dPop, dIsi, tyD, Ty.is, z2], v, rfl, lv, by omega⟩
    | false =>
      rw [if_neg (by simp [hc])] at hs
      obtain ⟨as, E, e⟩ := hs
      exact ⟨as, [.lst (ds.take 1), .lst [.str "start"]] ++ E, by obtain ⟨k, q⟩ := run _ e; rw [q, List.append_assoc]; rfl⟩
  | false =>
    rw [h2] at e1
    rw [if_neg (by simp)]
    have q2 : (G ++ [.lst (ds.take 1), .lst [.str "start"], .lst (ds.take 1), .lst [.str "rule"]])[G.length + 1 + 1]? = some (.lst (ds.take 1)) := by
      rw [List.getElem?_append_right (by first | decide | omega), show G.length + 1 + 1 - G.length = 2 by omega]; rfl
    have q3 : (G ++ [.lst (ds.take 1), .lst [.str "start"], .lst (ds.take 1), .lst [.str "rule"]])[G.length + 1 + 1 + 1]? = some (.lst [.str "rule"]) := by
      rw [List.getElem?_append_right (by first | decide | omega)]
      rw [show G.length + 1 + 1 + 1 - G.length = 3 by omega]; rfl
    have e2 := eq_head hN1 hN hr 3 (by first | decide | omega) (G ++ [.lst (ds.take 1), .lst [.str "start"], .lst (ds.take 1), .lst [.str "rule"]]) (G.length + 1 + 1) (G.length + 1 + 1 + 1) q2 (by rw [c3]; exact q3)
    have hG2 : (G ++ [.lst (ds.take 1), .lst [.str "start"], .lst (ds.take 1), .lst [.str "rule"]])[o]? = some (.lst ds) := lstOf_app hG
    cases h3 : headW 3 ps with
    | true =>
      rw [h3] at e2
      have hs := rule_sim hN1 (by show N + 1 ≤ 200; omega) _ o ds ps hG2 hr hl
      rw [if_pos rfl]
      have run : ∀ X1, m_rule_value [.obj o] (G ++ [.lst (ds.take 1), .lst [.str "start"], .lst (ds.take 1), .lst [.str "rule"]]) = X1 → ∃ k, m_make_in_shape [.obj o] G = (((((X1.bd fun x => (aNil [some (D.obj o)]).bind fun xs => M.ret (x :: xs)).bd fun xs => M.ret (D.str "rule" :: xs)).bd dTup).rn [some (D.obj o)]).sq k).fn := fun X1 hoo => ⟨_, by simp [dTru, dIx, seqOf, dInt2, dInt2L, dLen, dAdd, dNew, dTup, kindOk, dAppend, dPop, dIsi, tyD, Ty.is, m_make_in_shape, b_make_in_shape, hG, hG1, dSl, cutT, hzt, hzt', z1, e1, e2, hoo]; rfl⟩
      cases hc : ruleC ps with
      | true =>
        rw [if_pos hc] at hs
        obtain ⟨v, E, e, lv⟩ := hs
        exact ⟨.tup [.str "rule", v], [.lst (ds.take 1), .lst [.str "start"], .lst (ds.take 1), .lst [.str "rule"]] ++ E, by obtain ⟨k, q⟩ := run _ e; rw [q]; simp [dTru, dIx, seqOf, dInt2, dInt2L, dLen, dAdd, dNew, dTup, kindOk, dAppend, dPop, dIsi, tyD, Ty.is, z2], v, rfl, lv, by omega⟩
      | false =>
        rw [if_neg (by simp [hc])] at hs
        obtain ⟨as, E, e⟩ := hs
        exact ⟨as, [.lst (ds.take 1), .lst [.str "start"], .lst (ds.take 1), .lst [.str "rule"]] ++ E, by obtain ⟨k, q⟩ := run _ e; rw [q, List.append_assoc]; rfl⟩
    | false =>
      rw [h3] at e2
      rw [if_neg (by simp)]
      have hs := item_sim hN1 (by show N + 1 ≤ 200; omega) _ o ds ps hG2 hr
      have run : ∀ X1, m_item_value [.obj o] (G ++ [.lst (ds.take 1), .lst [.str "start"], .lst (ds.take 1), .lst [.str "rule"]]) = X1 → m_make_in_shape [.obj o] G = ((((X1.bd fun x => (aNil [some (D.obj o)]).bind fun xs => M.ret (x :: xs)).bd fun xs => M.ret (D.str "item" :: xs)).bd dTup).rn [some (D.obj o)]).fn := fun X1 hoo => by simp [dTru, dIx, seqOf, dInt2, dInt2L, dLen, dAdd, dNew, dTup, kindOk, dAppend, dPop, dIsi, tyD, Ty.is, m_make_in_shape, b_make_in_shape, hG, hG1, dSl, cutT, hzt, hzt', z1, e1, e2, hoo]
      cases hc : itemC ps with
      | true =>
        rw [if_pos hc] at hs
        obtain ⟨v, E, e, lv⟩ := hs
        exact ⟨.tup [.str "item", v], [.lst (ds.take 1), .lst [.str "start"], .lst (ds.take 1), .lst [.str "rule"]] ++ E, by rw [run _ e]; simp [dTru, dIx, seqOf, dInt2, dInt2L, dLen, dAdd, dNew, dTup, kindOk, dAppend, dPop, dIsi, tyD, Ty.is, z2], v, rfl, lv.mono (by first | decide | omega), by omega⟩
      | false =>
        rw [if_neg (by simp [hc])] at hs
        obtain ⟨as, E, e⟩ := hs
        exact ⟨as, [.lst (ds.take 1), .lst [.str "start"], .lst (ds.take 1), .lst [.str "rule"]] ++ E, by rw [run _ e, List.append_assoc]; rfl⟩
end K16
end
section
set_option Elab.async false
set_option linter.all false
set_option maxRecDepth 100000
set_option maxHeartbeats 4000000
namespace K16
open PySem PySem.Spec L2 L3
theorem go_any (s : Str) : ((["down", "deep", "later"] : List Str).any (· == s)) = (fun c => c == 16 || c == 17 || c == 18) (cls s) := by
  have h0 := cls_eq s 16 (by first | decide | omega)
  have h1 := cls_eq s 17 (by first | decide | omega)
  have h2 := cls_eq s 18 (by first | decide | omega)
  have c0 : consts.getD 16 "" = "down" := rfl
  have c1 : consts.getD 17 "" = "deep" := rfl
  have c2 : consts.getD 18 "" = "later" := rfl
  rw [c0] at h0; rw [c1] at h1; rw [c2] at h2
  simp only [List.any_cons, List.any_nil, Bool.or_false]
  rw [← h0, ← h1, ← h2, Bool.beq_comm, Bool.beq_comm (a := ("deep" : Str)), Bool.beq_comm (a := ("later" : Str)), Bool.or_assoc]
theorem eC_goes : g_GOES = .tup [.str "down", .str "deep", .str "later"] := rfl
theorem go_lay {N : Nat} (hN1 : 1 ≤ N) {p : Pt} {d : D} (r : Rp N p d) (h : goP p = true) : Lay N d := by
  cases p with
  | w c => obtain ⟨s, rfl, k, _⟩ := r; exact (lay_str k).mono hN1
  | v t => cases h
theorem mk_way {N : Nat} (hN1 : 1 ≤ N) (hN : N + 1 ≤ 199) (G : DH) (o : Nat) (ds : List D) (ps : List Pt) (hG : G[o]? = some (.lst ds)) (hr : Rps N ps ds) (hl : ds.length ≤ 400) : Mk (mkWay ps) (m_make_in_way [.obj o] G) G (N + 2) := by
  have hN' : N + 1 ≤ deep := by show N + 1 ≤ 200; omega
  have z1 : (1 : Nat) ≤ sizeLine := lz (by first | decide | omega)
  have z2 : (2 : Nat) ≤ sizeLine := lz (by first | decide | omega)
  have hzt : (ds.take 1).length ≤ sizeLine := lz (by simp; omega)
  have hzt' : min 1 ds.length ≤ sizeLine := lz (by first | decide | omega)
  have hlen := hr.len
  have c2 : consts.getD 12 "" = "way" := rfl
  have q0 : (G ++ [.lst (ds.take 1), .lst [.str "way"]])[G.length]? = some (.lst (ds.take 1)) := ga0 _ _ _
  have q1 : (G ++ [.lst (ds.take 1), .lst [.str "way"]])[G.length + 1]? = some (.lst [.str "way"]) := ga1 _ _ _ _
  have e1 := eq_head hN1 hN hr 12 (by first | decide | omega) (G ++ [.lst (ds.take 1), .lst [.str "way"]]) G.length (G.length + 1) q0 (by rw [c2]; exact q1)
  have hG1 : (G ++ [.lst (ds.take 1), .lst [.str "way"]])[o]? = some (.lst ds) := lstOf_app hG
  have hs := lookv_sim hN1 hN' _ o ds ps hG1 hr
  cases h2 : headW 12 ps with
  | true =>
    rw [h2] at e1
    have hs := way_sim _ o ds ps hG1 hr hl
    have em : mkWay ps = if wayC ps then some 4 else none := by unfold mkWay; rw [h2]; rfl
    rw [em]
    have run : ∀ X1, m_way_value [.obj o] (G ++ [.lst (ds.take 1), .lst [.str "way"]]) = X1 → ∃ k, m_make_in_way [.obj o] G = (((((X1.bd fun x => (aNil [some (D.obj o)]).bind fun xs => M.ret (x :: xs)).bd fun xs => M.ret (D.str "way" :: xs)).bd dTup).rn [some (D.obj o)]).sq k).fn := fun X1 hoo => ⟨_, by simp [dTru, dIx, seqOf, dInt2, dInt2L, dLen, dAdd, dNew, dTup, kindOk, dAppend, dPop, dIsi, tyD, Ty.is, m_make_in_way, b_make_in_way, hG, dSl, cutT, hzt, hzt', z1, e1, hoo]; rfl⟩
    cases hc : wayC ps with
    | true =>
      rw [if_pos hc] at hs
      obtain ⟨v, E, e, lv⟩ := hs
      exact ⟨.tup [.str "way", v], [.lst (ds.take 1), .lst [.str "way"]] ++ E, by obtain ⟨k, q⟩ := run _ e; rw [q]; simp [dTru, dIx, seqOf, dInt2, dInt2L, dLen, dAdd, dNew, dTup, kindOk, dAppend, dPop, dIsi, tyD, Ty.is, z2], v, rfl, lv.mono (by first | decide | omega), by omega⟩
    | false =>
      rw [if_neg (by simp [hc])] at hs
      obtain ⟨as, E, e⟩ := hs
      exact ⟨as, [.lst (ds.take 1), .lst [.str "way"]] ++ E, by obtain ⟨k, q⟩ := run _ e; rw [q, List.append_assoc]; rfl⟩
  | false =>
    rw [h2] at e1
    by_cases hl2 : ds.length = 2
    · obtain ⟨d0, d1, rfl⟩ := get2 hl2
      obtain ⟨p0, p1, rfl⟩ := get2 (hlen.trans hl2)
      obtain ⟨r0, r1, _⟩ := hr
      have em : mkWay [p0, p1] = if goP p0 then (if lookP p1 then some 5 else none) else if lookC [p0, p1] then some 6 else none := by unfold mkWay; rw [h2]; rfl
      rw [em]
      simp only [List.take_succ_cons, List.take_zero] at e1 hG1 hs
      have hi := in_part hN1 hN' r0 ["down", "deep", "later"] (by decide +kernel) (fun c => c == 16 || c == 17 || c == 18) go_any (G ++ [.lst [d0], .lst [.str "way"]])
      simp only [List.map_cons, List.map_nil] at hi
      have hi' : inB d0 [.str "down", .str "deep", .str "later"] (G ++ [.lst [d0], .lst [.str "way"]]) = some (goP p0) := hi
      cases hg : goP p0 with
      | true =>
        rw [hg] at hi'
        have l1 := look_sim hN1 hN' r1 (G ++ [.lst [d0], .lst [.str "way"]])
        rw [if_pos rfl]
        have run : ∀ X1, m_look_of [d1] (G ++ [.lst [d0], .lst [.str "way"]]) = X1 → ∃ k, m_make_in_way [.obj o] G = ((((((((X1.bd fun x => (aNil [some (D.obj o)]).bind fun xs => M.ret (x :: xs)).bd fun xs => M.ret (d0 :: xs)).bd dTup).bd fun x => (aNil [some (D.obj o)]).bind fun xs => M.ret (x :: xs)).bd fun xs => M.ret (D.str "step" :: xs)).bd dTup).rn [some (D.obj o)]).sq k).fn := fun X1 hoo => ⟨_, by simp [dTru, dIx, seqOf, dInt2, dInt2L, dLen, dAdd, dNew, dTup, kindOk, dAppend, dPop, dIsi, tyD, Ty.is, m_make_in_way, b_make_in_way, hG, hG1, dSl, cutT, hzt, hzt', z1, e1, z2, dEq_int, at0, at1, dIn, eC_goes, hi', hoo]; rfl⟩
        cases h1 : lookP p1 with
        | true =>
          rw [if_pos h1] at l1
          obtain ⟨v, e, lv⟩ := l1
          exact ⟨.tup [.str "step", .tup [d0, v]], [.lst [d0], .lst [.str "way"]], by obtain ⟨k, q⟩ := run _ e; rw [q]; simp [dTru, dIx, seqOf, dInt2, dInt2L, dLen, dAdd, dNew, dTup, kindOk, dAppend, dPop, dIsi, tyD, Ty.is, z2], .tup [d0, v], rfl, lay2 ((go_lay hN1 r0 hg).mono (by first | decide | omega)) lv, by omega⟩
        | false =>
          rw [if_neg (by simp [h1])] at l1
          obtain ⟨as, E, e⟩ := l1
          exact ⟨as, [.lst [d0], .lst [.str "way"]] ++ E, by obtain ⟨k, q⟩ := run _ e; rw [q, List.append_assoc]; rfl⟩
      | false =>
        rw [hg] at hi'
        rw [if_neg (by simp)]
        have run : ∀ X1, m_look_value [.obj o] (G ++ [.lst [d0], .lst [.str "way"]]) = X1 → m_make_in_way [.obj o] G = ((((X1.bd fun x => (aNil [some (D.obj o)]).bind fun xs => M.ret (x :: xs)).bd fun xs => M.ret (D.str "look" :: xs)).bd dTup).rn [some (D.obj o)]).fn := fun X1 hoo => by simp [dTru, dIx, seqOf, dInt2, dInt2L, dLen, dAdd, dNew, dTup, kindOk, dAppend, dPop, dIsi, tyD, Ty.is, m_make_in_way, b_make_in_way, hG, hG1, dSl, cutT, hzt, hzt', z1, e1, z2, dEq_int, at0, at1, dIn, eC_goes, hi', hoo]
        cases hc : lookC [p0, p1] with
        | true =>
          rw [if_pos hc] at hs
          obtain ⟨v, E, e, lv⟩ := hs
          exact ⟨.tup [.str "look", v], [.lst [d0], .lst [.str "way"]] ++ E, by rw [run _ e]; simp [dTru, dIx, seqOf, dInt2, dInt2L, dLen, dAdd, dNew, dTup, kindOk, dAppend, dPop, dIsi, tyD, Ty.is, z2], v, rfl, lv, by omega⟩
        | false =>
          rw [if_neg (by simp [hc])] at hs
          obtain ⟨as, E, e⟩ := hs
          exact ⟨as, [.lst [d0], .lst [.str "way"]] ++ E, by rw [run _ e, List.append_assoc]; rfl⟩
    · have em : mkWay ps = if lookC ps then some 6 else none := by
        unfold mkWay
        rw [h2]
        match ps, hlen with
        | [], _ => rfl
        | [_], _ => rfl
        | [_, _], h => exact absurd h.symm hl2
        | _ :: _ :: _ :: _, _ => rfl
      rw [em]
      have b2 : ((ds.length : Int) == 2) = false := by simp; omega
      have run : ∀ X1, m_look_value [.obj o] (G ++ [.lst (ds.take 1), .lst [.str "way"]]) = X1 → m_make_in_way [.obj o] G = ((((X1.bd fun x => (aNil [some (D.obj o)]).bind fun xs => M.ret (x :: xs)).bd fun xs => M.ret (D.str "look" :: xs)).bd dTup).rn [some (D.obj o)]).fn := fun X1 hoo => by simp [dTru, dIx, seqOf, dInt2, dInt2L, dLen, dAdd, dNew, dTup, kindOk, dAppend, dPop, dIsi, tyD, Ty.is, m_make_in_way, b_make_in_way, hG, hG1, dSl, cutT, hzt, hzt', z1, e1, dEq_int, b2, hoo]
      cases hc : lookC ps with
      | true =>
        rw [if_pos hc] at hs
        obtain ⟨v, E, e, lv⟩ := hs
        exact ⟨.tup [.str "look", v], [.lst (ds.take 1), .lst [.str "way"]] ++ E, by rw [run _ e]; simp [dTru, dIx, seqOf, dInt2, dInt2L, dLen, dAdd, dNew, dTup, kindOk, dAppend, dPop, dIsi, tyD, Ty.is, z2], v, rfl, lv, by omega⟩
      | false =>
        rw [if_neg (by simp [hc])] at hs
        obtain ⟨as, E, e⟩ := hs
        exact ⟨as, [.lst (ds.take 1), .lst [.str "way"]] ++ E, by rw [run _ e, List.append_assoc]; rfl⟩
end K16
end
section
set_option Elab.async false
set_option linter.all false
set_option maxRecDepth 100000
set_option maxHeartbeats 4000000
namespace K16
open PySem PySem.Spec L2 L3
noncomputable def shutS (mk : List Pt → Option Nat) : List (List Pt) → Option (List (List Pt))
  | p :: q :: r => (mk p).map fun t => (q ++ [.v t]) :: r
  | _ => none
noncomputable def stepS (mk : List Pt → Option Nat) (sk : List (List Pt)) (c : Nat) : Option (List (List Pt)) := if c == 0 then some ([] :: sk) else if c == 1 then shutS mk sk else match sk with
  | p :: r => some ((p ++ [.w c]) :: r)
  | [] => none
noncomputable def run (mk : List Pt → Option Nat) : List (List Pt) → List Nat → Option (List (List Pt))
  | sk, [] => some sk
  | sk, c :: cs => (stepS mk sk c).bind fun s => run mk s cs
noncomputable def Fr (N L : Nat) (G : DH) : List Nat → List (List Pt) → Prop
  | [], [] => True
  | o :: os, ps :: sk => (∃ ds, G[o]? = some (.lst ds) ∧ Rps N ps ds ∧ ds.length ≤ L) ∧ Fr N L G os sk
  | _, _ => False
theorem Fr.mono {N M L K : Nat} {G G' : DH} (h : N ≤ M) (hL : L ≤ K) : ∀ {os : List Nat} {sk : List (List Pt)}, (∀ o ∈ os, ∀ x, G[o]? = some x → G'[o]? = some x) → Fr N L G os sk → Fr M K G' os sk
  | [], [], _, _ => trivial
  | o :: os, ps :: sk, hg, ⟨⟨ds, e, r, l⟩, f⟩ => ⟨⟨ds, hg o (by simp) _ e, r.mono h, by omega⟩, Fr.mono h hL (fun o ho => hg o (by simp [ho])) f⟩
  | [], _ :: _, _, f => f.elim
  | _ :: _, [], _, f => f.elim
structure St (N L : Nat) (G0 G : DH) (u wd : Nat) (W : List D) (ok : List Nat) (sk : List (List Pt)) : Prop where
  pre : ∃ X, G = G0 ++ X
  hu : G[u]? = some (.lst (ok.reverse.map .obj))
  hw : G[wd]? = some (.lst W)
  fr : Fr N L G ok sk
  nd : ok.Nodup
  nu : u ∉ ok
  nw : wd ∉ ok
  uw : u ≠ wd
  ge : G0.length ≤ u ∧ G0.length ≤ wd ∧ ∀ o ∈ ok, G0.length ≤ o
theorem pre_set {G0 G : DH} (h : ∃ X, G = G0 ++ X) {i : Nat} (hi : G0.length ≤ i) (x : DO) : ∃ X, G.set i x = G0 ++ X := by
  obtain ⟨X, rfl⟩ := h
  exact ⟨_, List.set_append_right _ _ hi⟩
theorem pre_app {G0 G : DH} (h : ∃ X, G = G0 ++ X) (E : DH) : ∃ X, G ++ E = G0 ++ X := by
  obtain ⟨X, rfl⟩ := h
  exact ⟨X ++ E, by simp⟩
theorem get_set {G : DH} {i j : Nat} {x y : DO} (h : G[j]? = some y) (hn : i ≠ j) : (G.set i x)[j]? = some y := by rw [List.getElem?_set_ne hn]; exact h
theorem set_get {G : DH} {i : Nat} {x y : DO} (h : G[i]? = some y) : (G.set i x)[i]? = some x := by
  have := (List.getElem?_eq_some_iff.mp h).1
  rw [List.getElem?_set, if_pos rfl, if_pos this]
theorem lt_of_get {G : DH} {i : Nat} {y : DO} (h : G[i]? = some y) : i < G.length := (List.getElem?_eq_some_iff.mp h).1
variable {N L : Nat} {G0 G : DH} {u wd : Nat} {W : List D} {ok : List Nat} {sk : List (List Pt)}
theorem fr_lt : ∀ {ok : List Nat} {sk : List (List Pt)}, Fr N L G ok sk → ∀ o ∈ ok, o < G.length
  | [], [], _, o, ho => by simp at ho
  | p :: os, ps :: sk, ⟨⟨ds, e, _⟩, f⟩, o, ho => by
    rcases List.mem_cons.mp ho with rfl | ho
    · exact lt_of_get e
    · exact fr_lt f o ho
  | [], _ :: _, f, _, _ => f.elim
  | _ :: _, [], f, _, _ => f.elim
theorem St.push (s : St N L G0 G u wd W ok sk) : St N L G0 ((G ++ [DO.lst []]).set u (DO.lst ((G.length :: ok).reverse.map D.obj))) u wd W (G.length :: ok) ([] :: sk) := by
  have lu := lt_of_get s.hu
  have lw := lt_of_get s.hw
  have hlt := fr_lt s.fr
  have hG0 : G0.length ≤ G.length := by obtain ⟨X, rfl⟩ := s.pre; simp
  have nn : G.length ∉ ok := fun h => absurd (hlt _ h) (Nat.lt_irrefl _)
  refine ⟨pre_set (pre_app s.pre _) s.ge.1 _, set_get (lstOf_app s.hu), get_set (lstOf_app s.hw) s.uw, ⟨⟨[], get_set (ga0 _ _ _) (by first | decide | omega), trivial, by simp⟩, s.fr.mono (Nat.le_refl _) (Nat.le_refl _) fun o ho x e => get_set (lstOf_app e) fun z => s.nu (z ▸ ho)⟩, List.nodup_cons.mpr ⟨nn, s.nd⟩, ?_, ?_, s.uw, s.ge.1, s.ge.2.1, ?_⟩
  · intro h; rcases List.mem_cons.mp h with h | h
    · omega
    · exact s.nu h
  · intro h; rcases List.mem_cons.mp h with h | h
    · omega
    · exact s.nw h
  · intro o ho
    rcases List.mem_cons.mp ho with rfl | ho
    · exact hG0
    · exact s.ge.2.2 o ho
theorem St.add {o : Nat} {ps : List Pt} {p : Pt} {d : D} {ds : List D} (s : St N L G0 G u wd W (o :: ok) (ps :: sk)) (hd : G[o]? = some (.lst ds)) (hr : Rps N ps ds) (hl : ds.length ≤ L) (r : Rp N p d) : St N (L + 1) G0 (G.set o (.lst (ds ++ [d]))) u wd W (o :: ok) ((ps ++ [p]) :: sk) := by
  have nd := List.nodup_cons.mp s.nd
  have no : u ≠ o := fun z => s.nu (by simp [z])
  have nw : wd ≠ o := fun z => s.nw (by simp [z])
  refine ⟨pre_set s.pre (s.ge.2.2 o (by simp)) _, get_set s.hu no.symm, get_set s.hw nw.symm, ⟨⟨_, set_get hd, Rps.app r hr, by simp; omega⟩, s.fr.2.mono (Nat.le_refl _) (by first | decide | omega) fun q hq x e => get_set e fun z => nd.1 (z ▸ hq)⟩, s.nd, s.nu, s.nw, s.uw, s.ge⟩
theorem St.up (s : St N L G0 G u wd W ok sk) {M K : Nat} (h : N ≤ M) (hL : L ≤ K) : St M K G0 G u wd W ok sk := ⟨s.pre, s.hu, s.hw, s.fr.mono h hL fun _ _ _ e => e, s.nd, s.nu, s.nw, s.uw, s.ge⟩
theorem St.more (s : St N L G0 G u wd W ok sk) (E : DH) : St N L G0 (G ++ E) u wd W ok sk := ⟨pre_app s.pre E, lstOf_app s.hu, lstOf_app s.hw, s.fr.mono (Nat.le_refl _) (Nat.le_refl _) fun _ _ _ e => lstOf_app e, s.nd, s.nu, s.nw, s.uw, s.ge⟩
theorem St.pop {o : Nat} {ps : List Pt} (s : St N L G0 G u wd W (o :: ok) (ps :: sk)) : St N L G0 (G.set u (.lst (ok.reverse.map .obj))) u wd W ok sk := by
  have nd := List.nodup_cons.mp s.nd
  refine ⟨pre_set s.pre s.ge.1 _, set_get s.hu, get_set s.hw s.uw, s.fr.2.mono (Nat.le_refl _) (Nat.le_refl _) fun q hq x e => get_set e fun z => s.nu (by simp [z, hq]), nd.2, fun h => s.nu (by simp [h]), fun h => s.nw (by simp [h]), s.uw, s.ge.1, s.ge.2.1, fun q hq => s.ge.2.2 q (by simp [hq])⟩
theorem at_last {α : Type} (xs : List α) (x : α) : atI (xs ++ [x]) (-1) = some x := by
  unfold atI ixN
  rw [if_neg (by first | decide | omega), if_pos (by simp; omega)]
  show (xs ++ [x])[(-1 + ((xs ++ [x]).length : Int)).toNat]? = some x
  rw [show (-1 + ((xs ++ [x]).length : Int)).toNat = xs.length by simp; omega]
  simp
theorem c_open (s : Str) (k : PyData.strOk s = true) (G : DH) : dEq false (.str s) (.str "(") G = .ok (.bl (cls s == 0)) G := by
  rw [dEq_str false s "(" G k (by decide +kernel), ← cls_eq s 0 (by first | decide | omega)]
  simp [consts]
theorem c_shut (s : Str) (k : PyData.strOk s = true) (G : DH) : dEq false (.str s) (.str ")") G = .ok (.bl (cls s == 1)) G := by
  rw [dEq_str false s ")" G k (by decide +kernel), ← cls_eq s 1 (by first | decide | omega)]
  simp [consts]
theorem turn_open {w : Str} (k : PyData.strOk w = true) (h0 : cls w = 0) (s : St N L G0 G u wd W ok sk) (hlen : ok.length ≤ 300) (t f b4 : Option D) :
    L0_read_bracket [t, f, some (.obj u), some (.str w), b4] G = .nx [t, f, some (.obj u), some (.str w), b4] ((G ++ [DO.lst []]).set u (DO.lst ((G.length :: ok).reverse.map D.obj))) := by
  have e := c_open w k G
  rw [h0] at e
  have hz : ok.length < sizeLine := Nat.lt_of_lt_of_le (by first | decide | omega) (lz (n := 1000) (by first | decide | omega))
  have hu' : (G ++ [DO.lst []])[u]? = some (.lst (ok.reverse.map .obj)) := lstOf_app s.hu
  have hu := s.hu
  simp [dTru, dIx, seqOf, dInt2, dInt2L, dLen, dAdd, dNew, dTup, kindOk, dAppend, dPop, dIsi, tyD, Ty.is, L0_read_bracket, e, hu, hu', hz]
theorem turn_word {w : Str} (k : PyData.strOk w = true) (h0 : cls w ≠ 0) (h1 : cls w ≠ 1) {o : Nat} {ps : List Pt} {ds : List D} (s : St N L G0 G u wd W (o :: ok) (ps :: sk)) (hd : G[o]? = some (.lst ds)) (hl : ds.length ≤ 300) (t f b4 : Option D) :
    L0_read_bracket [t, f, some (.obj u), some (.str w), b4] G = .nx [t, f, some (.obj u), some (.str w), b4] (G.set o (.lst (ds ++ [.str w]))) := by
  have e := c_open w k G
  have e1 := c_shut w k G
  have b0 : (cls w == 0) = false := by simpa using h0
  have b1 : (cls w == 1) = false := by simpa using h1
  rw [b0] at e
  rw [b1] at e1
  have hz : ds.length < sizeLine := Nat.lt_of_lt_of_le (by first | decide | omega) (lz (n := 1000) (by first | decide | omega))
  have hu := s.hu
  simp only [List.reverse_cons, List.map_append, List.map_cons, List.map_nil] at hu
  simp [dTru, dIx, seqOf, dInt2, dInt2L, dLen, dAdd, dNew, dTup, kindOk, dAppend, dPop, dIsi, tyD, Ty.is, L0_read_bracket, e, e1, hu, at_last, hd, hz]
theorem turn_shut {w : Str} (k : PyData.strOk w = true) (h1 : cls w = 1) {nm : Str} {mm : List D → M D} {mk : List Pt → Option Nat} (hnm : List.lookup nm [("make_tree", m_make_tree), ("make_in_shape", m_make_in_shape), ("make_in_way", m_make_in_way)] = some mm)
    (hmk : ∀ (N : Nat) (G : DH) (o : Nat) (ds : List D) (ps : List Pt), 1 ≤ N → N + 1 ≤ 199 → G[o]? = some (.lst ds) → Rps N ps ds → ds.length ≤ 400 → Mk (mk ps) (mm [.obj o] G) G (N + 2))
    (hN1 : 1 ≤ N) (hN : N + 1 ≤ 199) (hL : L ≤ 300) (s : St N L G0 G u wd W ok sk) (hok : ok ≠ []) (t b4 : Option D) :
    match shutS mk sk with
    | some sk' => ∃ G' ok' b4', L0_read_bracket [t, some (.fn nm), some (.obj u), some (.str w), b4] G = .nx [t, some (.fn nm), some (.obj u), some (.str w), b4'] G' ∧ St (N + 2) (L + 1) G0 G' u wd W ok' sk' ∧ ok' ≠ [] ∧ ok'.length ≤ ok.length
    | none => ∃ as τ' G', L0_read_bracket [t, some (.fn nm), some (.obj u), some (.str w), b4] G = .xn (.mk "NoText" as) τ' G' ∧ ∃ X, G' = G0 ++ X := by
  have z1 : (1 : Nat) ≤ sizeLine := lz (by first | decide | omega)
  have e := c_open w k G
  have e1 := c_shut w k G
  rw [h1] at e e1
  match ok, sk, hok, s with
  | o :: ok, ps :: sk, _, s =>
    have sp := s.pop
    obtain ⟨⟨ds, hd, hr, hl⟩, _⟩ := s.fr
    have hu := s.hu
    have nu : u ≠ o := fun z => s.nu (by simp [z])
    simp only [List.reverse_cons, List.map_append, List.map_cons, List.map_nil] at hu
    match ok, sk, sp, s with
    | [], [], sp, s =>
      show ∃ as τ' G', _ ∧ _
      refine ⟨[.str "a bracket is shut that was never begun"], [t, some (.fn nm), some (.obj u), some (.str w), some (.obj o)], G.set u (.lst []), ?_, sp.pre⟩
      have hu2 : (G.set u (.lst []))[u]? = some (.lst []) := set_get hu
      simp only [List.reverse_nil, List.map_nil, List.nil_append] at hu
      simp [dTru, dIx, seqOf, dInt2, dInt2L, dLen, dAdd, dNew, dTup, kindOk, dAppend, dPop, dIsi, tyD, Ty.is, L0_read_bracket, I0_read_bracket, e, e1, hu, hu2, dEq_int, z1]
    | o2 :: ok, qs :: sk, sp, s =>
      obtain ⟨⟨ds2, hd2, hr2, hl2⟩, _⟩ := sp.fr
      have hu2 := sp.hu
      have hd' : (G.set u (.lst ((o2 :: ok).reverse.map .obj)))[o]? = some (.lst ds) := get_set hd nu
      have hm := hmk N _ o ds ps hN1 hN hd' hr (by first | decide | omega)
      generalize hG1 : G.set u (.lst ((o2 :: ok).reverse.map .obj)) = G1 at sp hu2 hd2 hd' hm
      simp only [List.reverse_cons, List.map_append, List.map_cons, List.map_nil] at hu2 hG1 hu
      have hne : ((ok.length : Int) + 1 == 0) = false := by simp; omega
      have hdl : (((ok.reverse.map D.obj) ++ [D.obj o2]) ++ [D.obj o]).dropLast = (ok.reverse.map D.obj) ++ [D.obj o2] := List.dropLast_concat
      have hix : (((ok.reverse.map D.obj) ++ [D.obj o2]) ++ [D.obj o])[(((ok.reverse.map D.obj) ++ [D.obj o2]) ++ [D.obj o]).length - 1]? = some (D.obj o) := by simp
      have eI : ∀ r : Res, (sExpr (eMethT "list" dAppend (eOp dIx (eVar 2) (eNeg (eC (.int 1)))) (aCons (eCallV 1 1 (fun y => List.lookup y [("make_tree", m_make_tree), ("make_in_shape", m_make_in_shape), ("make_in_way", m_make_in_way)]) (aCons (eVar 4) (aNil))) (aNil)))) [t, some (.fn nm), some (.obj u), some (.str w), some (.obj o)] G1 = r → L0_read_bracket [t, some (.fn nm), some (.obj u), some (.str w), b4] G = r := fun r hr' => by
        have ep : (sSet 4 (eMethT "list" dPop (eVar 2) aNil)) [t, some (.fn nm), some (.obj u), some (.str w), b4] G = .nx [t, some (.fn nm), some (.obj u), some (.str w), some (.obj o)] G1 := by
          simp only [sSet_l, eMethT_l, eVar_l, List.getElem?_cons_succ, List.getElem?_cons_zero, bd_ok, kindOk, hu, aNil_l, dPop, hix, hdl, beq_self_eq_true, if_true, st_ok, List.set_cons_succ, List.set_cons_zero, hG1]
        have ei : (sIf (tBl (eOp (dEq false) (eArgs dLen (aCons (eVar 2) (aNil))) (eC (.int 0)))) (sRaise "NoText" (aCons (eC (.str "a bracket is shut that was never begun")) (aNil))) (sSkip)) [t, some (.fn nm), some (.obj u), some (.str w), some (.obj o)] G1 = .nx [t, some (.fn nm), some (.obj u), some (.str w), some (.obj o)] G1 := by
          simp [dTru, dIx, seqOf, dInt2, dInt2L, dLen, dAdd, dNew, dTup, kindOk, dAppend, dPop, dIsi, tyD, Ty.is, hu2, dEq_int, hne]
        simp only [L0_read_bracket, sIf_l, tBl_l, eOp_l, eVar_l, eC_l, List.getElem?_cons_succ, List.getElem?_cons_zero, bd_ok, bind_l, e, e1, asBl_b, show ((1 : Nat) == 0) = false from rfl, show ((1 : Nat) == 1) = true from rfl, cs_t, cs_f]
        rw [I0_read_bracket, sSeq_l, ep, sq_nx, sSeq_l, ei, sq_nx]
        exact hr'
      have hkind : kindOk "list" G1 (.obj o2) = true := by simp [kindOk, hd2]
      cases hq : mk ps with
      | none =>
        rw [hq] at hm
        obtain ⟨as, E, em⟩ := hm
        simp only [shutS, hq, Option.map]
        refine ⟨as, [t, some (.fn nm), some (.obj u), some (.str w), some (.obj o)], G1 ++ E, eI _ ?_, pre_app sp.pre E⟩
        simp [dTru, dIx, seqOf, dInt2, dInt2L, dLen, dAdd, dNew, dTup, kindOk, dAppend, dPop, dIsi, tyD, Ty.is, hu2, at_last, hd2, hnm, em]
      | some tt =>
        rw [hq] at hm
        obtain ⟨v, E, em, rv⟩ := hm
        simp only [shutS, hq, Option.map]
        have hd3 : (G1 ++ E)[o2]? = some (.lst ds2) := lstOf_app hd2
        have hz : ds2.length < sizeLine := Nat.lt_of_lt_of_le (by first | decide | omega) (lz (n := 1000) (by first | decide | omega))
        refine ⟨(G1 ++ E).set o2 (.lst (ds2 ++ [v])), o2 :: ok, some (.obj o), eI _ ?_, ?_, by simp, by simp⟩
        · simp [dTru, dIx, seqOf, dInt2, dInt2L, dLen, dAdd, dNew, dTup, kindOk, dAppend, dPop, dIsi, tyD, Ty.is, hu2, at_last, hd2, hnm, em, hd3, hz]
        · exact ((sp.more E).up (show N ≤ N + 2 by omega) (Nat.le_refl _)).add hd3 (hr2.mono (by first | decide | omega)) hl2 rv
    | [], _ :: _, sp, s => exact s.fr.2.elim
    | _ :: _, [], sp, s => exact s.fr.2.elim
  | _ :: _, [], _, s => exact s.fr.elim
end K16
end
section
set_option Elab.async false
set_option linter.all false
set_option maxRecDepth 100000
set_option maxHeartbeats 4000000
namespace K16
open PySem PySem.Spec L2 L3
theorem read_loop (ws : List Str) (hws : ∀ w ∈ ws, PyData.strOk w = true ∧ w.length ≤ 900) {nm : Str} {mm : List D → M D} {mk : List Pt → Option Nat} (hnm : List.lookup nm [("make_tree", m_make_tree), ("make_in_shape", m_make_in_shape), ("make_in_way", m_make_in_way)] = some mm)
    (hmk : ∀ (N : Nat) (G : DH) (o : Nat) (ds : List D) (ps : List Pt), 1 ≤ N → N + 1 ≤ 199 → G[o]? = some (.lst ds) → Rps N ps ds → ds.length ≤ 400 → Mk (mk ps) (mm [.obj o] G) G (N + 2)) (G0 : DH) (u wd : Nat) (t : Option D) :
    ∀ (rest : List Str) (j N L : Nat) (G : DH) (ok : List Nat) (sk : List (List Pt)) (b3 b4 : Option D) (fl : Nat), ws.drop j = rest → rest.length < fl → St N L G0 G u wd (ws.map .str) ok sk → ok ≠ [] → ok.length + rest.length ≤ 300 → 1 ≤ N → N + 2 * rest.length + 1 ≤ 199 → L + rest.length ≤ 300 →
    match run mk sk (rest.map cls) with
    | some sk' => ∃ G' ok' b3' b4', forO (gN 3) L0_read_bracket wd fl j [t, some (.fn nm), some (.obj u), b3, b4] G = .nx [t, some (.fn nm), some (.obj u), b3', b4'] G' ∧ St 199 300 G0 G' u wd (ws.map .str) ok' sk' ∧ ok' ≠ []
    | none => ∃ as τ' G', forO (gN 3) L0_read_bracket wd fl j [t, some (.fn nm), some (.obj u), b3, b4] G = .xn (.mk "NoText" as) τ' G' ∧ ∃ X, G' = G0 ++ X
  | _, j, N, L, G, ok, sk, b3, b4, 0, hd, hf, s, hne, hok, h1, h2, h3 => by omega
  | [], j, N, L, G, ok, sk, b3, b4, fl + 1, hd, hf, s, hne, hok, h1, h2, h3 => by
    have hk : (ws.map D.str)[j]? = none := by
      have := List.drop_eq_nil_iff.mp hd
      simp; omega
    simp only [List.map_nil, run]
    refine ⟨G, ok, b3, b4, ?_, s.up (by simp at h2; omega) (by simp at h3; omega), hne⟩
    rw [forO_end s.hw hk]
  | w :: rest, j, N, L, G, ok, sk, b3, b4, fl + 1, hd, hf, s, hne, hok, h1, h2, h3 => by
    have hlt : j < ws.length := by
      rcases Nat.lt_or_ge j ws.length with h | h
      · exact h
      · rw [List.drop_eq_nil_of_le h] at hd; cases hd
    rw [List.drop_eq_getElem_cons hlt] at hd
    have hw' : ws[j]? = some w := by rw [List.getElem?_eq_getElem hlt]; exact congrArg some (List.cons.inj hd).1
    have hk : (ws.map D.str)[j]? = some (.str w) := by rw [List.getElem?_map, hw']; rfl
    obtain ⟨k, kl⟩ := hws w (List.mem_of_getElem? hw')
    have hd' := (List.cons.inj hd).2
    simp only [List.length_cons] at hf hok h2 h3
    rw [forO_l s.hw hk rfl]
    simp only [List.set_cons_succ, List.set_cons_zero, List.map_cons]
    by_cases c0 : cls w = 0
    · have e := turn_open k c0 s (by first | decide | omega) t (some (.fn nm)) b4
      have er : run mk sk (cls w :: rest.map cls) = run mk ([] :: sk) (rest.map cls) := by simp only [run, stepS, c0]; rfl
      rw [er, e, lp_nx]
      exact read_loop ws hws hnm hmk G0 u wd t rest (j + 1) N L _ _ _ (some (.str w)) b4 fl hd' (by first | decide | omega) s.push (by simp) (by simp; omega) h1 (by first | decide | omega) (by first | decide | omega)
    · have b0 : (cls w == 0) = false := by simpa using c0
      by_cases c1 : cls w = 1
      · have b1 : (cls w == 1) = true := by simpa using c1
        have hs := turn_shut k c1 hnm hmk h1 (by first | decide | omega) (by first | decide | omega) s hne t b4
        have er : run mk sk (cls w :: rest.map cls) = (shutS mk sk).bind fun s => run mk s (rest.map cls) := by
          simp only [run, stepS, b0, b1, if_true, Bool.false_eq_true, if_false]
        rw [er]
        generalize shutS mk sk = r at hs
        cases r with
        | none =>
          obtain ⟨as, τ', G', e, hX⟩ := hs
          exact ⟨as, τ', G', by rw [e, lp_xn], hX⟩
        | some sk' =>
          obtain ⟨G', ok', b4', e, s', hne', hle⟩ := hs
          rw [e, lp_nx]
          exact read_loop ws hws hnm hmk G0 u wd t rest (j + 1) (N + 2) (L + 1) G' ok' sk' (some (.str w)) b4' fl hd' (by first | decide | omega) s' hne' (by first | decide | omega) (by first | decide | omega) (by first | decide | omega) (by first | decide | omega)
      · have b1 : (cls w == 1) = false := by simpa using c1
        match ok, sk, hne, s, hok with
        | o :: ok, ps :: sk, _, s, hok =>
          obtain ⟨⟨ds, hd2, hr, hl⟩, _⟩ := s.fr
          have e := turn_word k c0 c1 s hd2 (by first | decide | omega) t (some (.fn nm)) b4
          have er : run mk (ps :: sk) (cls w :: rest.map cls) = run mk ((ps ++ [.w (cls w)]) :: sk) (rest.map cls) := by
            simp only [run, stepS, b0, b1, Bool.false_eq_true, if_false]
            rfl
          rw [er, e, lp_nx]
          exact read_loop ws hws hnm hmk G0 u wd t rest (j + 1) N (L + 1) _ _ _ (some (.str w)) b4 fl hd' (by first | decide | omega) (s.add hd2 hr hl ⟨w, rfl, k, kl, rfl⟩) (by simp) (by first | decide | omega) h1 (by first | decide | omega) (by first | decide | omega)
        | _ :: _, [], _, s, _ => exact s.fr.elim
theorem words_comp (C : DH) (src : Nat) (X : List Str) (τ : DS) (hsrc : C[src]? = some (.lst (X.map .str))) (hX : ∀ s ∈ X, PyData.strOk s = true) : ∀ (rest : List Str) (k : Nat) (acc : List D) (fl : Nat), X.drop k = rest → rest.length < fl → acc.length + rest.length ≤ 100000 →
    compO oN [] (tBl (eOp (dEq true) (eVar 0) (eC (.str "")))) (eVar 0) C.length src fl k τ (C ++ [.lst acc]) = .ok (.obj C.length) (C ++ [.lst (acc ++ (rest.filter fun (s : Str) => !(s == ("" : Str))).map D.str)])
  | _, k, acc, 0, hd, hf, ha => by omega
  | [], k, acc, fl + 1, hd, hf, ha => by
    have hk : (X.map D.str)[k]? = none := by
      have := List.drop_eq_nil_iff.mp hd
      simp; omega
    rw [compO, lstOf_app hsrc]
    simp only [hk]
    simp
  | s :: r, k, acc, fl + 1, hd, hf, ha => by
    have hs : acc.length < sizeLine := Nat.lt_of_lt_of_le (by simp at ha; omega) (lz (n := 200000) (by first | decide | omega))
    have hlt : k < X.length := by
      rcases Nat.lt_or_ge k X.length with h | h
      · exact h
      · rw [List.drop_eq_nil_of_le h] at hd; cases hd
    rw [List.drop_eq_getElem_cons hlt] at hd
    have hk0 : X[k]? = some s := by rw [List.getElem?_eq_getElem hlt]; exact congrArg some (List.cons.inj hd).1
    have hk : (X.map D.str)[k]? = some (.str s) := by rw [List.getElem?_map, hk0]; rfl
    have he := dEq_str true s "" (C ++ [.lst acc]) (hX s (List.mem_of_getElem? hk0)) (by decide +kernel)
    cases hq : (s == ("" : Str)) with
    | true =>
      rw [hq] at he
      have e1 : compOne oN [] (tBl (eOp (dEq true) (eVar 0) (eC (.str "")))) (eVar 0) C.length (.str s) τ (C ++ [.lst acc]) = .ok () (C ++ [.lst acc]) := by
        simp [dTru, dIx, seqOf, dInt2, dInt2L, dLen, dAdd, dNew, dTup, kindOk, dAppend, dPop, dIsi, tyD, Ty.is, compOne, oN, he]
      have ih := words_comp C src X τ hsrc hX r (k + 1) acc fl (List.cons.inj hd).2 (by simpa using hf) (by simp at ha ⊢; omega)
      rw [compO, lstOf_app hsrc]
      simp only [hk, e1, ih]
      rw [List.filter_cons, hq]; rfl
    | false =>
      rw [hq] at he
      have e1 : compOne oN [] (tBl (eOp (dEq true) (eVar 0) (eC (.str "")))) (eVar 0) C.length (.str s) τ (C ++ [.lst acc]) = .ok () (C ++ [.lst (acc ++ [.str s])]) := by
        simp [dTru, dIx, seqOf, dInt2, dInt2L, dLen, dAdd, dNew, dTup, kindOk, dAppend, dPop, dIsi, tyD, Ty.is, compOne, oN, he, hs]
      have ih := words_comp C src X τ hsrc hX r (k + 1) (acc ++ [.str s]) fl (List.cons.inj hd).2 (by simpa using hf) (by simp at ha ⊢; omega)
      rw [compO, lstOf_app hsrc]
      simp only [hk, e1, ih]
      rw [List.filter_cons, hq]
      simp
end K16
end
section
set_option Elab.async false
set_option linter.all false
set_option maxRecDepth 100000
set_option maxHeartbeats 4000000
namespace K16
open PySem PySem.Spec L2 L3
theorem ok_l (s : Str) : PyData.strOk s = s.cps.toList.all (· < 0x110000) := by simp [PyData.strOk]
theorem rp_mem {c : Nat} {s l : List Nat} {x : Nat} (h : x ∈ rp c s l) : x ∈ s ∨ x ∈ l := by
  unfold rp at h
  obtain ⟨y, hy, hx⟩ := List.mem_flatMap.mp h
  split at hx
  · exact .inl hx
  · rw [List.mem_singleton.mp hx]; exact .inr hy
theorem rp_len (c : Nat) (a b d : Nat) : ∀ l, (rp c [a, b, d] l).length ≤ 3 * l.length
  | [] => by simp [rp]
  | x :: xs => by
    have ih := rp_len c a b d xs
    unfold rp at ih ⊢
    rw [List.flatMap_cons, List.length_append, List.length_cons]
    split
    · simp only [List.length_cons, List.length_nil]; omega
    · simp only [List.length_cons, List.length_nil]; omega
theorem splitL_mem {c : Nat} : ∀ {l : List Nat} {p : List Nat}, p ∈ splitL c l → ∀ x ∈ p, x ∈ l
  | [], p, h, x, hx => by simp [splitL] at h; subst h; simp at hx
  | y :: ys, p, h, x, hx => by
    unfold splitL at h
    split at h
    · rcases List.mem_cons.mp h with rfl | h
      · simp at hx
      · exact List.mem_cons_of_mem _ (splitL_mem h x hx)
    · cases q : splitL c ys with
      | nil => exact absurd q (splitL_ne c ys)
      | cons a r =>
        rw [q] at h
        rcases List.mem_cons.mp h with rfl | h
        · rcases List.mem_cons.mp hx with rfl | hx
          · simp
          · exact List.mem_cons_of_mem _ (splitL_mem (c := c) (l := ys) (p := a) (by rw [q]; simp) x hx)
        · exact List.mem_cons_of_mem _ (splitL_mem (c := c) (l := ys) (p := p) (by rw [q]; simp [h]) x hx)
theorem splitL_len (c : Nat) : ∀ l, (splitL c l).length ≤ l.length + 1
  | [] => by simp [splitL]
  | x :: xs => by
    have ih := splitL_len c xs
    unfold splitL
    split
    · simp; omega
    · cases q : splitL c xs with
      | nil => simp
      | cons a r => rw [q] at ih; simp at ih ⊢; omega
noncomputable def tx (W : List Str) : Str := Txt.join " " W
theorem tx_l (W : List Str) : (tx W).cps.toList = joinL [32] (W.map fun p => p.cps.toList) := by
  show (Builtin.Str.glued " " W).cps.toList = _
  rw [StrLaws.glued_eq_join, join_l]; rfl
theorem joinL_mem {s : List Nat} : ∀ {ps : List (List Nat)} {x : Nat}, x ∈ joinL s ps → x ∈ s ∨ ∃ p ∈ ps, x ∈ p
  | [], x, h => by simp [joinL] at h
  | [p], x, h => .inr ⟨p, by simp, h⟩
  | p :: q :: ps, x, h => by
    rw [joinL] at h
    rcases List.mem_append.mp h with h | h
    · rcases List.mem_append.mp h with h | h
      · exact .inr ⟨p, by simp, h⟩
      · exact .inl h
    · rcases joinL_mem h with h | ⟨r, hr, hx⟩
      · exact .inl h
      · exact .inr ⟨r, by simp at hr ⊢; right; exact hr, hx⟩
theorem wd_no10 {w : Str} (h : Wd w) : 10 ∉ w.cps.toList := by
  rcases h with rfl | rfl | ⟨_, h⟩
  · decide +kernel
  · decide +kernel
  · exact fun z => (h 10 z).2.2.2 rfl
theorem words_eq (W : List Str) (hW : W ≠ []) (hw : ∀ w ∈ W, Wd w) (hs : ∀ w ∈ W, PyData.strOk w = true) (ht : (tx W).length ≤ 1000) (G : DH) : ∃ X : List D, m_words_of [.str (tx W)] G = .ok (.obj (G.length + 1)) (G ++ [.lst X, .lst (W.map .str)]) := by
  have hno : noOcc (tx W) "\n" = true := noOcc_l (tx W) 10 (by
    rw [tx_l]
    intro h
    rcases joinL_mem h with h | ⟨p, hp, hx⟩
    · simp at h
    · obtain ⟨w, hw', rfl⟩ := List.mem_map.mp hp
      exact wd_no10 (hw w hw') hx)
  have hlt : (tx W).cps.toList.length ≤ 1000 := by simpa [Str.length] using ht
  have z3 : (" ( " : Str).length = 3 := by decide +kernel
  have z3' : (" ) " : Str).length = 3 := by decide +kernel
  have n1 : (("(" : Str) == " ( ") = false := by decide +kernel
  have n2 : ((")" : Str) == " ) ") = false := by decide +kernel
  have l1 : (Txt.replace (tx W) "(" " ( ").cps.toList = rp 40 [32, 40, 32] (tx W).cps.toList := replace_l (tx W) " ( " 40
  have l2 : (Txt.replace (Txt.replace (tx W) "(" " ( ") ")" " ) ").cps.toList = rp 41 [32, 41, 32] (rp 40 [32, 40, 32] (tx W).cps.toList) := by
    rw [← l1]; exact replace_l _ " ) " 41
  have k1 : (Txt.replace (tx W) "(" " ( ").length ≤ 3000 := by
    have := rp_len 40 32 40 32 (tx W).cps.toList
    rw [← l1] at this
    have e : (Txt.replace (tx W) "(" " ( ").length = (Txt.replace (tx W) "(" " ( ").cps.toList.length := by simp [Str.length]
    omega
  have k2 : (Txt.replace (Txt.replace (tx W) "(" " ( ") ")" " ) ").length ≤ 9000 := by
    have := rp_len 41 32 41 32 (rp 40 [32, 40, 32] (tx W).cps.toList)
    rw [← l2] at this
    have e : (Txt.replace (Txt.replace (tx W) "(" " ( ") ")" " ) ").length = (Txt.replace (Txt.replace (tx W) "(" " ( ") ")" " ) ").cps.toList.length := by simp [Str.length]
    have e1 : (Txt.replace (tx W) "(" " ( ").length = (Txt.replace (tx W) "(" " ( ").cps.toList.length := by simp [Str.length]
    rw [l1] at e1
    omega
  generalize hsp : Txt.replace (Txt.replace (tx W) "(" " ( ") ")" " ) " = sp at l2 k2
  have esp : Txt.split sp " " = (splitL 32 sp.cps.toList).map ofL := split_eq sp 32
  generalize hX : Txt.split sp " " = X at esp
  have hXl : X.length ≤ 9001 := by
    rw [esp, List.length_map]
    have := splitL_len 32 sp.cps.toList
    have e : sp.length = sp.cps.toList.length := by simp [Str.length]
    omega
  have hok : ∀ s ∈ X, PyData.strOk s = true := fun s h => by
    rw [esp] at h
    obtain ⟨p, hp, rfl⟩ := List.mem_map.mp h
    rw [ok_l, ofL_l, List.all_eq_true]
    intro x hx
    have h1 := splitL_mem hp x hx
    rw [l2] at h1
    rcases rp_mem h1 with h1 | h1
    · simp at h1; rcases h1 with rfl | rfl | rfl <;> decide
    · rcases rp_mem h1 with h1 | h1
      · simp at h1; rcases h1 with rfl | rfl | rfl <;> decide
      · rw [tx_l] at h1
        rcases joinL_mem h1 with h1 | ⟨q, hq, hx'⟩
        · simp at h1; subst h1; decide
        · obtain ⟨w, hw', rfl⟩ := List.mem_map.mp hq
          have := hs w hw'
          rw [ok_l, List.all_eq_true] at this
          exact this x hx'
  have hfil : (X.filter fun (s : Str) => !(s == ("" : Str))) = W := by
    have hl := words_l W hW hw
    rw [← tx_l, ← l2] at hl
    have : X.filter (fun (s : Str) => !(s == ("" : Str))) = ((splitL 32 sp.cps.toList).filter fun l => !l.isEmpty).map ofL := by
      rw [esp, List.filter_map]
      congr 1
      apply List.filter_congr
      intro l _
      cases l with
      | nil => rfl
      | cons a r =>
        have hne : (ofL (a :: r) == ("" : Str)) = false := by
          rw [beq_eq_false_iff_ne]
          intro h
          have := congrArg (fun s : Str => s.cps.toList) h
          simp [ofL] at this
          cases this
        simp [Function.comp, hne]
    rw [this, hl, List.map_map]
    conv => rhs; rw [← List.map_id W]
    exact List.map_congr_left fun w _ => l_ofL w
  have hc := words_comp (G ++ [.lst (X.map .str)]) G.length X [some (.str (tx W)), some (.str sp)] (ga0 _ _ _) hok X 0 [] (X.length + 1) (by simp) (by first | decide | omega) (by simp; omega)
  rw [hfil] at hc
  refine ⟨X.map .str, ?_⟩
  simp only [List.append_assoc, List.cons_append, List.nil_append, List.length_append, List.length_cons, List.length_nil, Nat.zero_add] at hc
  have c1 : (tx W).length + ((tx W).length + 1) * 3 ≤ 16777216 := by omega
  have c2 : (Txt.replace (tx W) "(" " ( ").length + ((Txt.replace (tx W) "(" " ( ").length + 1) * 3 ≤ 16777216 := by omega
  have c3 : sp.length + 2 ≤ sizeLine := lz (by first | decide | omega)
  have c4 : X.length ≤ sizeLine := lz (by first | decide | omega)
  have y1 : ¬ (" " : Str).length = 0 := by decide +kernel
  simp [dTru, dIx, seqOf, dInt2, dInt2L, dLen, dAdd, dNew, dTup, kindOk, dAppend, dPop, dIsi, tyD, Ty.is, m_words_of, b_words_of, dRep0, hno, dRep, z3, z3', n1, n2, c1, c2, hsp, dSplit, y1, c3, hX, c4, ga0, hc]
end K16
end
section
set_option Elab.async false
set_option linter.all false
set_option maxRecDepth 100000
set_option maxHeartbeats 4000000
namespace K16
open PySem PySem.Spec L2 L3
noncomputable def readC (mk : List Pt → Option Nat) (cs : List Nat) : Option Pt := match run mk [[]] cs with
  | some [[p]] => some p
  | _ => none
theorem read_sim (W : List Str) (hW : W ≠ []) (hw : ∀ w ∈ W, Wd w) (hs : ∀ w ∈ W, PyData.strOk w = true ∧ w.length ≤ 900) (hl : W.length ≤ 90) (ht : (tx W).length ≤ 1000) {nm : Str} {mm : List D → M D} {mk : List Pt → Option Nat} (hnm : List.lookup nm [("make_tree", m_make_tree), ("make_in_shape", m_make_in_shape), ("make_in_way", m_make_in_way)] = some mm)
    (hmk : ∀ (N : Nat) (G : DH) (o : Nat) (ds : List D) (ps : List Pt), 1 ≤ N → N + 1 ≤ 199 → G[o]? = some (.lst ds) → Rps N ps ds → ds.length ≤ 400 → Mk (mk ps) (mm [.obj o] G) G (N + 2)) (G : DH) :
    match readC mk (W.map cls) with
    | some p => ∃ d X, m_read_bracket [.str (tx W), .fn nm] G = .ok d (G ++ X) ∧ Rp 199 p d
    | none => Nt (m_read_bracket [.str (tx W), .fn nm] G) G := by
  have z1 : (1 : Nat) ≤ sizeLine := lz (by first | decide | omega)
  obtain ⟨X, ew⟩ := words_eq W hW hw (fun w h => (hs w h).1) ht (G ++ [.lst [], .lst [.obj G.length]])
  simp only [List.append_assoc, List.cons_append, List.nil_append, List.length_append, List.length_cons, List.length_nil, Nat.zero_add] at ew
  have g2 : (G ++ [DO.lst [], .lst [.obj G.length], .lst X, .lst (W.map .str)])[G.length + 1]? = some (.lst [.obj G.length]) := ga1 _ _ _ _
  have g4 : (G ++ [DO.lst [], .lst [.obj G.length], .lst X, .lst (W.map .str)])[G.length + (1 + 1) + 1]? = some (.lst (W.map .str)) := by
    rw [List.getElem?_append_right (by first | decide | omega), show G.length + (1 + 1) + 1 - G.length = 3 by omega]; rfl
  have s0 : St 1 0 G (G ++ [.lst [], .lst [.obj G.length], .lst X, .lst (W.map .str)]) (G.length + 1) (G.length + (1 + 1) + 1) (W.map .str) [G.length] [[]] :=
    ⟨⟨_, rfl⟩, g2, g4, ⟨⟨[], ga0 _ _ _, trivial, by simp⟩, trivial⟩, by simp, by simp, by simp; omega, by omega, by omega, by omega, by simp⟩
  have hL := read_loop W hs hnm hmk G (G.length + 1) (G.length + (1 + 1) + 1) (some (.str (tx W))) W 0 1 0 _ _ _ none none (W.length + 1) (by simp) (by first | decide | omega) s0 (by simp) (by simp; omega) (by first | decide | omega) (by first | decide | omega) (by first | decide | omega)
  have ei : (sSet 2 (eArgs dNew (aCons (eArgs dNew (aNil)) (aNil)))) [some (.str (tx W)), some (.fn nm), none, none, none] G = .nx [some (.str (tx W)), some (.fn nm), some (.obj (G.length + 1)), none, none] (G ++ [.lst [], .lst [.obj G.length]]) := by
    simp [dTru, dIx, seqOf, dInt2, dInt2L, dLen, dAdd, dNew, dTup, kindOk, dAppend, dPop, dIsi, tyD, Ty.is, z1]
  have ef : ∀ r, forO (gN 3) L0_read_bracket (G.length + (1 + 1) + 1) (W.length + 1) 0 [some (.str (tx W)), some (.fn nm), some (.obj (G.length + 1)), none, none] (G ++ [.lst [], .lst [.obj G.length], .lst X, .lst (W.map .str)]) = r →
      (sForIn (gN 3) (eCall 1 m_words_of (aCons (eVar 0) (aNil))) L0_read_bracket) [some (.str (tx W)), some (.fn nm), some (.obj (G.length + 1)), none, none] (G ++ [.lst [], .lst [.obj G.length]]) = r := fun r hr => by
    simp only [sForIn_l, eCall_l, aCons_l, aNil_l, eVar_l, List.getElem?_cons_zero, bd_ok, bind_l, ret_l, List.length_cons, List.length_nil, if_true, ew, sb_ok, g4, List.length_map]
    exact hr
  have em : ∀ r, (forO (gN 3) L0_read_bracket (G.length + (1 + 1) + 1) (W.length + 1) 0 [some (.str (tx W)), some (.fn nm), some (.obj (G.length + 1)), none, none] (G ++ [.lst [], .lst [.obj G.length], .lst X, .lst (W.map .str)])).sq T0_read_bracket = r → m_read_bracket [.str (tx W), .fn nm] G = r.fn := fun r hr => by
    rw [m_read_bracket, runB_l]
    show (b_read_bracket [some (.str (tx W)), some (.fn nm), none, none, none] G).fn = _
    rw [b_read_bracket, sSeq_l, ei, sq_nx, sSeq_l, ef _ rfl, hr]
  unfold readC
  generalize run mk [[]] (W.map cls) = rr at hL
  match rr, hL with
  | none, hL =>
    obtain ⟨as, τ', G', e, X', hX'⟩ := hL
    refine ⟨as, X', ?_⟩
    rw [em (.xn (.mk "NoText" as) τ' G') (by rw [e, sq_xn]), fn_x, hX']
  | some sk', hL =>
    obtain ⟨G', ok', b3, b4, e, s', hne⟩ := hL
    have et : m_read_bracket [.str (tx W), .fn nm] G = (T0_read_bracket [some (.str (tx W)), some (.fn nm), some (.obj (G.length + 1)), b3, b4] G').fn := em _ (by rw [e, sq_nx])
    obtain ⟨X', hX'⟩ := s'.pre
    have hu := s'.hu
    match ok', sk', s', hne with
    | [o], [ps], s', _ =>
      obtain ⟨⟨ds, hd, hr, hl'⟩, _⟩ := s'.fr
      have hlen := hr.len
      simp only [List.reverse_cons, List.reverse_nil, List.nil_append, List.map_cons, List.map_nil] at hu
      have a0 : atI [D.obj o] 0 = some (.obj o) := at0 _ _
      match ps, ds, hr with
      | [p], [d], hr =>
        refine ⟨d, X', ?_, hr.1⟩
        rw [et, ← hX']
        simp [dTru, dIx, seqOf, dInt2, dInt2L, dLen, dAdd, dNew, dTup, kindOk, dAppend, dPop, dIsi, tyD, Ty.is, T0_read_bracket, hu, a0, hd, dEq_int, at0]
      | [], [], hr =>
        refine ⟨[.str "a text must write one thing"], X', ?_⟩
        rw [et, ← hX']
        simp [dTru, dIx, seqOf, dInt2, dInt2L, dLen, dAdd, dNew, dTup, kindOk, dAppend, dPop, dIsi, tyD, Ty.is, T0_read_bracket, hu, a0, hd, dEq_int, at0, z1]
      | p :: q :: ps, d :: d2 :: ds, hr =>
        refine ⟨[.str "a text must write one thing"], X', ?_⟩
        rw [et, ← hX']
        have hb : ((ds.length : Int) + 1 + 1 == 1) = false := by simp; omega
        simp [dTru, dIx, seqOf, dInt2, dInt2L, dLen, dAdd, dNew, dTup, kindOk, dAppend, dPop, dIsi, tyD, Ty.is, T0_read_bracket, hu, a0, hd, dEq_int, at0, z1, hb]
    | o :: o2 :: ok, ps :: qs :: sk, s', _ =>
      have hN : Nt (m_read_bracket [.str (tx W), .fn nm] G) G := by
        refine ⟨[.str "a bracket is not shut"], X', ?_⟩
        rw [et, ← hX']
        simp only [List.reverse_cons, List.map_append, List.map_cons, List.map_nil] at hu
        have hb : (1 : Int) < (ok.length : Int) + 2 := by omega
        have hb' : 1 < ok.length + 2 := by omega
        simp [dTru, dIx, seqOf, dInt2, dInt2L, dLen, dAdd, dNew, dTup, kindOk, dAppend, dPop, dIsi, tyD, Ty.is, T0_read_bracket, hu, z1, hb, hb']
      cases ps with
      | nil => exact hN
      | cons a r =>
        cases r with
        | nil => exact hN
        | cons _ _ => exact hN
    | [o], [], s', _ => exact s'.fr.elim
    | [o], _ :: _ :: _, s', _ => exact s'.fr.2.elim
    | _ :: _ :: _, [], s', _ => exact s'.fr.elim
    | _ :: _ :: _, [_], s', _ => exact s'.fr.2.elim
noncomputable def accC (mk : List Pt → Option Nat) (t : Nat) (cs : List Nat) : Bool := match readC mk cs with
  | some p => valP t p
  | none => false
noncomputable def Acc (b : Bool) (o : Out D) (G : DH) : Prop := if b then ∃ d E, o = .ok d (G ++ E) else Nt o G
theorem acc_t {o : Out D} {G : DH} {d : D} {E : DH} (h : o = .ok d (G ++ E)) : Acc true o G := ⟨d, E, h⟩
theorem acc_f {o : Out D} {G : DH} (h : Nt o G) : Acc false o G := h
theorem tree_acc (W : List Str) (hW : W ≠ []) (hw : ∀ w ∈ W, Wd w) (hs : ∀ w ∈ W, PyData.strOk w = true ∧ w.length ≤ 900) (hl : W.length ≤ 90) (ht : (tx W).length ≤ 1000) (G : DH) : Acc (accC mkTree 0 (W.map cls)) (m_read_tree [.str (tx W)] G) G := by
  have h := read_sim W hW hw hs hl ht (nm := "make_tree") (mk := mkTree) (by rfl) (fun N G o ds ps a b c d e => mk_tree a b G o ds ps c d e) G
  unfold accC
  generalize readC mkTree (W.map cls) = r at h
  cases r with
  | none =>
    obtain ⟨as, E, e⟩ := h
    exact acc_f ⟨as, E, by simp [dTru, dIx, seqOf, dInt2, dInt2L, dLen, dAdd, dNew, dTup, kindOk, dAppend, dPop, dIsi, tyD, Ty.is, m_read_tree, b_read_tree, e]⟩
  | some p =>
    obtain ⟨d, X, e, rp⟩ := h
    have hv := value_sim rp 0 (by first | decide | omega) (G ++ X)
    have es : sortS 0 = "tree" := rfl
    rw [es] at hv
    cases hp : valP 0 p with
    | true =>
      rw [if_pos hp] at hv
      obtain ⟨x, ex, _⟩ := hv
      show Acc (valP 0 p) _ _
      rw [hp]
      exact acc_t (d := x) (E := X) (by simp [dTru, dIx, seqOf, dInt2, dInt2L, dLen, dAdd, dNew, dTup, kindOk, dAppend, dPop, dIsi, tyD, Ty.is, m_read_tree, b_read_tree, e, ex])
    | false =>
      rw [if_neg (by simp [hp])] at hv
      obtain ⟨as, E, ex⟩ := hv
      rw [List.append_assoc] at ex
      show Acc (valP 0 p) _ _
      rw [hp]
      exact acc_f ⟨as, X ++ E, by simp [dTru, dIx, seqOf, dInt2, dInt2L, dLen, dAdd, dNew, dTup, kindOk, dAppend, dPop, dIsi, tyD, Ty.is, m_read_tree, b_read_tree, e, ex]⟩
theorem shape_acc (W : List Str) (hW : W ≠ []) (hw : ∀ w ∈ W, Wd w) (hs : ∀ w ∈ W, PyData.strOk w = true ∧ w.length ≤ 900) (hl : W.length ≤ 90) (ht : (tx W).length ≤ 1000) (G : DH) : Acc (accC mkShape 1 (W.map cls)) (m_read_shape [.str (tx W)] G) G := by
  have h := read_sim W hW hw hs hl ht (nm := "make_in_shape") (mk := mkShape) (by rfl) (fun N G o ds ps a b c d e => mk_shape a b G o ds ps c d e) G
  unfold accC
  generalize readC mkShape (W.map cls) = r at h
  cases r with
  | none =>
    obtain ⟨as, E, e⟩ := h
    exact acc_f ⟨as, E, by simp [dTru, dIx, seqOf, dInt2, dInt2L, dLen, dAdd, dNew, dTup, kindOk, dAppend, dPop, dIsi, tyD, Ty.is, m_read_shape, b_read_shape, e]⟩
  | some p =>
    obtain ⟨d, X, e, rp⟩ := h
    have hv := value_sim rp 1 (by first | decide | omega) (G ++ X)
    have es : sortS 1 = "shape" := rfl
    rw [es] at hv
    cases hp : valP 1 p with
    | true =>
      rw [if_pos hp] at hv
      obtain ⟨x, ex, _⟩ := hv
      show Acc (valP 1 p) _ _
      rw [hp]
      exact acc_t (d := x) (E := X) (by simp [dTru, dIx, seqOf, dInt2, dInt2L, dLen, dAdd, dNew, dTup, kindOk, dAppend, dPop, dIsi, tyD, Ty.is, m_read_shape, b_read_shape, e, ex])
    | false =>
      rw [if_neg (by simp [hp])] at hv
      obtain ⟨as, E, ex⟩ := hv
      rw [List.append_assoc] at ex
      show Acc (valP 1 p) _ _
      rw [hp]
      exact acc_f ⟨as, X ++ E, by simp [dTru, dIx, seqOf, dInt2, dInt2L, dLen, dAdd, dNew, dTup, kindOk, dAppend, dPop, dIsi, tyD, Ty.is, m_read_shape, b_read_shape, e, ex]⟩
theorem way_acc (W : List Str) (hW : W ≠ []) (hw : ∀ w ∈ W, Wd w) (hs : ∀ w ∈ W, PyData.strOk w = true ∧ w.length ≤ 900) (hl : W.length ≤ 90) (ht : (tx W).length ≤ 1000) (G : DH) : Acc (accC mkWay 4 (W.map cls)) (m_read_way [.str (tx W)] G) G := by
  have h := read_sim W hW hw hs hl ht (nm := "make_in_way") (mk := mkWay) (by rfl) (fun N G o ds ps a b c d e => mk_way a b G o ds ps c d e) G
  unfold accC
  generalize readC mkWay (W.map cls) = r at h
  cases r with
  | none =>
    obtain ⟨as, E, e⟩ := h
    exact acc_f ⟨as, E, by simp [dTru, dIx, seqOf, dInt2, dInt2L, dLen, dAdd, dNew, dTup, kindOk, dAppend, dPop, dIsi, tyD, Ty.is, m_read_way, b_read_way, e]⟩
  | some p =>
    obtain ⟨d, X, e, rp⟩ := h
    have hv := value_sim rp 4 (by first | decide | omega) (G ++ X)
    have es : sortS 4 = "way" := rfl
    rw [es] at hv
    cases hp : valP 4 p with
    | true =>
      rw [if_pos hp] at hv
      obtain ⟨x, ex, _⟩ := hv
      show Acc (valP 4 p) _ _
      rw [hp]
      exact acc_t (d := x) (E := X) (by simp [dTru, dIx, seqOf, dInt2, dInt2L, dLen, dAdd, dNew, dTup, kindOk, dAppend, dPop, dIsi, tyD, Ty.is, m_read_way, b_read_way, e, ex])
    | false =>
      rw [if_neg (by simp [hp])] at hv
      obtain ⟨as, E, ex⟩ := hv
      rw [List.append_assoc] at ex
      show Acc (valP 4 p) _ _
      rw [hp]
      exact acc_f ⟨as, X ++ E, by simp [dTru, dIx, seqOf, dInt2, dInt2L, dLen, dAdd, dNew, dTup, kindOk, dAppend, dPop, dIsi, tyD, Ty.is, m_read_way, b_read_way, e, ex]⟩
end K16
end
section
set_option Elab.async false
set_option linter.all false
set_option maxRecDepth 100000
set_option maxHeartbeats 4000000
namespace K16
open PySem PySem.Spec L2 L3
noncomputable def subW (x y K w : Str) : Str := if w == "x" then x else if w == "y" then y else if w == "K" then K else w
theorem split_tx (F : List Str) (hF : F ≠ []) (h : ∀ w ∈ F, 32 ∉ w.cps.toList) : Txt.split (tx F) " " = F := by
  have e : Txt.split (tx F) " " = (splitL 32 (tx F).cps.toList).map ofL := split_eq (tx F) 32
  rw [e, tx_l, splitL_of_free 32 _ (by simpa using hF) (fun p hp => by
    obtain ⟨w, hw, rfl⟩ := List.mem_map.mp hp
    exact h w hw), List.map_map]
  conv => rhs; rw [← List.map_id F]
  exact List.map_congr_left fun w _ => l_ofL w
theorem text_loop (F : List Str) (hok : ∀ w ∈ F, PyData.strOk w = true) (x y K : Str) (G : DH) (f0 : Option D) : ∀ (rest : List Str) (j : Nat) (acc : List D) (b5 : Option D) (fl : Nat), F.drop j = rest → rest.length < fl → acc.length + rest.length ≤ 1000 → ∃ c5,
    forO (gN 5) L0__law_text (G.length + 1) fl j [f0, some (.str x), some (.str y), some (.str K), some (.obj G.length), b5] (G ++ [.lst acc, .lst (F.map .str)]) = .nx [f0, some (.str x), some (.str y), some (.str K), some (.obj G.length), c5] (G ++ [.lst (acc ++ (rest.map (subW x y K)).map .str), .lst (F.map .str)])
  | _, j, acc, b5, 0, hd, hf, ha => by omega
  | [], j, acc, b5, fl + 1, hd, hf, ha => by
    have hk : (F.map D.str)[j]? = none := by
      have := List.drop_eq_nil_iff.mp hd
      simp; omega
    refine ⟨b5, ?_⟩
    rw [forO_end (ga1 _ _ _ _) hk]
    simp
  | w :: r, j, acc, b5, fl + 1, hd, hf, ha => by
    have hlt : j < F.length := by
      rcases Nat.lt_or_ge j F.length with h | h
      · exact h
      · rw [List.drop_eq_nil_of_le h] at hd; cases hd
    rw [List.drop_eq_getElem_cons hlt] at hd
    have hw' : F[j]? = some w := by rw [List.getElem?_eq_getElem hlt]; exact congrArg some (List.cons.inj hd).1
    have hk : (F.map D.str)[j]? = some (.str w) := by rw [List.getElem?_map, hw']; rfl
    have kw := hok w (List.mem_of_getElem? hw')
    have hs : acc.length < sizeLine := Nat.lt_of_lt_of_le (by simp at ha; omega) (lz (n := 2000) (by first | decide | omega))
    have ex := dEq_str false w "x" (G ++ [.lst acc, .lst (F.map .str)]) kw (by decide +kernel)
    have ey := dEq_str false w "y" (G ++ [.lst acc, .lst (F.map .str)]) kw (by decide +kernel)
    have eK := dEq_str false w "K" (G ++ [.lst acc, .lst (F.map .str)]) kw (by decide +kernel)
    have e1 : L0__law_text [f0, some (.str x), some (.str y), some (.str K), some (.obj G.length), some (.str w)] (G ++ [.lst acc, .lst (F.map .str)]) = .nx [f0, some (.str x), some (.str y), some (.str K), some (.obj G.length), some (.str (subW x y K w))] (G ++ [.lst (acc ++ [.str (subW x y K w)]), .lst (F.map .str)]) := by
      unfold subW
      cases hx : (w == ("x" : Str)) with
      | true => rw [hx] at ex; simp [dTru, dIx, seqOf, dInt2, dInt2L, dLen, dAdd, dNew, dTup, kindOk, dAppend, dPop, dIsi, tyD, Ty.is, L0__law_text, ex, ga0, gs0, hs]
      | false =>
        rw [hx] at ex
        cases hy : (w == ("y" : Str)) with
        | true => rw [hy] at ey; simp [dTru, dIx, seqOf, dInt2, dInt2L, dLen, dAdd, dNew, dTup, kindOk, dAppend, dPop, dIsi, tyD, Ty.is, L0__law_text, ex, ey, ga0, gs0, hs]
        | false =>
          rw [hy] at ey
          cases hK : (w == ("K" : Str)) with
          | true => rw [hK] at eK; simp [dTru, dIx, seqOf, dInt2, dInt2L, dLen, dAdd, dNew, dTup, kindOk, dAppend, dPop, dIsi, tyD, Ty.is, L0__law_text, ex, ey, eK, ga0, gs0, hs]
          | false => rw [hK] at eK; simp [dTru, dIx, seqOf, dInt2, dInt2L, dLen, dAdd, dNew, dTup, kindOk, dAppend, dPop, dIsi, tyD, Ty.is, L0__law_text, ex, ey, eK, ga0, gs0, hs]
    obtain ⟨c5, ih⟩ := text_loop F hok x y K G f0 r (j + 1) (acc ++ [.str (subW x y K w)]) (some (.str (subW x y K w))) fl (List.cons.inj hd).2 (by simpa using hf) (by simp at ha ⊢; omega)
    refine ⟨c5, ?_⟩
    rw [forO_l (ga1 _ _ _ _) hk rfl]
    simp only [List.set_cons_succ, List.set_cons_zero, e1, lp_nx]
    rw [ih]
    simp
theorem strs_map : ∀ ws : List Str, strsOf (ws.map D.str) = some ws
  | [] => rfl
  | w :: ws => by simp [strsOf, strs_map ws]
theorem text_eq (F : List Str) (hF : F ≠ []) (h32 : ∀ w ∈ F, 32 ∉ w.cps.toList) (hok : ∀ w ∈ F, PyData.strOk w = true) (x y K : Str) (hl : F.length ≤ 90) (hB : ∀ w ∈ F.map (subW x y K), w.length ≤ 100) (ht : (tx F).length ≤ 1000) (G : DH) : ∃ E, m__law_text [.str (tx F), .str x, .str y, .str K] G = .ok (.str (tx (F.map (subW x y K)))) (G ++ E) := by
  obtain ⟨c5, e⟩ := text_loop F hok x y K G (some (.str (tx F))) F 0 [] none (F.length + 1) (by simp) (by first | decide | omega) (by simp; omega)
  have hsp := split_tx F hF h32
  have c3 : (tx F).length + 2 ≤ sizeLine := lz (by first | decide | omega)
  have c4 : F.length ≤ sizeLine := lz (by first | decide | omega)
  have y1 : ¬ (" " : Str).length = 0 := by decide +kernel
  have hj : JoinOk " " (F.map (subW x y K)) = true := by
    have e1 : (" " : Str).length = 1 := by decide +kernel
    have := StrLaws.joinFits (sep := " ") (texts := F.map (subW x y K)) (B := 100) hB (by rw [e1, List.length_map]; omega)
    unfold JoinOk
    rw [this]; rfl
  refine ⟨[.lst ((F.map (subW x y K)).map .str), .lst (F.map .str)], ?_⟩
  simp only [List.nil_append] at e
  have hst : strsOf ((F.map (subW x y K)).map D.str) = some (F.map (subW x y K)) := strs_map _
  generalize hFs : F.map (subW x y K) = Fs at e hj hst
  have hjt : Txt.join " " Fs = tx Fs := rfl
  simp [dTru, dIx, seqOf, dInt2, dInt2L, dLen, dAdd, dNew, dTup, kindOk, dAppend, dPop, dIsi, tyD, Ty.is, m__law_text, b__law_text, dSplit, y1, c3, hsp, c4, ga0, ga1, e, dJoin, hst, hj, hjt]
end K16
end
section
set_option Elab.async false
set_option linter.all false
set_option maxRecDepth 100000
set_option maxHeartbeats 4000000
namespace K16
open PySem PySem.Spec L2 L3
noncomputable def badC : List (Nat × List Nat) := [(0, [0, 1]),
  (0, [200]),
  (0, [0, 202, 1]),
  (0, [0, 200, 201, 1]),
  (0, [0, 200, 0, 1, 1]),
  (0, [0, 0, 200, 1, 1]),
  (0, [0, 200, 0, 201, 1, 201, 1]),
  (0, [0, 200, 0, 201, 0, 202, 1, 1, 1]),
  (0, [202]),
  (0, [0, 200, 1, 0, 201, 1]),
  (0, [0, 200, 14, 1]),
  (0, [0, 200, 0, 0, 201, 1, 1, 1]),
  (0, [0, 200, 202, 1]),
  (0, [0, 0, 200, 1, 0, 201, 1, 1]),
  (1, [0, 2, 200, 1]),
  (1, [0, 2, 1]),
  (1, [2]),
  (1, [0, 2, 202, 0, 3, 200, 201, 4, 1, 1]),
  (1, [0, 2, 200, 3, 1]),
  (1, [0, 2, 200, 0, 1, 1]),
  (1, [0, 2, 200, 0, 3, 200, 201, 1, 1]),
  (1, [0, 2, 200, 0, 3, 200, 4, 1, 1]),
  (1, [0, 2, 200, 0, 3, 200, 201, 4, 4, 1, 1]),
  (1, [0, 2, 200, 0, 3, 200, 201, 100, 1, 1]),
  (1, [0, 2, 200, 0, 3, 202, 201, 4, 1, 1]),
  (1, [0, 2, 200, 0, 3, 200, 202, 5, 1, 1]),
  (1, [0, 2, 200, 0, 3, 200, 201, 4, 0, 200, 14, 1, 1, 1]),
  (1, [0, 2, 200, 0, 3, 200, 201, 4, 0, 200, 14, 15, 15, 1, 1, 1]),
  (1, [0, 2, 200, 0, 3, 200, 201, 4, 0, 202, 14, 15, 1, 1, 1]),
  (1, [0, 2, 200, 0, 3, 200, 201, 4, 0, 200, 101, 6, 1, 1, 1]),
  (1, [0, 2, 200, 0, 3, 200, 201, 4, 0, 200, 15, 14, 1, 1, 1]),
  (1, [0, 2, 200, 0, 3, 200, 201, 5, 0, 200, 14, 13, 1, 1, 1]),
  (1, [0, 2, 200, 0, 3, 200, 201, 4, 0, 200, 13, 101, 1, 1, 1]),
  (1, [0, 2, 200, 0, 3, 200, 201, 4, 0, 200, 6, 6, 1, 1, 1]),
  (1, [0, 2, 200, 0, 3, 200, 201, 4, 0, 200, 100, 15, 1, 1, 1]),
  (1, [0, 2, 200, 0, 3, 200, 201, 4, 200, 1, 1]),
  (1, [0, 2, 200, 0, 3, 200, 201, 4, 0, 200, 101, 15, 1, 1, 1]),
  (1, [0, 2, 200, 0, 3, 200, 201, 4, 0, 0, 200, 1, 14, 15, 1, 1, 1]),
  (1, [0, 2, 200, 0, 3, 200, 201, 4, 0, 200, 0, 14, 1, 15, 1, 1, 1]),
  (1, [0, 2, 200, 0, 3, 200, 201, 4, 0, 200, 14, 0, 15, 1, 1, 1, 1]),
  (1, [0, 2, 200, 0, 200, 201, 4, 1, 1]),
  (1, [0, 2, 0, 200, 1, 0, 3, 200, 201, 4, 1, 1]),
  (1, [0, 3, 200, 201, 4, 1]),
  (1, [0, 2, 200, 0, 3, 200, 201, 4, 0, 200, 13, 14, 1, 1, 0, 3, 201, 1, 1]),
  (1, [0, 2, 200, 0, 3, 200, 201, 0, 4, 1, 1, 1]),
  (1, [0, 2, 200, 0, 3, 200, 201, 4, 0, 200, 13, 14, 1, 0, 201, 14, 9, 1, 1, 1]),
  (1, [0, 12, 200, 0, 3, 200, 201, 4, 1, 1]),
  (1, [0, 2, 200, 0, 3, 0, 200, 1, 201, 4, 1, 1]),
  (1, [0, 2, 200, 0, 3, 200, 0, 201, 1, 4, 1, 1]),
  (1, [0, 2, 200, 0, 3, 200, 201, 100, 1, 1]),
  (1, [0, 2, 200, 0, 3, 200, 201, 100, 1, 1]),
  (1, [0, 2, 200, 0, 3, 200, 201, 4, 0, 200, 101, 15, 1, 1, 1]),
  (1, [0, 2, 200, 0, 3, 200, 201, 4, 0, 200, 101, 15, 1, 1, 1]),
  (1, [0, 2, 200, 0, 3, 200, 201, 4, 0, 200, 14, 101, 1, 1, 1]),
  (1, [0, 2, 200, 0, 3, 200, 201, 4, 0, 200, 13, 101, 1, 1, 1]),
  (2, [0, 12, 1]),
  (2, [12]),
  (2, [0, 12, 16, 7, 1]),
  (2, [0, 12, 0, 16, 1, 1]),
  (2, [0, 12, 0, 16, 7, 7, 1, 1]),
  (2, [0, 12, 0, 100, 7, 1, 1]),
  (2, [0, 12, 0, 7, 1, 1]),
  (2, [0, 12, 0, 16, 200, 1, 1]),
  (2, [0, 12, 0, 16, 0, 200, 1, 1, 1]),
  (2, [0, 12, 0, 16, 0, 8, 1, 1, 1]),
  (2, [0, 12, 0, 16, 0, 8, 200, 201, 1, 1, 1]),
  (2, [0, 12, 0, 16, 0, 8, 202, 1, 1, 1]),
  (2, [0, 12, 0, 16, 0, 9, 1, 1, 1]),
  (2, [0, 12, 0, 16, 0, 9, 7, 7, 1, 1, 1]),
  (2, [0, 12, 0, 16, 0, 10, 7, 1, 1, 1]),
  (2, [0, 12, 0, 16, 101, 1, 1]),
  (2, [0, 12, 0, 16, 0, 10, 7, 7, 7, 1, 1, 1]),
  (2, [0, 12, 0, 16, 0, 11, 7, 1, 1, 1]),
  (2, [0, 12, 0, 16, 0, 1, 1, 1]),
  (2, [0, 12, 0, 16, 0, 7, 1, 1, 1]),
  (2, [0, 12, 0, 16, 0, 12, 1, 1, 1]),
  (2, [0, 12, 0, 16, 0, 12, 16, 7, 1, 1, 1]),
  (2, [0, 12, 0, 0, 16, 1, 7, 1, 1]),
  (2, [0, 12, 0, 16, 7, 1, 16, 1]),
  (2, [0, 12, 0, 16, 8, 1, 1]),
  (2, [7]),
  (2, [0, 12, 0, 16, 0, 8, 0, 200, 1, 1, 1, 1]),
  (2, [0, 12, 0, 16, 0, 9, 200, 1, 1, 1]),
  (2, [0, 12, 0, 16, 7, 1, 0, 17, 1, 1]),
  (2, [0, 8, 200, 1]),
  (2, [0, 12, 0, 16, 0, 9, 0, 101, 1, 1, 1, 1]),
  (2, [0, 12, 0, 16, 0, 10, 7, 101, 1, 1, 1]),
  (2, [0, 12, 0, 16, 0, 16, 7, 1, 1, 1]),
  (2, [0, 9, 7, 1]),
  (2, [0, 12, 0, 16, 12, 1, 1]),
  (2, [0, 12, 0, 202, 7, 1, 1]),
  (2, [0, 12, 0, 100, 7, 1, 1]),
  (2, [0, 12, 0, 18, 7, 1, 0, 100, 7, 1, 1]),
  (2, [0, 12, 0, 16, 100, 1, 1])]
noncomputable def goodC : List (Nat × List Nat) := [(0, [0, 200, 1]),
  (0, [0, 200, 0, 201, 1, 0, 200, 1, 1]),
  (1, [0, 2, 200, 0, 3, 200, 201, 4, 1, 1]),
  (2, [0, 12, 0, 16, 7, 1, 1]),
  (1, [0, 2, 200, 0, 3, 200, 201, 5, 0, 200, 13, 13, 1, 0, 201, 15, 6, 1, 1, 0, 3, 201, 201, 4, 0, 200, 14, 15, 1, 1, 1]),
  (1, [0, 2, 201, 0, 3, 200, 200, 4, 0, 200, 13, 6, 1, 0, 200, 14, 14, 1, 1, 1]),
  (2, [0, 12, 0, 17, 0, 8, 200, 1, 1, 1]),
  (2, [0, 12, 0, 18, 0, 9, 7, 1, 1, 0, 16, 0, 10, 7, 0, 8, 201, 1, 1, 1, 1]),
  (0, [0, 16, 0, 17, 1, 1]),
  (2, [0, 12, 0, 16, 0, 11, 7, 0, 12, 0, 17, 7, 1, 1, 1, 1, 1]),
  (1, [0, 2, 200, 0, 3, 201, 200, 5, 1, 1]),
  (2, [0, 12, 0, 16, 0, 12, 0, 16, 7, 1, 0, 18, 7, 1, 1, 1, 1])]
noncomputable def subC (x y k c : Nat) : Nat := if c == 200 then x else if c == 201 then y else if c == 202 then k else c
noncomputable def accF (t : Nat) (cs : List Nat) : Bool := if t == 0 then accC mkTree 0 cs else if t == 1 then accC mkShape 1 cs else accC mkWay 4 cs
noncomputable def nms : List Nat := [16, 17, 18, 100]
noncomputable def kws : List Nat := [2, 3, 4, 5, 6, 7, 8, 9, 10, 11, 12, 101]
noncomputable def okF (b : Bool) (f : Nat × List Nat) : Bool := (if f.2.contains 200 then nms else [100]).all fun x => (if f.2.contains 201 then nms else [100]).all fun y => (if f.2.contains 202 then kws else [101]).all fun k => accF f.1 (f.2.map (subC x y k)) == b
theorem bad_all : badC.all (okF false) = true := by decide +kernel
theorem good_all : goodC.all (okF true) = true := by decide +kernel
end K16
end
section
set_option Elab.async false
set_option linter.all false
set_option maxRecDepth 100000
set_option maxHeartbeats 4000000
namespace K16
open PySem PySem.Spec L2 L3
theorem sgn_letters : ∀ i < 26, sgn ((letters.cps.toList).getD i 0) = true := by decide +kernel
noncomputable def lettersOnly (t : Str) : Bool := t.cps.toList.all sgn
theorem lets_ix (i : Int) (G : DH) : ∃ s, dIx (.str letters) (.int (i % 26)) G = .ok (.str s) G ∧ PyData.strOk s = true ∧ s.length = 1 ∧ lettersOnly s = true := by
  have hl : letters.cps.toList.length = 26 := by decide +kernel
  have hs : letters.length ≤ sizeLine := lz (by decide +kernel)
  obtain ⟨c, e, ec⟩ := atI_some (xs := letters.cps.toList) (i := i % 26) (by first | decide | omega) (by rw [hl]; omega)
  have hc : c = letters.cps.toList.getD (i % 26).toNat 0 := by rw [List.getD_eq_getElem?_getD, ec]; rfl
  refine ⟨⟨#[c]⟩, ?_, ?_, rfl, ?_⟩
  · simp only [dIx, seqOf, if_pos hs, e]
  · have h2 : letters.cps.toList.all (· < 0x110000) = true := by decide +kernel
    have := List.all_eq_true.mp h2 _ (List.mem_of_getElem? ec)
    simpa [PyData.strOk] using this
  · have := sgn_letters (i % 26).toNat (by first | decide | omega)
    rw [← hc] at this
    simpa [lettersOnly] using this
theorem lo_add {a b : Str} (ha : lettersOnly a = true) (hb : lettersOnly b = true) : lettersOnly (a ++ b) = true := by
  have e : (a ++ b).cps.toList = a.cps.toList ++ b.cps.toList := by
    show (a.cps ++ b.cps).toList = _
    simp
  unfold lettersOnly at *
  rw [e, List.all_append, ha, hb]; rfl
theorem name_loop (c : Int) (G : DH) : ∀ (m j : Nat) (t : Str) (a3 a4 a5 : Option D), j + m ≤ 7 → PyData.strOk t = true → lettersOnly t = true → 1 ≤ t.length → t.length ≤ j + 1 →
    ∃ (u : Str) (b3 b4 : Option D), PyData.strOk u = true ∧ lettersOnly u = true ∧ 1 ≤ u.length ∧ u.length ≤ j + m + 1 ∧ forP (gN 3) L0__law_name ((List.range' j m).map fun (k : Nat) => .int (0 + (k : Int))) [some (.int c), some (.str letters), some (.str t), a3, a4, a5] G = .nx [some (.int c), some (.str letters), some (.str u), b3, b4, a5] G
  | 0, j, t, a3, a4, a5, h, k1, k0, k3, k2 => ⟨t, a3, a4, k1, k0, k3, by omega, by simp [forP]⟩
  | m + 1, j, t, a3, a4, a5, h, k1, k0, k3, k2 => by
    obtain ⟨s, es, ks, ls, los⟩ := lets_ix (c / 208 + 7 * (j : Int) * (j : Int) + c / 5408 % 26 * (j : Int)) G
    have hz : t.length + s.length ≤ sizeLine := lz (by first | decide | omega)
    have hz2 : t.length + 1 ≤ sizeLine := lz (by first | decide | omega)
    have hjl : -18446744073709551616 < (j : Int) := by omega
    have hju : (j : Int) < 18446744073709551616 := by omega
    have e : L0__law_name [some (.int c), some (.str letters), some (.str t), some (.int (0 + (j : Int))), a4, a5] G = .nx [some (.int c), some (.str letters), some (.str (t ++ s)), some (.int (0 + (j : Int))), some (.int (c / 208 + 7 * (j : Int) * (j : Int) + c / 5408 % 26 * (j : Int))), a5] G := by
      simp [L0__law_name, sSeq_l, sSet_l, eOp_l, eVar_l, eC_l, bd_ok, bind_l, dInt2, ret_l, dAdd, st_ok, sq_nx, es, hz, hz2, ls, hjl, hju]
    obtain ⟨u, b3, b4, ku, kl, k4, lu, ih⟩ := name_loop c G m (j + 1) (t ++ s) (some (.int (0 + (j : Int)))) (some (.int (c / 208 + 7 * (j : Int) * (j : Int) + c / 5408 % 26 * (j : Int)))) a5 (by first | decide | omega) (good_add k1 ks) (lo_add k0 los) (by rw [len_add]; omega) (by rw [len_add]; omega)
    refine ⟨u, b3, b4, ku, kl, k4, by omega, ?_⟩
    rw [List.range'_succ, List.map_cons, forP_cons rfl]
    simp only [List.set_cons_succ, List.set_cons_zero, e, lp_nx]
    rw [ih]
theorem z_fine : ∀ w ∈ words, isNm (w ++ "z") = true ∧ PyData.strOk (w ++ "z") = true ∧ (w ++ "z").length ≤ 8 := by decide +kernel
theorem name_eq (c : Int) (G : DH) : ∃ (t : Str) (E : DH), m__law_name [.int c] G = .ok (.str t) (G ++ E) ∧ isNm t = true ∧ PyData.strOk t = true ∧ t.length ≤ 8 := by
  obtain ⟨s, es, ks, ls, los⟩ := lets_ix c G
  obtain ⟨u, b3, b4, ku, kl, k4, lu, e⟩ := name_loop c G (c / 26 % 8).toNat 0 s none none none (by first | decide | omega) ks los (by first | decide | omega) (by first | decide | omega)
  have hr := rng1_of (j := c / 26 % 8) (by first | decide | omega) (by first | decide | omega)
  generalize ((List.range' 0 (c / 26 % 8).toNat).map fun (k : Nat) => D.int (0 + (k : Int))) = its at hr e
  have z12 : (12 : Nat) ≤ sizeLine := lz (by first | decide | omega)
  have hz : u.length + ("z" : Str).length ≤ sizeLine := by
    have : ("z" : Str).length = 1 := by decide +kernel
    exact lz (by first | decide | omega)
  have hin := inB_words u (G ++ [.lst (words.map .str)]) ku
  have es' : dIx (.str "abcdefghijklmnopqrstuvwxyz") (.int (c % 26)) G = .ok (.str s) G := es
  have e' : forP (gN 3) L0__law_name its [some (.int c), some (.str "abcdefghijklmnopqrstuvwxyz"), some (.str s), none, none, none] G = .nx [some (.int c), some (.str "abcdefghijklmnopqrstuvwxyz"), some (.str u), b3, b4, none] G := e
  have run : m__law_name [.int c] G = (((Out.ok (kept u) (G ++ [.lst (words.map .str)])).cs (sRet (eOp dAdd (eVar 2) (eC (.str "z")))) sSkip [some (.int c), some (.str "abcdefghijklmnopqrstuvwxyz"), some (.str u), b3, b4, some (.obj G.length)]).sq (sRet (eVar 2))).fn := by
    generalize kept u = bb at hin
    simp only [words, List.map_cons, List.map_nil] at hin ⊢
    simp [m__law_name, b__law_name, runB_l, sSeq_l, sSet_l, eOp_l, eVar_l, eC_l, bd_ok, bind_l, dInt2, ret_l, st_ok, sq_nx, es', sForRng_l, aCons_l, aNil_l, sb_ok, hr, e', T0__law_name, eArgs_l, dNew, z12, sIf_l, tBl_l, dIn, seqOf, hin, asBl_b]
  cases hk : kept u with
  | true =>
    have hm : u ∈ words := by
      unfold kept at hk
      obtain ⟨w, hw, he⟩ := List.any_eq_true.mp hk
      rw [← eq_of_beq he]; exact hw
    obtain ⟨q1, q2, q3⟩ := z_fine u hm
    refine ⟨u ++ "z", [.lst (words.map .str)], ?_, q1, q2, q3⟩
    rw [run, hk, cs_t]
    simp [sRet_l, eOp_l, eVar_l, eC_l, bd_ok, bind_l, dAdd, hz, ret_l, rn_ok, sq_rt, fn_rt]
  | false =>
    refine ⟨u, [.lst (words.map .str)], ?_, ?_, ku, by omega⟩
    · rw [run, hk, cs_f]
      simp [sSkip_l, sq_nx, sRet_l, eVar_l, rn_ok, fn_rt]
    · have h1 : (1 : Int) ≤ (u.length : Int) := by omega
      have h8 : (u.length : Int) ≤ 8 := by omega
      unfold lettersOnly at kl
      unfold isNm
      rw [hk, kl]
      simp [h1, h8]
theorem rt_fn (o : Out D) (τ : DS) (k : MS) : ((o.rn τ).sq k).fn = o ∨ o = .stuck := by
  cases o with
  | stuck => exact .inr rfl
  | ok d G => exact .inl rfl
  | exn c G => exact .inl rfl
theorem rt_fn' (o : Out D) (τ : DS) : (o.rn τ).fn = o ∨ o = .stuck := by
  cases o with
  | stuck => exact .inr rfl
  | ok d G => exact .inl rfl
  | exn c G => exact .inl rfl
theorem acc_ne {b : Bool} {o : Out D} {G : DH} (h : Acc b o G) : o ≠ .stuck := by
  rintro rfl
  unfold Acc at h
  split at h
  · obtain ⟨_, _, h⟩ := h; cases h
  · obtain ⟨_, _, h⟩ := h; cases h
theorem law_read_acc (W : List Str) (hW : W ≠ []) (hw : ∀ w ∈ W, Wd w) (hs : ∀ w ∈ W, PyData.strOk w = true ∧ w.length ≤ 900) (hl : W.length ≤ 90) (ht : (tx W).length ≤ 1000) (t : Nat) (h3 : t < 3) (G : DH) : Acc (accF t (W.map cls)) (m__law_read [.int t, .str (tx W)] G) G := by
  have h012 : t = 0 ∨ t = 1 ∨ t = 2 := by omega
  rcases h012 with rfl | rfl | rfl
  · have h := tree_acc W hW hw hs hl ht G
    generalize hoo : m_read_tree [.str (tx W)] G = oo at h
    have e : m__law_read [.int (0 : Nat), .str (tx W)] G = oo := by
      rcases rt_fn oo [some (.int 0), some (.str (tx W))] (sSeq (sIf (tBl (eOp (dEq false) (eVar 0) (eC (.int 1)))) (sRet (eCall 1 m_read_shape (aCons (eVar 1) (aNil)))) (sSkip)) (sRet (eCall 1 m_read_way (aCons (eVar 1) (aNil))))) with q | q
      · rw [← q]; simp [dTru, dIx, seqOf, dInt2, dInt2L, dLen, dAdd, dNew, dTup, kindOk, dAppend, dPop, dIsi, tyD, Ty.is, m__law_read, b__law_read, dEq_int, hoo]
      · exact absurd q (acc_ne h)
    rw [e]; exact h
  · have h := shape_acc W hW hw hs hl ht G
    generalize hoo : m_read_shape [.str (tx W)] G = oo at h
    have e : m__law_read [.int (1 : Nat), .str (tx W)] G = oo := by
      rcases rt_fn oo [some (.int 1), some (.str (tx W))] (sRet (eCall 1 m_read_way (aCons (eVar 1) aNil))) with q | q
      · rw [← q]; simp [dTru, dIx, seqOf, dInt2, dInt2L, dLen, dAdd, dNew, dTup, kindOk, dAppend, dPop, dIsi, tyD, Ty.is, m__law_read, b__law_read, dEq_int, hoo]
      · exact absurd q (acc_ne h)
    rw [e]; exact h
  · have h := way_acc W hW hw hs hl ht G
    generalize hoo : m_read_way [.str (tx W)] G = oo at h
    have e : m__law_read [.int (2 : Nat), .str (tx W)] G = oo := by
      rcases rt_fn' oo [some (.int 2), some (.str (tx W))] with q | q
      · rw [← q]; simp [dTru, dIx, seqOf, dInt2, dInt2L, dLen, dAdd, dNew, dTup, kindOk, dAppend, dPop, dIsi, tyD, Ty.is, m__law_read, b__law_read, dEq_int, hoo]
      · exact absurd q (acc_ne h)
    rw [e]; exact h
end K16
end
section
set_option Elab.async false
set_option linter.all false
set_option maxRecDepth 100000
set_option maxHeartbeats 4000000
namespace K16
open PySem PySem.Spec L2 L3
noncomputable def treesT_0 : List (Nat × List Str) := [(0, ["(", ")"]),
  (0, ["x"]),
  (0, ["(", "K", ")"]),
  (0, ["(", "x", "y", ")"]),
  (0, ["(", "x", "(", ")", ")"]),
  (0, ["(", "(", "x", ")", ")"]),
  (0, ["(", "x", "(", "y", ")", "y", ")"]),
  (0, ["(", "x", "(", "y", "(", "K", ")", ")", ")"]),
  (0, ["K"]),
  (0, ["(", "x", ")", "(", "y", ")"])]
noncomputable def treesT_1 : List (Nat × List Str) := [(0, ["(", "x", "1", ")"]),
  (0, ["(", "x", "(", "(", "y", ")", ")", ")"]),
  (0, ["(", "x", "K", ")"]),
  (0, ["(", "(", "x", ")", "(", "y", ")", ")"])]
noncomputable def treesT : List (Nat × List Str) := treesT_0 ++ treesT_1
noncomputable def shapesT_0 : List (Nat × List Str) := [(1, ["(", "start", "x", ")"]),
  (1, ["(", "start", ")"]),
  (1, ["start"]),
  (1, ["(", "start", "K", "(", "rule", "x", "y", "row", ")", ")"]),
  (1, ["(", "start", "x", "rule", ")"]),
  (1, ["(", "start", "x", "(", ")", ")"]),
  (1, ["(", "start", "x", "(", "rule", "x", "y", ")", ")"]),
  (1, ["(", "start", "x", "(", "rule", "x", "row", ")", ")"]),
  (1, ["(", "start", "x", "(", "rule", "x", "y", "row", "row", ")", ")"]),
  (1, ["(", "start", "x", "(", "rule", "x", "y", "heap", ")", ")"])]
noncomputable def shapesT_1 : List (Nat × List Str) := [(1, ["(", "start", "x", "(", "rule", "K", "y", "row", ")", ")"]),
  (1, ["(", "start", "x", "(", "rule", "x", "K", "mix", ")", ")"]),
  (1, ["(", "start", "x", "(", "rule", "x", "y", "row", "(", "x", "1", ")", ")", ")"]),
  (1, ["(", "start", "x", "(", "rule", "x", "y", "row", "(", "x", "1", "2", "2", ")", ")", ")"]),
  (1, ["(", "start", "x", "(", "rule", "x", "y", "row", "(", "K", "1", "2", ")", ")", ")"]),
  (1, ["(", "start", "x", "(", "rule", "x", "y", "row", "(", "x", "3", "many", ")", ")", ")"]),
  (1, ["(", "start", "x", "(", "rule", "x", "y", "row", "(", "x", "2", "1", ")", ")", ")"]),
  (1, ["(", "start", "x", "(", "rule", "x", "y", "mix", "(", "x", "1", "0", ")", ")", ")"]),
  (1, ["(", "start", "x", "(", "rule", "x", "y", "row", "(", "x", "0", "3", ")", ")", ")"]),
  (1, ["(", "start", "x", "(", "rule", "x", "y", "row", "(", "x", "many", "many", ")", ")", ")"])]
noncomputable def shapesT_2 : List (Nat × List Str) := [(1, ["(", "start", "x", "(", "rule", "x", "y", "row", "(", "x", "one", "2", ")", ")", ")"]),
  (1, ["(", "start", "x", "(", "rule", "x", "y", "row", "x", ")", ")"]),
  (1, ["(", "start", "x", "(", "rule", "x", "y", "row", "(", "x", "01", "2", ")", ")", ")"]),
  (1, ["(", "start", "x", "(", "rule", "x", "y", "row", "(", "(", "x", ")", "1", "2", ")", ")", ")"]),
  (1, ["(", "start", "x", "(", "rule", "x", "y", "row", "(", "x", "(", "1", ")", "2", ")", ")", ")"]),
  (1, ["(", "start", "x", "(", "rule", "x", "y", "row", "(", "x", "1", "(", "2", ")", ")", ")", ")"]),
  (1, ["(", "start", "x", "(", "x", "y", "row", ")", ")"]),
  (1, ["(", "start", "(", "x", ")", "(", "rule", "x", "y", "row", ")", ")"]),
  (1, ["(", "rule", "x", "y", "row", ")"]),
  (1, ["(", "start", "x", "(", "rule", "x", "y", "row", "(", "x", "0", "1", ")", ")", "(", "rule", "y", ")", ")"])]
noncomputable def shapesT_3 : List (Nat × List Str) := [(1, ["(", "start", "x", "(", "rule", "x", "y", "(", "row", ")", ")", ")"]),
  (1, ["(", "start", "x", "(", "rule", "x", "y", "row", "(", "x", "0", "1", ")", "(", "y", "1", "not", ")", ")", ")"]),
  (1, ["(", "way", "x", "(", "rule", "x", "y", "row", ")", ")"]),
  (1, ["(", "start", "x", "(", "rule", "(", "x", ")", "y", "row", ")", ")"]),
  (1, ["(", "start", "x", "(", "rule", "x", "(", "y", ")", "row", ")", ")"]),
  (1, ["(", "start", "x", "(", "rule", "x", "y", "ro", ")", ")"]),
  (1, ["(", "start", "x", "(", "rule", "x", "y", "wmi", ")", ")"]),
  (1, ["(", "start", "x", "(", "rule", "x", "y", "row", "(", "x", "12", "2", ")", ")", ")"]),
  (1, ["(", "start", "x", "(", "rule", "x", "y", "row", "(", "x", "-0", "2", ")", ")", ")"]),
  (1, ["(", "start", "x", "(", "rule", "x", "y", "row", "(", "x", "1", "+2", ")", ")", ")"])]
noncomputable def shapesT_4 : List (Nat × List Str) := [(1, ["(", "start", "x", "(", "rule", "x", "y", "row", "(", "x", "0", "1_0", ")", ")", ")"])]
noncomputable def shapesT : List (Nat × List Str) := shapesT_0 ++ shapesT_1 ++ shapesT_2 ++ shapesT_3 ++ shapesT_4
noncomputable def waysT_0 : List (Nat × List Str) := [(2, ["(", "way", ")"]),
  (2, ["way"]),
  (2, ["(", "way", "down", "any", ")"]),
  (2, ["(", "way", "(", "down", ")", ")"]),
  (2, ["(", "way", "(", "down", "any", "any", ")", ")"]),
  (2, ["(", "way", "(", "up", "any", ")", ")"]),
  (2, ["(", "way", "(", "any", ")", ")"]),
  (2, ["(", "way", "(", "down", "x", ")", ")"]),
  (2, ["(", "way", "(", "down", "(", "x", ")", ")", ")"]),
  (2, ["(", "way", "(", "down", "(", "kind", ")", ")", ")"])]
noncomputable def waysT_1 : List (Nat × List Str) := [(2, ["(", "way", "(", "down", "(", "kind", "x", "y", ")", ")", ")"]),
  (2, ["(", "way", "(", "down", "(", "kind", "K", ")", ")", ")"]),
  (2, ["(", "way", "(", "down", "(", "not", ")", ")", ")"]),
  (2, ["(", "way", "(", "down", "(", "not", "any", "any", ")", ")", ")"]),
  (2, ["(", "way", "(", "down", "(", "both", "any", ")", ")", ")"]),
  (2, ["(", "way", "(", "down", "mark", ")", ")"]),
  (2, ["(", "way", "(", "down", "(", "both", "any", "any", "any", ")", ")", ")"]),
  (2, ["(", "way", "(", "down", "(", "either", "any", ")", ")", ")"]),
  (2, ["(", "way", "(", "down", "(", ")", ")", ")"]),
  (2, ["(", "way", "(", "down", "(", "any", ")", ")", ")"])]
noncomputable def waysT_2 : List (Nat × List Str) := [(2, ["(", "way", "(", "down", "(", "way", ")", ")", ")"]),
  (2, ["(", "way", "(", "down", "(", "way", "down", "any", ")", ")", ")"]),
  (2, ["(", "way", "(", "(", "down", ")", "any", ")", ")"]),
  (2, ["(", "way", "(", "down", "any", ")", "down", ")"]),
  (2, ["(", "way", "(", "down", "kind", ")", ")"]),
  (2, ["any"]),
  (2, ["(", "way", "(", "down", "(", "kind", "(", "x", ")", ")", ")", ")"]),
  (2, ["(", "way", "(", "down", "(", "not", "x", ")", ")", ")"]),
  (2, ["(", "way", "(", "down", "any", ")", "(", "deep", ")", ")"]),
  (2, ["(", "kind", "x", ")"])]
noncomputable def waysT_3 : List (Nat × List Str) := [(2, ["(", "way", "(", "down", "(", "not", "(", "mark", ")", ")", ")", ")"]),
  (2, ["(", "way", "(", "down", "(", "both", "any", "mark", ")", ")", ")"]),
  (2, ["(", "way", "(", "down", "(", "down", "any", ")", ")", ")"]),
  (2, ["(", "not", "any", ")"]),
  (2, ["(", "way", "(", "down", "way", ")", ")"]),
  (2, ["(", "way", "(", "K", "any", ")", ")"]),
  (2, ["(", "way", "(", "ow", "any", ")", ")"]),
  (2, ["(", "way", "(", "later", "any", ")", "(", "ee", "any", ")", ")"]),
  (2, ["(", "way", "(", "down", "an", ")", ")"])]
noncomputable def waysT : List (Nat × List Str) := waysT_0 ++ waysT_1 ++ waysT_2 ++ waysT_3
noncomputable def goodT_0 : List (Nat × List Str) := [(0, ["(", "x", ")"]),
  (0, ["(", "x", "(", "y", ")", "(", "x", ")", ")"]),
  (1, ["(", "start", "x", "(", "rule", "x", "y", "row", ")", ")"]),
  (2, ["(", "way", "(", "down", "any", ")", ")"]),
  (1, ["(", "start", "x", "(", "rule", "x", "y", "mix", "(", "x", "0", "0", ")", "(", "y", "2", "many", ")", ")", "(", "rule", "y", "y", "row", "(", "x", "1", "2", ")", ")", ")"]),
  (1, ["(", "start", "y", "(", "rule", "x", "x", "row", "(", "x", "0", "many", ")", "(", "x", "1", "1", ")", ")", ")"]),
  (2, ["(", "way", "(", "deep", "(", "kind", "x", ")", ")", ")"]),
  (2, ["(", "way", "(", "later", "(", "not", "any", ")", ")", "(", "down", "(", "both", "any", "(", "kind", "y", ")", ")", ")", ")"]),
  (0, ["(", "down", "(", "deep", ")", ")"]),
  (2, ["(", "way", "(", "down", "(", "either", "any", "(", "way", "(", "deep", "any", ")", ")", ")", ")", ")"])]
noncomputable def goodT_1 : List (Nat × List Str) := [(1, ["(", "start", "x", "(", "rule", "y", "x", "mix", ")", ")"]),
  (2, ["(", "way", "(", "down", "(", "way", "(", "down", "any", ")", "(", "later", "any", ")", ")", ")", ")"])]
noncomputable def goodT : List (Nat × List Str) := goodT_0 ++ goodT_1
noncomputable def codeW (w : Str) : Nat := if w == "x" then 200 else if w == "y" then 201 else if w == "K" then 202 else cls w
theorem bad_codes : (treesT ++ shapesT ++ waysT).map (fun f => (f.1, f.2.map codeW)) = badC := by decide +kernel
theorem good_codes : goodT.map (fun f => (f.1, f.2.map codeW)) = goodC := by decide +kernel
noncomputable def wdB (w : Str) : Bool := w == "(" || w == ")" || (!w.cps.toList.isEmpty && w.cps.toList.all fun x => x != 32 && x != 40 && x != 41 && x != 10)
theorem wdB_wd {w : Str} (h : wdB w = true) : Wd w := by
  unfold wdB at h
  simp only [Bool.or_eq_true, Bool.and_eq_true] at h
  rcases h with (h | h) | ⟨h, h2⟩
  · exact .inl (eq_of_beq h)
  · exact .inr (.inl (eq_of_beq h))
  · refine .inr (.inr ⟨by intro z; rw [z] at h; simp at h, fun x hx => ?_⟩)
    have := List.all_eq_true.mp h2 x hx
    simpa [and_assoc] using this
noncomputable def fineF (f : Nat × List Str) : Bool := decide (f.1 < 3) && !f.2.isEmpty && decide (f.2.length ≤ 40) && f.2.all fun w => wdB w && PyData.strOk w && decide (w.length ≤ 8) && !(w.cps.toList.contains 32)
theorem all_fine : (treesT ++ shapesT ++ waysT ++ goodT).all fineF = true := by decide +kernel
theorem cls_le (s : Str) : cls s ≤ 101 := by
  by_cases h : cls s < 19
  · omega
  · unfold cls at h ⊢
    cases q : consts.findIdx? (· == s) with
    | some i =>
      rw [q] at h
      obtain ⟨hi, _⟩ := List.findIdx?_eq_some_iff_getElem.mp q
      exact absurd hi h
    | none => dsimp only; split <;> omega
theorem cls_sub (x y K w : Str) : cls (subW x y K w) = subC (cls x) (cls y) (cls K) (codeW w) := by
  have hl := cls_le w
  unfold subW codeW subC
  cases hx : (w == ("x" : Str)) with
  | true => simp
  | false =>
    cases hy : (w == ("y" : Str)) with
    | true => simp
    | false =>
      cases hK : (w == ("K" : Str)) with
      | true => simp
      | false =>
        have a : (cls w == 200) = false := by simp; omega
        have b : (cls w == 201) = false := by simp; omega
        have c : (cls w == 202) = false := by simp; omega
        simp [a, b, c]
theorem nm_cls {t : Str} (h : isNm t = true) : cls t ∈ nms := by
  have h2 := isNm_cls t
  rw [h] at h2
  have : nmC (cls t) = true := h2.symm
  unfold nmC at this
  simp only [Bool.or_eq_true, beq_iff_eq] at this
  rcases this with ((this | this) | this) | this <;> rw [this] <;> decide
theorem kw_cls : ∀ w ∈ words, cls w ∈ kws ∧ wdB w = true ∧ PyData.strOk w = true ∧ w.length ≤ 8 := by decide +kernel
end K16
end
section
set_option Elab.async false
set_option linter.all false
set_option maxRecDepth 100000
set_option maxHeartbeats 4000000
namespace K16
open PySem PySem.Spec L2 L3
structure Nm (t : Str) : Prop where
  nm : isNm t = true
  ok : PyData.strOk t = true
  le : t.length ≤ 8
theorem sgn_signs (c : Nat) (h : sgn c = true) : c ∈ letters.cps.toList := by
  have := StrLaws.found_one letters c
  unfold sgn at h
  rw [this] at h
  simpa using h
theorem letters_no : ∀ c ∈ letters.cps.toList, c ≠ 32 ∧ c ≠ 40 ∧ c ≠ 41 ∧ c ≠ 10 := by decide +kernel
theorem Nm.wd {t : Str} (h : Nm t) : Wd t := by
  have hn := h.nm
  unfold isNm at hn
  simp only [Bool.and_eq_true, decide_eq_true_eq] at hn
  refine .inr (.inr ⟨fun z => ?_, fun x hx => letters_no x (sgn_signs x (List.all_eq_true.mp hn.2 x hx))⟩)
  have : t.length = t.cps.toList.length := by simp [Str.length]
  rw [z] at this
  have h1 := hn.1.2.1
  simp at this
  omega
theorem sub_of (x y K : Str) (P : Str → Prop) (hx : P x) (hy : P y) (hK : P K) (w : Str) (hw : P w) : P (subW x y K w) := by
  unfold subW
  split
  · exact hx
  · split
    · exact hy
    · split
      · exact hK
      · exact hw
theorem sum_le (b : Nat) : ∀ l : List Nat, (∀ n ∈ l, n ≤ b) → l.sum ≤ b * l.length
  | [], _ => by simp
  | n :: l, h => by
    have ih := sum_le b l fun m hm => h m (by simp [hm])
    have := h n (by simp)
    simp [Nat.mul_add]
    omega
theorem tx_len (W : List Str) (h : ∀ w ∈ W, w.length ≤ 8) (hl : W.length ≤ 40) : (tx W).length ≤ 400 := by
  have e1 : (" " : Str).length = 1 := by decide +kernel
  have h1 := StrLaws.join_length_le " " W
  rw [e1] at h1
  have h2 := sum_le 8 (W.map fun x => x.length) (fun n hn => by obtain ⟨w, hw, rfl⟩ := List.mem_map.mp hn; exact h w hw)
  have e : tx W = (" " : Str).join W := StrLaws.glued_eq_join " " W
  rw [e]
  simp at h2
  omega
theorem sub_same (cs : List Nat) (x y k : Nat) : cs.map (subC x y k) = cs.map (subC (if cs.contains 200 then x else 100) (if cs.contains 201 then y else 100) (if cs.contains 202 then k else 101)) := by
  apply List.map_congr_left
  intro c hc
  have hm : ∀ n, c = n → cs.contains n = true := fun n e => by rw [← e]; simpa using hc
  unfold subC
  cases h0 : (c == 200) with
  | true => simp only [if_true]; rw [if_pos (hm 200 (by simpa using h0))]
  | false =>
    cases h1 : (c == 201) with
    | true => simp only [if_true, Bool.false_eq_true, if_false]; rw [if_pos (hm 201 (by simpa using h1))]
    | false =>
      cases h2 : (c == 202) with
      | true => simp only [if_true, Bool.false_eq_true, if_false]; rw [if_pos (hm 202 (by simpa using h2))]
      | false => simp only [Bool.false_eq_true, if_false]
theorem okF_use {b : Bool} {t : Nat} {cs : List Nat} (h : okF b (t, cs) = true) {x y k : Nat} (hx : x ∈ nms) (hy : y ∈ nms) (hk : k ∈ kws) : accF t (cs.map (subC x y k)) = b := by
  rw [sub_same]
  unfold okF at h
  have a := List.all_eq_true.mp h (if cs.contains 200 then x else 100) (by split <;> simp_all)
  have a2 := List.all_eq_true.mp a (if cs.contains 201 then y else 100) (by split <;> simp_all)
  have a3 := List.all_eq_true.mp a2 (if cs.contains 202 then k else 101) (by split <;> simp_all)
  exact eq_of_beq a3
theorem form_acc (b : Bool) (f : Nat × List Str) (hf : fineF f = true) (ho : okF b (f.1, f.2.map codeW) = true) (x y K : Str) (hx : Nm x) (hy : Nm y) (hK : K ∈ words) (G : DH) : Acc b (m__law_read [.int f.1, .str (tx (f.2.map (subW x y K)))] G) G := by
  obtain ⟨t, F⟩ := f
  unfold fineF at hf
  simp only [Bool.and_eq_true, decide_eq_true_eq] at hf
  obtain ⟨⟨⟨h3, hne⟩, hl⟩, hall⟩ := hf
  obtain ⟨kc, kw, kok, kle⟩ := kw_cls K hK
  have hw : ∀ w ∈ F, Wd w ∧ PyData.strOk w = true ∧ w.length ≤ 8 := fun w h => by
    have := List.all_eq_true.mp hall w h
    simp only [Bool.and_eq_true, decide_eq_true_eq] at this
    exact ⟨wdB_wd this.1.1.1, this.1.1.2, this.1.2⟩
  have hW : ∀ w ∈ F.map (subW x y K), Wd w ∧ PyData.strOk w = true ∧ w.length ≤ 8 := fun w h => by
    obtain ⟨v, hv, rfl⟩ := List.mem_map.mp h
    exact sub_of x y K (fun w => Wd w ∧ PyData.strOk w = true ∧ w.length ≤ 8) ⟨hx.wd, hx.ok, hx.le⟩ ⟨hy.wd, hy.ok, hy.le⟩ ⟨wdB_wd kw, kok, kle⟩ v (hw v hv)
  have hr := law_read_acc (F.map (subW x y K)) (by intro z; simp at z; subst z; simp at hne) (fun w h => (hW w h).1) (fun w h => ⟨(hW w h).2.1, by have := (hW w h).2.2; omega⟩) (by simp; omega) (by have := tx_len (F.map (subW x y K)) (fun w h => (hW w h).2.2) (by simpa using hl); omega) t h3 G
  have e : accF t ((F.map (subW x y K)).map cls) = b := by
    have ec : (F.map (subW x y K)).map cls = (F.map codeW).map (subC (cls x) (cls y) (cls K)) := by
      rw [List.map_map, List.map_map]
      exact List.map_congr_left fun w _ => cls_sub x y K w
    rw [ec]
    exact okF_use ho (nm_cls hx.nm) (nm_cls hy.nm) kc
  rw [e] at hr
  exact hr
end K16
end
section
set_option Elab.async false
set_option linter.all false
set_option maxRecDepth 100000
set_option maxHeartbeats 4000000
namespace K16
open PySem PySem.Spec L2 L3
noncomputable def HasForms (G : DH) (n : Nat) (L : List (Nat × List Str)) : Prop := ∃ objs, G[n]? = some (.lst objs) ∧ objs.length = L.length ∧ ∀ (i : Nat) (f : Nat × List Str), L[i]? = some f → ∃ k, objs[i]? = some (.obj k) ∧ G[k]? = some (.lst [.int f.1, .str (tx f.2)])
theorem aN {τ : DS} {G : DH} : aNil τ G = .ok (([] : List Str).map .str) G := rfl
theorem aC {m : DS → M (List D)} {τ : DS} {G : DH} {w : Str} {ws : List Str} (h : m τ G = .ok (ws.map .str) G) : aCons (eC (.str w)) m τ G = .ok ((w :: ws).map .str) G := by
  simp [dTru, dIx, seqOf, dInt2, dInt2L, dLen, dAdd, dNew, dTup, kindOk, dAppend, dPop, dIsi, tyD, Ty.is, h]
theorem tab_first {P : Res → Prop} {k : MS} {ws : List Str} {ma : DS → M (List D)} {G : DH} {o : Option D} (ha : ∀ τ G, ma τ G = .ok (ws.map .str) G) (hl : ws.length ≤ 100)
    (h : ∀ E n, (G ++ E)[n]? = some (.lst (ws.map .str)) → P (k [some (.obj n)] (G ++ E))) : P (sSeq (sSet 0 (eArgs dNew ma)) k [o] G) := by
  have hz : ws.length ≤ sizeLine := lz (by first | decide | omega)
  have e : sSeq (sSet 0 (eArgs dNew ma)) k [o] G = k [some (.obj G.length)] (G ++ [.lst (ws.map .str)]) := by simp [dTru, dIx, seqOf, dInt2, dInt2L, dLen, dAdd, dNew, dTup, kindOk, dAppend, dPop, dIsi, tyD, Ty.is, ha, hz]
  rw [e]
  exact h _ _ (ga0 _ _ _)
theorem tab_back {P : Res → Prop} {k : MS} {n : Nat} {vs ws : List Str} {ma : DS → M (List D)} {G E : DH} (hg : (G ++ E)[n]? = some (.lst (vs.map .str))) (ha : ∀ τ G, ma τ G = .ok (ws.map .str) G) (hl : vs.length + ws.length ≤ 100)
    (h : ∀ E n, (G ++ E)[n]? = some (.lst ((vs ++ ws).map .str)) → P (k [some (.obj n)] (G ++ E))) : P (sSeq (sSet 0 (eOp dAdd (eVar 0) (eArgs dNew ma))) k [some (.obj n)] (G ++ E)) := by
  have hz : ws.length ≤ sizeLine := lz (by first | decide | omega)
  have hz2 : vs.length + ws.length ≤ sizeLine := lz (by first | decide | omega)
  have hg' : (G ++ (E ++ [.lst (ws.map .str)]))[n]? = some (.lst (vs.map .str)) := by rw [← List.append_assoc]; exact lstOf_app hg
  have h0 : (G ++ (E ++ [.lst (ws.map .str)]))[G.length + E.length]? = some (.lst (ws.map .str)) := by
    have := ga0 (G ++ E) (.lst (ws.map .str)) []
    simpa using this
  have e : sSeq (sSet 0 (eOp dAdd (eVar 0) (eArgs dNew ma))) k [some (.obj n)] (G ++ E) = k [some (.obj (G.length + (E.length + 1)))] (G ++ (E ++ [.lst (ws.map .str), .lst ((vs ++ ws).map .str)])) := by simp [dTru, dIx, seqOf, dInt2, dInt2L, dLen, dAdd, dNew, dTup, kindOk, dAppend, dPop, dIsi, tyD, Ty.is, ha, hz, hg', h0, hz2]
  rw [e]
  refine h _ _ ?_
  have := ga1 (G ++ E) (.lst (ws.map .str)) (.lst ((vs ++ ws).map .str)) []
  simpa [Nat.add_assoc] using this
theorem comp_forms (t : Int) (ws : List Str) (B : DH) (n : Nat) (hB : B[n]? = some (.lst (ws.map .str))) (hl : ws.length ≤ 100) (τ : DS) : ∀ (fu j : Nat), j + fu = ws.length + 1 → 0 < fu →
    compO oN [] tYes (eArgs dNew (aCons (eC (.int t)) (aCons (eVar 0) aNil))) B.length n fu j τ (B ++ .lst ((List.range j).map fun i => .obj (B.length + 1 + i)) :: (ws.take j).map fun w => .lst [.int t, .str w]) = .ok (.obj B.length) (B ++ .lst ((List.range ws.length).map fun i => .obj (B.length + 1 + i)) :: ws.map fun w => .lst [.int t, .str w])
  | 0, j, h, hf => by omega
  | fu + 1, j, h, hf => by
    rw [compO, lstOf_app hB]
    dsimp only
    by_cases hj : j < ws.length
    · have hw : (ws.map D.str)[j]? = some (.str ws[j]) := by simp [hj]
      rw [hw]
      dsimp only
      have z2 : (2 : Nat) ≤ sizeLine := lz (by first | decide | omega)
      have zj : j < sizeLine := Nat.lt_of_lt_of_le (by first | decide | omega) (lz (n := 2000) (by first | decide | omega))
      have hlen : (ws.take j).length = j := by simp; omega
      have e : compOne oN [] tYes (eArgs dNew (aCons (eC (.int t)) (aCons (eVar 0) aNil))) B.length (.str ws[j]) τ (B ++ .lst ((List.range j).map fun i => .obj (B.length + 1 + i)) :: (ws.take j).map fun w => .lst [.int t, .str w]) = .ok () (B ++ .lst ((List.range (j + 1)).map fun i => .obj (B.length + 1 + i)) :: (ws.take (j + 1)).map fun w => .lst [.int t, .str w]) := by
        unfold compOne
        have e2 : eArgs dNew (aCons (eC (.int t)) (aCons (eVar 0) aNil)) ([some (.str ws[j])] ++ mask [] τ) (B ++ .lst ((List.range j).map fun i => .obj (B.length + 1 + i)) :: (ws.take j).map fun w => .lst [.int t, .str w]) = .ok (.obj (B.length + 1 + j)) (B ++ .lst ((List.range j).map fun i => .obj (B.length + 1 + i)) :: ((ws.take j).map (fun w => .lst [.int t, .str w]) ++ [.lst [.int t, .str ws[j]]])) := by
          simp [dTru, dIx, seqOf, dInt2, dInt2L, dLen, dAdd, dNew, dTup, kindOk, dAppend, dPop, dIsi, tyD, Ty.is, z2, hlen]
          omega
        simp only [oN, tYes, M.ret, List.map_cons, List.map_nil, e2, ga0, gs0]
        rw [if_pos (by simpa using zj)]
        congr 3
        · rw [List.range_succ]; simp
        · rw [← List.map_singleton (f := fun w => DO.lst [.int t, .str w]), ← List.map_append, List.take_succ_eq_append_getElem hj]
      rw [e]
      dsimp only
      exact comp_forms t ws B n hB hl τ fu (j + 1) (by first | decide | omega) (by first | decide | omega)
    · have hw : (ws.map D.str)[j]? = none := by simp; omega
      rw [hw]
      dsimp only
      have : j = ws.length := by omega
      subst this
      rw [List.take_length]
theorem comp_last {me : DS → M D} {τ : DS} {G0 : DH} (t : Int) (ws : List Str) (L : List (Nat × List Str)) (G E : DH) (n : Nat) (hm : me τ G0 = .ok (.obj n) (G ++ E)) (hB : (G ++ E)[n]? = some (.lst (ws.map .str))) (hl : ws.length ≤ 100) (hL : L.all (fun f => ((f.1 : Int) == t)) = true) (hw : (L.map (fun f => tx f.2) == ws) = true) :
    ∃ n' E', sRet (eComp oN [] me tYes (eArgs dNew (aCons (eC (.int t)) (aCons (eVar 0) aNil)))) τ G0 = .rt (.obj n') (G ++ E') ∧ HasForms (G ++ E') n' L := by
  replace hw := eq_of_beq hw
  replace hL : ∀ f ∈ L, (f.1 : Int) = t := fun f hf => eq_of_beq (List.all_eq_true.mp hL f hf)
  have h := comp_forms t ws (G ++ E) n hB hl τ (ws.length + 1) 0 (by first | decide | omega) (by first | decide | omega)
  simp only [List.range_zero, List.map_nil, List.take_zero] at h
  refine ⟨(G ++ E).length, E ++ .lst ((List.range ws.length).map fun i => .obj ((G ++ E).length + 1 + i)) :: ws.map fun w => .lst [.int t, .str w], ?_, ?_⟩
  · rw [sRet_l, eComp_l, hm, bd_ok]
    dsimp only
    rw [hB]
    dsimp only
    rw [List.length_map, h, rn_ok, List.append_assoc]
  · refine ⟨_, by rw [← List.append_assoc]; exact ga0 _ _ _, by simp [← hw], fun i f hf => ⟨(G ++ E).length + 1 + i, ?_, ?_⟩⟩
    · have : i < ws.length := by rw [← hw]; simpa using (List.getElem?_eq_some_iff.mp hf).1
      simp [this]
    · rw [← List.append_assoc, List.getElem?_append_right (by first | decide | omega)]
      have e : (G ++ E).length + 1 + i - (G ++ E).length = i + 1 := by omega
      rw [e, List.getElem?_cons_succ, ← hw, List.map_map, List.getElem?_map, hf]
      simp [hL f (List.mem_of_getElem? hf)]
theorem add_val {n : Nat} {vs ws : List Str} {ma : DS → M (List D)} {G E : DH} (hg : (G ++ E)[n]? = some (.lst (vs.map .str))) (ha : ∀ τ G, ma τ G = .ok (ws.map .str) G) (hl : vs.length + ws.length ≤ 100) :
    ∃ E' n', eOp dAdd (eVar 0) (eArgs dNew ma) [some (.obj n)] (G ++ E) = .ok (.obj n') (G ++ E') ∧ (G ++ E')[n']? = some (.lst ((vs ++ ws).map .str)) := by
  have h := tab_back (P := fun r => ∃ E' n', r = .nx [some (.obj n')] (G ++ E') ∧ (G ++ E')[n']? = some (.lst ((vs ++ ws).map .str))) (k := fun τ G => .nx τ G) hg ha hl (fun E' n' h => ⟨E', n', rfl, h⟩)
  obtain ⟨E', n', e, h⟩ := h
  refine ⟨E', n', ?_, h⟩
  rw [sSeq_l, sSet_l] at e
  cases q : eOp dAdd (eVar 0) (eArgs dNew ma) [some (.obj n)] (G ++ E) with
  | stuck => rw [q] at e; cases e
  | exn c G' => rw [q] at e; cases e
  | ok d G' =>
    rw [q, st_ok, sq_nx] at e
    simp at e
    rw [e.1, e.2]
theorem fn_ok {r : Res} {d : D} {G : DH} (h : r = .rt d G) : r.fn = .ok d G := by rw [h]; rfl
theorem bad_trees_eq (G : DH) : ∃ n E, m__law_bad_trees [] G = .ok (.obj n) (G ++ E) ∧ HasForms (G ++ E) n treesT := by
  have : ∃ n E, b__law_bad_trees [none] G = .rt (.obj n) (G ++ E) ∧ HasForms (G ++ E) n treesT := by
    unfold b__law_bad_trees
    refine tab_first (P := fun r => ∃ n E, r = .rt (.obj n) (G ++ E) ∧ HasForms (G ++ E) n treesT) (fun _ _ => aC (aC (aC (aC (aC (aC (aC (aC (aC (aN)))))))))) (by decide) ?_
    intro E n hg
    obtain ⟨E', n', e, h⟩ := add_val (ws := ["( x ) ( y )", "( x 1 )", "( x ( ( y ) ) )", "( x K )", "( ( x ) ( y ) )"]) hg (fun _ _ => aC (aC (aC (aC (aC (aN)))))) (by decide)
    exact comp_last 0 _ treesT G E' n' e h (by decide) (by decide +kernel) (by decide +kernel)
  obtain ⟨n, E, e, h⟩ := this
  refine ⟨n, E, ?_, h⟩
  show runB 1 b__law_bad_trees [] G = _
  rw [runB_l]
  exact fn_ok e
theorem bad_shapes_eq (G : DH) : ∃ n E, m__law_bad_shapes [] G = .ok (.obj n) (G ++ E) ∧ HasForms (G ++ E) n shapesT := by
  have : ∃ n E, b__law_bad_shapes [none] G = .rt (.obj n) (G ++ E) ∧ HasForms (G ++ E) n shapesT := by
    unfold b__law_bad_shapes
    refine tab_first (P := fun r => ∃ n E, r = .rt (.obj n) (G ++ E) ∧ HasForms (G ++ E) n shapesT) (fun _ _ => aC (aC (aC (aC (aC (aC (aN))))))) (by decide) ?_
    intro E n hg
    refine tab_back (P := fun r => ∃ n E, r = .rt (.obj n) (G ++ E) ∧ HasForms (G ++ E) n shapesT) hg (fun _ _ => aC (aC (aC (aN)))) (by decide) ?_
    clear hg; intro E n hg
    refine tab_back (P := fun r => ∃ n E, r = .rt (.obj n) (G ++ E) ∧ HasForms (G ++ E) n shapesT) hg (fun _ _ => aC (aC (aC (aN)))) (by decide) ?_
    clear hg; intro E n hg
    refine tab_back (P := fun r => ∃ n E, r = .rt (.obj n) (G ++ E) ∧ HasForms (G ++ E) n shapesT) hg (fun _ _ => aC (aC (aN))) (by decide) ?_
    clear hg; intro E n hg
    refine tab_back (P := fun r => ∃ n E, r = .rt (.obj n) (G ++ E) ∧ HasForms (G ++ E) n shapesT) hg (fun _ _ => aC (aC (aN))) (by decide) ?_
    clear hg; intro E n hg
    refine tab_back (P := fun r => ∃ n E, r = .rt (.obj n) (G ++ E) ∧ HasForms (G ++ E) n shapesT) hg (fun _ _ => aC (aC (aN))) (by decide) ?_
    clear hg; intro E n hg
    refine tab_back (P := fun r => ∃ n E, r = .rt (.obj n) (G ++ E) ∧ HasForms (G ++ E) n shapesT) hg (fun _ _ => aC (aC (aN))) (by decide) ?_
    clear hg; intro E n hg
    refine tab_back (P := fun r => ∃ n E, r = .rt (.obj n) (G ++ E) ∧ HasForms (G ++ E) n shapesT) hg (fun _ _ => aC (aC (aN))) (by decide) ?_
    clear hg; intro E n hg
    refine tab_back (P := fun r => ∃ n E, r = .rt (.obj n) (G ++ E) ∧ HasForms (G ++ E) n shapesT) hg (fun _ _ => aC (aC (aN))) (by decide) ?_
    clear hg; intro E n hg
    refine tab_back (P := fun r => ∃ n E, r = .rt (.obj n) (G ++ E) ∧ HasForms (G ++ E) n shapesT) hg (fun _ _ => aC (aC (aN))) (by decide) ?_
    clear hg; intro E n hg
    refine tab_back (P := fun r => ∃ n E, r = .rt (.obj n) (G ++ E) ∧ HasForms (G ++ E) n shapesT) hg (fun _ _ => aC (aC (aC (aN)))) (by decide) ?_
    clear hg; intro E n hg
    refine tab_back (P := fun r => ∃ n E, r = .rt (.obj n) (G ++ E) ∧ HasForms (G ++ E) n shapesT) hg (fun _ _ => aC (aC (aN))) (by decide) ?_
    clear hg; intro E n hg
    refine tab_back (P := fun r => ∃ n E, r = .rt (.obj n) (G ++ E) ∧ HasForms (G ++ E) n shapesT) hg (fun _ _ => aC (aC (aN))) (by decide) ?_
    clear hg; intro E n hg
    refine tab_back (P := fun r => ∃ n E, r = .rt (.obj n) (G ++ E) ∧ HasForms (G ++ E) n shapesT) hg (fun _ _ => aC (aC (aN))) (by decide) ?_
    clear hg; intro E n hg
    refine tab_back (P := fun r => ∃ n E, r = .rt (.obj n) (G ++ E) ∧ HasForms (G ++ E) n shapesT) hg (fun _ _ => aC (aC (aN))) (by decide) ?_
    clear hg; intro E n hg
    refine tab_back (P := fun r => ∃ n E, r = .rt (.obj n) (G ++ E) ∧ HasForms (G ++ E) n shapesT) hg (fun _ _ => aC (aC (aN))) (by decide) ?_
    clear hg; intro E n hg
    refine tab_back (P := fun r => ∃ n E, r = .rt (.obj n) (G ++ E) ∧ HasForms (G ++ E) n shapesT) hg (fun _ _ => aC (aC (aN))) (by decide) ?_
    clear hg; intro E n hg
    exact comp_last 1 _ shapesT G E n rfl hg (by decide) (by decide +kernel) (by decide +kernel)
  obtain ⟨n, E, e, h⟩ := this
  refine ⟨n, E, ?_, h⟩
  show runB 1 b__law_bad_shapes [] G = _
  rw [runB_l]
  exact fn_ok e
theorem bad_ways_eq (G : DH) : ∃ n E, m__law_bad_ways [] G = .ok (.obj n) (G ++ E) ∧ HasForms (G ++ E) n waysT := by
  have : ∃ n E, b__law_bad_ways [none] G = .rt (.obj n) (G ++ E) ∧ HasForms (G ++ E) n waysT := by
    unfold b__law_bad_ways
    refine tab_first (P := fun r => ∃ n E, r = .rt (.obj n) (G ++ E) ∧ HasForms (G ++ E) n waysT) (fun _ _ => aC (aC (aC (aC (aC (aC (aN))))))) (by decide) ?_
    intro E n hg
    refine tab_back (P := fun r => ∃ n E, r = .rt (.obj n) (G ++ E) ∧ HasForms (G ++ E) n waysT) hg (fun _ _ => aC (aC (aC (aC (aN))))) (by decide) ?_
    clear hg; intro E n hg
    refine tab_back (P := fun r => ∃ n E, r = .rt (.obj n) (G ++ E) ∧ HasForms (G ++ E) n waysT) hg (fun _ _ => aC (aC (aC (aN)))) (by decide) ?_
    clear hg; intro E n hg
    refine tab_back (P := fun r => ∃ n E, r = .rt (.obj n) (G ++ E) ∧ HasForms (G ++ E) n waysT) hg (fun _ _ => aC (aC (aC (aN)))) (by decide) ?_
    clear hg; intro E n hg
    refine tab_back (P := fun r => ∃ n E, r = .rt (.obj n) (G ++ E) ∧ HasForms (G ++ E) n waysT) hg (fun _ _ => aC (aC (aC (aN)))) (by decide) ?_
    clear hg; intro E n hg
    refine tab_back (P := fun r => ∃ n E, r = .rt (.obj n) (G ++ E) ∧ HasForms (G ++ E) n waysT) hg (fun _ _ => aC (aC (aC (aN)))) (by decide) ?_
    clear hg; intro E n hg
    refine tab_back (P := fun r => ∃ n E, r = .rt (.obj n) (G ++ E) ∧ HasForms (G ++ E) n waysT) hg (fun _ _ => aC (aC (aC (aC (aN))))) (by decide) ?_
    clear hg; intro E n hg
    refine tab_back (P := fun r => ∃ n E, r = .rt (.obj n) (G ++ E) ∧ HasForms (G ++ E) n waysT) hg (fun _ _ => aC (aC (aC (aN)))) (by decide) ?_
    clear hg; intro E n hg
    refine tab_back (P := fun r => ∃ n E, r = .rt (.obj n) (G ++ E) ∧ HasForms (G ++ E) n waysT) hg (fun _ _ => aC (aC (aC (aN)))) (by decide) ?_
    clear hg; intro E n hg
    refine tab_back (P := fun r => ∃ n E, r = .rt (.obj n) (G ++ E) ∧ HasForms (G ++ E) n waysT) hg (fun _ _ => aC (aC (aC (aC (aN))))) (by decide) ?_
    clear hg; intro E n hg
    refine tab_back (P := fun r => ∃ n E, r = .rt (.obj n) (G ++ E) ∧ HasForms (G ++ E) n waysT) hg (fun _ _ => aC (aC (aC (aN)))) (by decide) ?_
    clear hg; intro E n hg
    exact comp_last 2 _ waysT G E n rfl hg (by decide) (by decide +kernel) (by decide +kernel)
  obtain ⟨n, E, e, h⟩ := this
  refine ⟨n, E, ?_, h⟩
  show runB 1 b__law_bad_ways [] G = _
  rw [runB_l]
  exact fn_ok e
end K16
end
section
set_option Elab.async false
set_option linter.all false
set_option maxRecDepth 100000
set_option maxHeartbeats 4000000
namespace K16
open PySem PySem.Spec L2 L3
theorem modL (c : Int) (n : Nat) (h : 0 < n) : ∃ i : Nat, i < n ∧ c % (n : Int) = (i : Int) := ⟨(c % (n : Int)).toNat, by have := Int.emod_nonneg c (b := (n : Int)) (by first | decide | omega); have := Int.emod_lt_of_pos c (b := (n : Int)) (by first | decide | omega); omega, by have := Int.emod_nonneg c (b := (n : Int)) (by first | decide | omega); omega⟩
noncomputable def FA (ma : DS → M (List D)) (L : List (Int × Str)) : Prop := ∀ τ G, ma τ G = .ok ((List.range' G.length L.length).map D.obj) (G ++ L.map fun f => .lst [.int f.1, .str f.2])
theorem FA.nil : FA aNil [] := fun τ G => by simp [aNil_l]
theorem FA.cons {ma : DS → M (List D)} {L : List (Int × Str)} (t : Int) (s : Str) (h : FA ma L) : FA (aCons (eArgs dNew (aCons (eC (.int t)) (aCons (eC (.str s)) aNil))) ma) ((t, s) :: L) := fun τ G => by
  have z2 : (2 : Nat) ≤ sizeLine := lz (by first | decide | omega)
  have e : eArgs dNew (aCons (eC (.int t)) (aCons (eC (.str s)) aNil)) τ G = .ok (.obj G.length) (G ++ [.lst [.int t, .str s]]) := by simp [dTru, dIx, seqOf, dInt2, dInt2L, dLen, dAdd, dNew, dTup, kindOk, dAppend, dPop, dIsi, tyD, Ty.is, z2]
  rw [aCons_l, e, bd_ok, bind_l, h, bd_ok, ret_l, List.length_append]
  simp [List.range'_succ]
noncomputable def HasF (G : DH) (n : Nat) (L : List (Int × Str)) : Prop := ∃ objs, G[n]? = some (.lst objs) ∧ objs.length = L.length ∧ ∀ (i : Nat) (f : Int × Str), L[i]? = some f → ∃ k, objs[i]? = some (.obj k) ∧ G[k]? = some (.lst [.int f.1, .str f.2])
theorem HasF.to {G : DH} {n : Nat} {L L' : List (Int × Str)} (h : HasF G n L) (e : (L == L') = true) : HasF G n L' := by rw [← eq_of_beq e]; exact h
theorem FA.new {ma : DS → M (List D)} {L : List (Int × Str)} (h : FA ma L) (hl : L.length ≤ 100) (τ : DS) (G : DH) : ∃ E n, eArgs dNew ma τ G = .ok (.obj n) (G ++ E) ∧ HasF (G ++ E) n L := by
  have hz : L.length ≤ sizeLine := lz (by first | decide | omega)
  refine ⟨L.map (fun f => .lst [.int f.1, .str f.2]) ++ [.lst ((List.range' G.length L.length).map D.obj)], G.length + L.length, ?_, (List.range' G.length L.length).map D.obj, ?_, by simp, fun i f hf => ⟨G.length + i, ?_, ?_⟩⟩
  · rw [eArgs_l, h, bd_ok, dNew, if_pos (by simpa using hz)]
    simp
  · have := ga0 (G ++ L.map fun f => .lst [.int f.1, .str f.2]) (.lst ((List.range' G.length L.length).map D.obj)) []
    simpa using this
  · have : i < L.length := (List.getElem?_eq_some_iff.mp hf).1
    simp [this]
  · have : i < L.length := (List.getElem?_eq_some_iff.mp hf).1
    rw [List.getElem?_append_right (by first | decide | omega), Nat.add_sub_cancel_left, List.getElem?_append_left (by simpa using this), List.getElem?_map, hf]
    rfl
theorem good_first {P : Res → Prop} {k : MS} {ma : DS → M (List D)} {L : List (Int × Str)} {G : DH} {c o : Option D} (ha : FA ma L) (hl : L.length ≤ 100)
    (h : ∀ E n, HasF (G ++ E) n L → P (k [c, some (.obj n)] (G ++ E))) : P (sSeq (sSet 1 (eArgs dNew ma)) k [c, o] G) := by
  obtain ⟨E, n, e, hf⟩ := ha.new hl [c, o] G
  rw [sSeq_l, sSet_l, e, st_ok, sq_nx]
  exact h E n hf
theorem good_back {P : Res → Prop} {k : MS} {ma : DS → M (List D)} {n : Nat} {L L' : List (Int × Str)} {G E : DH} {c : Option D} (hg : HasF (G ++ E) n L) (ha : FA ma L') (hl : L.length + L'.length ≤ 100)
    (h : ∀ E n, HasF (G ++ E) n (L ++ L') → P (k [c, some (.obj n)] (G ++ E))) : P (sSeq (sSet 1 (eOp dAdd (eVar 1) (eArgs dNew ma))) k [c, some (.obj n)] (G ++ E)) := by
  obtain ⟨E2, n2, e2, o2, q1, q2, q3⟩ := ha.new (by first | decide | omega) [c, some (.obj n)] (G ++ E)
  obtain ⟨o1, p1, p2, p3⟩ := hg
  have hz : o1.length + o2.length ≤ sizeLine := lz (by first | decide | omega)
  have p1' := lstOf_app (E := E2) p1
  have e : sSeq (sSet 1 (eOp dAdd (eVar 1) (eArgs dNew ma))) k [c, some (.obj n)] (G ++ E) = k [c, some (.obj (G ++ E ++ E2).length)] (G ++ E ++ E2 ++ [.lst (o1 ++ o2)]) := by
    simp only [sSeq_l, sSet_l, eOp_l, eVar_l, List.getElem?_cons_succ, List.getElem?_cons_zero, bd_ok, bind_l, e2, dAdd, p1', q1, dNew]
    rw [if_pos (by simpa using hz), st_ok, sq_nx]
    rfl
  rw [e, show G ++ E ++ E2 ++ [DO.lst (o1 ++ o2)] = G ++ (E ++ E2 ++ [DO.lst (o1 ++ o2)]) by simp]
  refine h _ _ ⟨o1 ++ o2, ?_, by simp [p2, q2], fun i f hf => ?_⟩
  · have := ga0 (G ++ E ++ E2) (.lst (o1 ++ o2)) []
    simpa using this
  · by_cases hi : i < L.length
    · rw [List.getElem?_append_left hi] at hf
      obtain ⟨k, a, b⟩ := p3 i f hf
      refine ⟨k, by rw [List.getElem?_append_left (by first | decide | omega)]; exact a, ?_⟩
      have := lstOf_app (E := E2 ++ [DO.lst (o1 ++ o2)]) b
      simpa using this
    · rw [List.getElem?_append_right (by first | decide | omega)] at hf
      obtain ⟨k, a, b⟩ := q3 _ f hf
      refine ⟨k, by rw [List.getElem?_append_right (by first | decide | omega), p2]; exact a, ?_⟩
      have := lstOf_app (E := [DO.lst (o1 ++ o2)]) b
      simpa using this
theorem good_eq (c : Int) (G : DH) : ∃ k E f, m__law_good [.int c] G = .ok (.obj k) (G ++ E) ∧ f ∈ goodT ∧ (G ++ E)[k]? = some (.lst [.int f.1, .str (tx f.2)]) := by
  have : ∃ k E f, b__law_good [some (.int c), none] G = .rt (.obj k) (G ++ E) ∧ f ∈ goodT ∧ (G ++ E)[k]? = some (.lst [.int f.1, .str (tx f.2)]) := by
    unfold b__law_good
    refine good_first (P := fun r => ∃ k E f, r = .rt (.obj k) (G ++ E) ∧ f ∈ goodT ∧ (G ++ E)[k]? = some (.lst [.int f.1, .str (tx f.2)])) (.cons _ _ (.cons _ _ (.cons _ _ (.cons _ _ .nil)))) (by decide) ?_
    intro E n hg
    refine good_back (P := fun r => ∃ k E f, r = .rt (.obj k) (G ++ E) ∧ f ∈ goodT ∧ (G ++ E)[k]? = some (.lst [.int f.1, .str (tx f.2)])) hg (.cons _ _ .nil) (by decide) ?_
    clear hg; intro E n hg
    refine good_back (P := fun r => ∃ k E f, r = .rt (.obj k) (G ++ E) ∧ f ∈ goodT ∧ (G ++ E)[k]? = some (.lst [.int f.1, .str (tx f.2)])) hg (.cons _ _ (.cons _ _ .nil)) (by decide) ?_
    clear hg; intro E n hg
    refine good_back (P := fun r => ∃ k E f, r = .rt (.obj k) (G ++ E) ∧ f ∈ goodT ∧ (G ++ E)[k]? = some (.lst [.int f.1, .str (tx f.2)])) hg (.cons _ _ (.cons _ _ .nil)) (by decide) ?_
    clear hg; intro E n hg
    refine good_back (P := fun r => ∃ k E f, r = .rt (.obj k) (G ++ E) ∧ f ∈ goodT ∧ (G ++ E)[k]? = some (.lst [.int f.1, .str (tx f.2)])) hg (.cons _ _ (.cons _ _ .nil)) (by decide) ?_
    clear hg; intro E n hg
    refine good_back (P := fun r => ∃ k E f, r = .rt (.obj k) (G ++ E) ∧ f ∈ goodT ∧ (G ++ E)[k]? = some (.lst [.int f.1, .str (tx f.2)])) hg (.cons _ _ .nil) (by decide) ?_
    clear hg; intro E n hg
    replace hg := hg.to (L' := goodT.map fun f => ((f.1 : Int), tx f.2)) (by decide +kernel)
    obtain ⟨o1, p1, p2, p3⟩ := hg
    have hlen : o1.length = 12 := by rw [p2, List.length_map]; decide
    obtain ⟨i, hi, hc⟩ := modL c 12 (by first | decide | omega)
    have hf : ∃ f, goodT[i]? = some f := ⟨goodT[i]'(by have : goodT.length = 12 := by decide
                                                       omega), List.getElem?_eq_getElem _⟩
    obtain ⟨f, hf⟩ := hf
    obtain ⟨k, a, b⟩ := p3 i ((f.1 : Int), tx f.2) (by rw [List.getElem?_map, hf]; rfl)
    refine ⟨k, E, f, ?_, List.mem_of_getElem? hf, b⟩
    have ea : atI o1 (c % 12) = some (.obj k) := by rw [show c % 12 = (i : Int) from hc]; exact atI_nat a
    simp [dTru, dIx, seqOf, dInt2, dInt2L, dLen, dAdd, dNew, dTup, kindOk, dAppend, dPop, dIsi, tyD, Ty.is, p1, hlen, ea]
  obtain ⟨k, E, f, e, h⟩ := this
  refine ⟨k, E, f, ?_, h⟩
  show runB 2 b__law_good [.int c] G = _
  rw [runB_l]
  exact fn_ok e
end K16
end
section
set_option Elab.async false
set_option linter.all false
set_option maxRecDepth 100000
set_option maxHeartbeats 4000000
namespace K16
open PySem PySem.Spec L2 L3
theorem HasForms.app {G E : DH} {n : Nat} {L : List (Nat × List Str)} (h : HasForms G n L) : HasForms (G ++ E) n L := by
  obtain ⟨objs, h1, h2, h3⟩ := h
  exact ⟨objs, lstOf_app h1, h2, fun i f hf => by
    obtain ⟨k, a, b⟩ := h3 i f hf
    exact ⟨k, a, lstOf_app b⟩⟩
noncomputable def badT : List (Nat × List Str) := treesT ++ shapesT ++ waysT
theorem bad_fine (f : Nat × List Str) (h : f ∈ badT) : fineF f = true ∧ okF false (f.1, f.2.map codeW) = true := by
  refine ⟨List.all_eq_true.mp all_fine f (List.mem_append.mpr (.inl h)), ?_⟩
  have := bad_all
  rw [← bad_codes] at this
  exact List.all_eq_true.mp this _ (List.mem_map.mpr ⟨f, h, rfl⟩)
theorem good_fine (f : Nat × List Str) (h : f ∈ goodT) : fineF f = true ∧ okF true (f.1, f.2.map codeW) = true := by
  refine ⟨List.all_eq_true.mp all_fine f (List.mem_append.mpr (.inr h)), ?_⟩
  have := good_all
  rw [← good_codes] at this
  exact List.all_eq_true.mp this _ (List.mem_map.mpr ⟨f, h, rfl⟩)
theorem pick_bad (τ : DS) (A : DH) (mi : DS → M D) (i : Int) (hmi : ∀ G, mi τ G = .ok (.int (i % 3)) G) : ∃ n E L, eOp dIx (eArgs dNew (aCons (eCall 0 m__law_bad_trees aNil) (aCons (eCall 0 m__law_bad_shapes aNil) (aCons (eCall 0 m__law_bad_ways aNil) (aNil))))) mi τ A = .ok (.obj n) (A ++ E) ∧ HasForms (A ++ E) n L ∧ (∀ f ∈ L, f ∈ badT) ∧ 0 < L.length ∧ L.length ≤ 100 := by
  obtain ⟨n1, E1, e1, h1⟩ := bad_trees_eq A
  obtain ⟨n2, E2, e2, h2⟩ := bad_shapes_eq (A ++ E1)
  obtain ⟨n3, E3, e3, h3⟩ := bad_ways_eq (A ++ E1 ++ E2)
  have z3 : (3 : Nat) ≤ sizeLine := lz (by first | decide | omega)
  obtain ⟨j, hj, hi⟩ := modL i 3 (by first | decide | omega)
  have hi' : i % 3 = (j : Int) := hi
  have run : ∀ v, atI [D.obj n1, D.obj n2, D.obj n3] (j : Int) = some v → eOp dIx (eArgs dNew (aCons (eCall 0 m__law_bad_trees aNil) (aCons (eCall 0 m__law_bad_shapes aNil) (aCons (eCall 0 m__law_bad_ways aNil) (aNil))))) mi τ A = .ok v (A ++ (E1 ++ (E2 ++ (E3 ++ [.lst [.obj n1, .obj n2, .obj n3]])))) := fun v hv => by
    have g : (A ++ (E1 ++ (E2 ++ (E3 ++ [.lst [.obj n1, .obj n2, .obj n3]]))))[A.length + (E1.length + (E2.length + E3.length))]? = some (.lst [.obj n1, .obj n2, .obj n3]) := by
      have := ga0 (A ++ E1 ++ E2 ++ E3) (.lst [.obj n1, .obj n2, .obj n3]) []
      simpa [Nat.add_assoc] using this
    simp only [List.append_assoc] at e1 e2 e3
    simp [dTru, dIx, seqOf, dInt2, dInt2L, dLen, dAdd, dNew, dTup, kindOk, dAppend, dPop, dIsi, tyD, Ty.is, e1, e2, e3, z3, hmi, hi', g, hv]
  have hj3 : j = 0 ∨ j = 1 ∨ j = 2 := by omega
  have ha1 : A ++ (E1 ++ (E2 ++ (E3 ++ [.lst [.obj n1, .obj n2, .obj n3]]))) = (A ++ E1) ++ (E2 ++ (E3 ++ [.lst [.obj n1, .obj n2, .obj n3]])) := by simp
  have ha2 : A ++ (E1 ++ (E2 ++ (E3 ++ [.lst [.obj n1, .obj n2, .obj n3]]))) = (A ++ E1 ++ E2) ++ (E3 ++ [.lst [.obj n1, .obj n2, .obj n3]]) := by simp
  have ha3 : A ++ (E1 ++ (E2 ++ (E3 ++ [.lst [.obj n1, .obj n2, .obj n3]]))) = (A ++ E1 ++ E2 ++ E3) ++ [.lst [.obj n1, .obj n2, .obj n3]] := by simp
  rcases hj3 with rfl | rfl | rfl
  · exact ⟨n1, _, treesT, run _ (atI_nat (j := 0) rfl), by rw [ha1]; exact h1.app, fun f hf => by simp [badT, hf], by decide, by decide⟩
  · exact ⟨n2, _, shapesT, run _ (atI_nat (j := 1) rfl), by rw [ha2]; exact h2.app, fun f hf => by simp [badT, hf], by decide, by decide⟩
  · exact ⟨n3, _, waysT, run _ (atI_nat (j := 2) rfl), by rw [ha3]; exact h3.app, fun f hf => by simp [badT, hf], by decide, by decide⟩
noncomputable def tryS : MS := sTry (sSeq (sExpr (eCall 2 m__law_read (aCons (eOp dIx (eVar 9) (eC (.int 0))) (aCons (eCall 4 m__law_text (aCons (eOp dIx (eVar 9) (eC (.int 1))) (aCons (eVar 3) (aCons (eVar 4) (aCons (eOp dIx (eVar 2) (eOp dMod (eOp dIx (eVar 1) (eOp dAdd (eC (.int 8)) (eVar 5))) (eC (.int 12)))) (aNil)))))) (aNil))))) (sSet 10 (eC (.bl true)))) (hCons (fun n => List.lookup n [("NoText", true)]) (sSet 10 (eC (.bl false))) (hCons (fun n => List.lookup n [("NoText", true)]) (sRet (eC (.bl false))) (hNil))) (sSkip)
theorem try_eq (A : DH) (i1 i2 k9 : Nat) (ds : List Int) (hd : ds.length = 20) (g1 : A[i1]? = some (.lst (ds.map .int))) (g2 : A[i2]? = some (.lst (words.map .str))) (x y : Str) (hx : Nm x) (hy : Nm y) (k : Nat) (hk : k < 6) (f : Nat × List Str) (g9 : A[k9]? = some (.lst [.int f.1, .str (tx f.2)])) (b : Bool) (hf : fineF f = true) (ho : okF b (f.1, f.2.map codeW) = true) (a0 a6 a7 a8 : Option D) :
    ∃ E, tryS [a0, some (.obj i1), some (.obj i2), some (.str x), some (.str y), some (.int (0 + (k : Int))), a6, a7, a8, some (.obj k9), some (.bl false)] A = .nx [a0, some (.obj i1), some (.obj i2), some (.str x), some (.str y), some (.int (0 + (k : Int))), a6, a7, a8, some (.obj k9), some (.bl b)] (A ++ E) := by
  obtain ⟨v, ev, ev'⟩ := atI_some (xs := ds.map D.int) (i := 8 + (k : Int)) (by first | decide | omega) (by simp; omega)
  obtain ⟨c, rfl⟩ : ∃ c, v = .int c := by
    have := List.mem_of_getElem? ev'
    simp at this
    obtain ⟨c, _, rfl⟩ := this
    exact ⟨c, rfl⟩
  obtain ⟨j, hj, hc⟩ := modL c 12 (by first | decide | omega)
  have hc' : c % 12 = (j : Int) := hc
  have hwl : words.length = 12 := by decide +kernel
  obtain ⟨K, eK, eK'⟩ := atI_some (xs := words.map D.str) (i := (j : Int)) (by first | decide | omega) (by simp [hwl]; omega)
  obtain ⟨K, rfl, hK⟩ : ∃ K', K = .str K' ∧ K' ∈ words := by
    have := List.mem_of_getElem? eK'
    simp at this
    obtain ⟨c, h, rfl⟩ := this
    exact ⟨c, rfl, h⟩
  have hf' := hf
  unfold fineF at hf'
  simp only [Bool.and_eq_true, decide_eq_true_eq] at hf'
  obtain ⟨⟨⟨h3, hne⟩, hl⟩, hall⟩ := hf'
  have hw : ∀ w ∈ f.2, PyData.strOk w = true ∧ w.length ≤ 8 ∧ 32 ∉ w.cps.toList := fun w h => by
    have := List.all_eq_true.mp hall w h
    simp only [Bool.and_eq_true, decide_eq_true_eq] at this
    exact ⟨this.1.1.2, this.1.2, by simpa using this.2⟩
  obtain ⟨kc, kw, kok, kle⟩ := kw_cls K hK
  have hB : ∀ w ∈ f.2.map (subW x y K), w.length ≤ 100 := fun w h => by
    obtain ⟨v, hv, rfl⟩ := List.mem_map.mp h
    have := sub_of x y K (fun w => w.length ≤ 8) hx.le hy.le kle v (hw v hv).2.1
    omega
  obtain ⟨E1, e1⟩ := text_eq f.2 (by intro z; rw [z] at hne; simp at hne) (fun w h => (hw w h).2.2) (fun w h => (hw w h).1) x y K (by first | decide | omega) hB (by have := tx_len f.2 (fun w h => (hw w h).2.1) hl; omega) A
  have hr := form_acc b f hf ho x y K hx hy hK (A ++ E1)
  have at0 : atI [D.int f.1, D.str (tx f.2)] 0 = some (.int f.1) := atI_nat (j := 0) rfl
  have at1 : atI [D.int f.1, D.str (tx f.2)] 1 = some (.str (tx f.2)) := atI_nat (j := 1) rfl
  have l1 : List.lookup ("NoText" : Str) [(("NoText" : Str), true)] = some true := by decide +kernel
  generalize hT : tx (f.2.map (subW x y K)) = T at e1 hr
  have run : ∀ X, m__law_read [.int f.1, .str T] (A ++ E1) = X → tryS [a0, some (.obj i1), some (.obj i2), some (.str x), some (.str y), some (.int (0 + (k : Int))), a6, a7, a8, some (.obj k9), some (.bl false)] A = ((X.xp [a0, some (.obj i1), some (.obj i2), some (.str x), some (.str y), some (.int (0 + (k : Int))), a6, a7, a8, some (.obj k9), some (.bl false)]).sq (sSet 10 (eC (.bl true)))).tr (hCons (fun n => List.lookup n [("NoText", true)]) (sSet 10 (eC (.bl false))) (hCons (fun n => List.lookup n [("NoText", true)]) (sRet (eC (.bl false))) (hNil))) (sSkip) := fun X hX => by
    simp [dTru, dIx, seqOf, dInt2, dInt2L, dLen, dAdd, dNew, dTup, kindOk, dAppend, dPop, dIsi, tyD, Ty.is, tryS, sTry_l, g1, g2, g9, ev, hc', eK, at0, at1, e1, hX]
  cases b with
  | true =>
    obtain ⟨d, E2, e2⟩ := hr
    refine ⟨E1 ++ E2, ?_⟩
    rw [run _ e2, ← List.append_assoc]
    rfl
  | false =>
    obtain ⟨as, E2, e2⟩ := hr
    refine ⟨E1 ++ E2, ?_⟩
    rw [run _ e2, xp_x, sq_xn, tr_xn, hCons_l, l1, ← List.append_assoc]
    rfl
theorem dEq_bl (g a b : Bool) (G : DH) : dEq g (.bl a) (.bl b) G = .ok (.bl (g ^^ (a == b))) G := by
  simp [dEq, dEqB, toP, PyData.canLay0, PyData.depth, PyData.eqv]
theorem turn_eq (A : DH) (i1 i2 : Nat) (ds : List Int) (hd : ds.length = 20) (g1 : A[i1]? = some (.lst (ds.map .int))) (g2 : A[i2]? = some (.lst (words.map .str))) (x y : Str) (hx : Nm x) (hy : Nm y) (k : Nat) (hk : k < 6) (a0 a6 a7 a8 a9 a10 : Option D) :
    ∃ E b6 b7 b8 b9 b10, L0_law [a0, some (.obj i1), some (.obj i2), some (.str x), some (.str y), some (.int (0 + (k : Int))), a6, a7, a8, a9, a10] A = .nx [a0, some (.obj i1), some (.obj i2), some (.str x), some (.str y), some (.int (0 + (k : Int))), b6, b7, b8, b9, b10] (A ++ E) := by
  obtain ⟨v, ev, ev'⟩ := atI_some (xs := ds.map D.int) (i := 2 + (k : Int)) (by first | decide | omega) (by simp; omega)
  obtain ⟨c, rfl⟩ : ∃ c, v = .int c := by
    have := List.mem_of_getElem? ev'
    simp at this
    obtain ⟨c, _, rfl⟩ := this
    exact ⟨c, rfl⟩
  obtain ⟨n, E1, L, e1, hL, hbad, hp, hle⟩ := pick_bad [a0, some (.obj i1), some (.obj i2), some (.str x), some (.str y), some (.int (0 + (k : Int))), some (.int c), some (.bl (c % 5 == 4)), a8, a9, a10] A (eOp dMod (eOp dFdiv (eVar 6) (eC (.int 5))) (eC (.int 3))) (c / 5) (fun G => by simp [dTru, dIx, seqOf, dInt2, dInt2L, dLen, dAdd, dNew, dTup, kindOk, dAppend, dPop, dIsi, tyD, Ty.is])
  obtain ⟨objs, q1, q2, q3⟩ := hL
  obtain ⟨j, hj, hc⟩ := modL (c / 15) L.length hp
  obtain ⟨f, hf⟩ : ∃ f, L[j]? = some f := ⟨L[j], List.getElem?_eq_getElem hj⟩
  obtain ⟨k9, o9, g9⟩ := q3 j f hf
  have eo : atI objs (j : Int) = some (.obj k9) := atI_nat o9
  have hbf := bad_fine f (hbad f (List.mem_of_getElem? hf))
  have hl0 : ¬ (objs.length : Int) = 0 := by omega
  have hc' : c / 15 % (objs.length : Int) = (j : Int) := by rw [q2]; exact hc
  have e1' := e1
  have de := dEq_int false (c % 5) 4 A
  have hpos : 0 < objs.length := by omega
  have hposI : (0 : Int) < (objs.length : Int) := by omega
  have hszI : (objs.length : Int) < 1073741824 := by omega
  have hsz : objs.length < 1073741824 := by omega
  have fin : ∀ (b : Bool) (k' : Nat) (E3 E2 : DH), (c % 5 == 4) = b → (sIf (tTruth dTru (eVar 7)) (sSet 9 (eCall 1 m__law_good (aCons (eOp dFdiv (eVar 6) (eC (.int 5))) (aNil)))) (sSkip)) [a0, some (.obj i1), some (.obj i2), some (.str x), some (.str y), some (.int (0 + (k : Int))), some (.int c), some (.bl b), some (.obj n), some (.obj k9), a10] (A ++ E1) = .nx [a0, some (.obj i1), some (.obj i2), some (.str x), some (.str y), some (.int (0 + (k : Int))), some (.int c), some (.bl b), some (.obj n), some (.obj k'), a10] (A ++ E1 ++ E3) →
      tryS [a0, some (.obj i1), some (.obj i2), some (.str x), some (.str y), some (.int (0 + (k : Int))), some (.int c), some (.bl b), some (.obj n), some (.obj k'), some (.bl false)] (A ++ E1 ++ E3) = .nx [a0, some (.obj i1), some (.obj i2), some (.str x), some (.str y), some (.int (0 + (k : Int))), some (.int c), some (.bl b), some (.obj n), some (.obj k'), some (.bl b)] (A ++ E1 ++ E3 ++ E2) →
      ∃ E b6 b7 b8 b9 b10, L0_law [a0, some (.obj i1), some (.obj i2), some (.str x), some (.str y), some (.int (0 + (k : Int))), a6, a7, a8, a9, a10] A = .nx [a0, some (.obj i1), some (.obj i2), some (.str x), some (.str y), some (.int (0 + (k : Int))), b6, b7, b8, b9, b10] (A ++ E) := by
    intro b k' E3 E2 hb ei e2
    rw [hb] at e1 de
    refine ⟨E1 ++ (E3 ++ E2), some (.int c), some (.bl b), some (.obj n), some (.obj k'), some (.bl b), ?_⟩
    unfold tryS at e2
    simp only [List.append_assoc] at e2 ei
    unfold L0_law
    generalize eOp dIx (eArgs dNew (aCons (eCall 0 m__law_bad_trees aNil) (aCons (eCall 0 m__law_bad_shapes aNil) (aCons (eCall 0 m__law_bad_ways aNil) (aNil))))) (eOp dMod (eOp dFdiv (eVar 6) (eC (.int 5))) (eC (.int 3))) = X1 at e1 ⊢
    generalize sTry _ _ _ = X2 at e2 ⊢
    generalize sIf (tTruth dTru (eVar 7)) _ _ = X3 at ei ⊢
    simp only [Int.zero_add] at e1 e2 ei
    simp [dTru, dIx, seqOf, dInt2, dInt2L, dLen, dAdd, dNew, dTup, kindOk, dAppend, dPop, dIsi, tyD, Ty.is, g1, ev, de, e1, q1, hl0, hc', eo, ei, e2, dEq_bl, hpos, hposI, hsz, hszI]
  cases hb : (c % 5 == 4) with
  | false =>
    obtain ⟨E2, e2⟩ := try_eq (A ++ E1) i1 i2 k9 ds hd (lstOf_app g1) (lstOf_app g2) x y hx hy k hk f g9 false hbf.1 hbf.2 a0 (some (.int c)) (some (.bl false)) (some (.obj n))
    exact fin false k9 [] E2 hb (by simp [dTru, dIx, seqOf, dInt2, dInt2L, dLen, dAdd, dNew, dTup, kindOk, dAppend, dPop, dIsi, tyD, Ty.is]) (by simpa using e2)
  | true =>
    obtain ⟨k10, E3, f', eg, hg, g10⟩ := good_eq (c / 5) (A ++ E1)
    have hgf := good_fine f' hg
    obtain ⟨E2, e2⟩ := try_eq (A ++ E1 ++ E3) i1 i2 k10 ds hd (lstOf_app (lstOf_app g1)) (lstOf_app (lstOf_app g2)) x y hx hy k hk f' g10 true hgf.1 hgf.2 a0 (some (.int c)) (some (.bl true)) (some (.obj n))
    simp only [List.append_assoc] at eg
    exact fin true k10 E3 E2 hb (by simp [dTru, dIx, seqOf, dInt2, dInt2L, dLen, dAdd, dNew, dTup, kindOk, dAppend, dPop, dIsi, tyD, Ty.is, eg]) e2
theorem turns_eq (ds : List Int) (hd : ds.length = 20) (i1 i2 : Nat) (x y : Str) (hx : Nm x) (hy : Nm y) (a0 : Option D) : ∀ (m j : Nat) (A : DH) (a5 a6 a7 a8 a9 a10 : Option D), j + m = 6 → A[i1]? = some (.lst (ds.map .int)) → A[i2]? = some (.lst (words.map .str)) →
    ∃ τ E, forP (gN 5) L0_law ((List.range' j m).map fun (k : Nat) => .int (0 + (k : Int))) [a0, some (.obj i1), some (.obj i2), some (.str x), some (.str y), a5, a6, a7, a8, a9, a10] A = .nx τ (A ++ E)
  | 0, j, A, a5, a6, a7, a8, a9, a10, h, g1, g2 => ⟨[a0, some (.obj i1), some (.obj i2), some (.str x), some (.str y), a5, a6, a7, a8, a9, a10], [], by simp [forP]⟩
  | m + 1, j, A, a5, a6, a7, a8, a9, a10, h, g1, g2 => by
    obtain ⟨E, b6, b7, b8, b9, b10, e⟩ := turn_eq A i1 i2 ds hd g1 g2 x y hx hy j (by first | decide | omega) a0 a6 a7 a8 a9 a10
    obtain ⟨τ, E2, ih⟩ := turns_eq ds hd i1 i2 x y hx hy a0 m (j + 1) (A ++ E) (some (.int (0 + (j : Int)))) b6 b7 b8 b9 b10 (by first | decide | omega) (lstOf_app g1) (lstOf_app g2)
    refine ⟨τ, E ++ E2, ?_⟩
    rw [List.range'_succ, List.map_cons, forP_cons rfl]
    simp only [List.set_cons_succ, List.set_cons_zero, e, lp_nx]
    rw [ih, List.append_assoc]
end K16
end
section
set_option Elab.async false
set_option linter.all false
set_option maxRecDepth 100000
set_option maxHeartbeats 4000000
namespace K16
open PySem PySem.Spec L2 L3
theorem draw_turn (ns pre : List Int) (G : DH) (k : Nat) (m : Int) (c : Option D) (hl : ns.length ≤ 63) (hp : pre.length ≤ 1000) :
    ∃ (x : Int) (c' : Option D), L0__law_draws [some (.con (ns.map .int)), some (.int m), some (.obj G.length), some (.int (0 + (k : Int))), c] (G ++ [.lst (pre.map .int)]) =
      .nx [some (.con (ns.map .int)), some (.int m), some (.obj G.length), some (.int (0 + (k : Int))), c'] (G ++ [.lst ((pre ++ [x]).map .int)]) := by
  have hpz : pre.length < sizeLine := Nat.lt_of_lt_of_le (by first | decide | omega) (lz (n := 2000) (by first | decide | omega))
  by_cases h0 : 0 < ns.length
  · have hm : (0 : Int) ≤ (k : Int) % (ns.length : Int) ∧ (k : Int) % (ns.length : Int) < ns.length := ⟨Int.emod_nonneg _ (by first | decide | omega), Int.emod_lt_of_pos _ (by first | decide | omega)⟩
    obtain ⟨d, ed, ed'⟩ := atI_some (xs := ns.map D.int) (i := (k : Int) % (ns.length : Int)) hm.1 (by simpa using hm.2)
    obtain ⟨v, ev⟩ : ∃ v, d = .int v := by
      have := List.mem_of_getElem? ed'
      simp at this
      obtain ⟨v, _, rfl⟩ := this
      exact ⟨v, rfl⟩
    subst ev
    have hmx : (if 1 < ns.length then (ns.length : Int) else 1) = ns.length := by split <;> omega
    have hlt : ns.length < 1073741824 := by omega
    have hmxI : (if (1 : Int) < (ns.length : Int) then (ns.length : Int) else 1) = ns.length := by split <;> omega
    have hltI : (ns.length : Int) < 1073741824 := by omega
    have h0I : (0 : Int) < (ns.length : Int) := by omega
    refine ⟨v % 1000000000000000000 + 7919 * ((k : Int) / (ns.length : Int)), some (.int (v % 1000000000000000000)), ?_⟩
    simp [dTru, dIx, seqOf, dInt2, dInt2L, dLen, dAdd, dNew, dTup, kindOk, dAppend, dPop, dIsi, tyD, Ty.is, L0__law_draws, h0, ed, hmx, hlt, hpz, hmxI, hltI, h0I]
  · have h1 : ns = [] := by
      cases ns with
      | nil => rfl
      | cons a r => exact absurd (by simp) h0
    subst h1
    refine ⟨0 + 7919 * ((k : Int) / 1), some (.int 0), ?_⟩
    simp [dTru, dIx, seqOf, dInt2, dInt2L, dLen, dAdd, dNew, dTup, kindOk, dAppend, dPop, dIsi, tyD, Ty.is, L0__law_draws, hpz]
theorem draws_loop (ns : List Int) (G : DH) (mm : Int) (hl : ns.length ≤ 63) : ∀ (m j : Nat) (pre : List Int) (a3 a4 : Option D), pre.length + m ≤ 1000 →
    ∃ (ds : List Int) (b3 b4 : Option D), ds.length = m ∧ forP (gN 3) L0__law_draws ((List.range' j m).map fun (k : Nat) => .int (0 + (k : Int))) [some (.con (ns.map .int)), some (.int mm), some (.obj G.length), a3, a4] (G ++ [.lst (pre.map .int)]) =
      .nx [some (.con (ns.map .int)), some (.int mm), some (.obj G.length), b3, b4] (G ++ [.lst ((pre ++ ds).map .int)])
  | 0, j, pre, a3, a4, h => ⟨[], a3, a4, rfl, by simp [forP]⟩
  | m + 1, j, pre, a3, a4, h => by
    obtain ⟨x, c', e⟩ := draw_turn ns pre G j mm a4 hl (by first | decide | omega)
    obtain ⟨ds, b3, b4, hd, ih⟩ := draws_loop ns G mm hl m (j + 1) (pre ++ [x]) (some (.int (0 + (j : Int)))) c' (by simp; omega)
    refine ⟨x :: ds, b3, b4, by simp [hd], ?_⟩
    rw [List.range'_succ, List.map_cons, forP_cons rfl]
    simp only [List.set_cons_succ, List.set_cons_zero, e, lp_nx]
    rw [ih]
    simp
theorem draws_eq (ns : List Int) (G : DH) (m : Nat) (hm : m ≤ 900) (hl : ns.length ≤ 63) : ∃ ds : List Int, ds.length = m ∧ m__law_draws [.con (ns.map .int), .int m] G = .ok (.obj G.length) (G ++ [.lst (ds.map .int)]) := by
  obtain ⟨ds, b3, b4, hd, e⟩ := draws_loop ns G m hl m 0 [] none none (by simp; omega)
  refine ⟨ds, hd, ?_⟩
  have hr := rng1_of (j := (m : Int)) (by first | decide | omega) (by first | decide | omega)
  rw [Int.toNat_natCast] at hr
  generalize ((List.range' 0 m).map fun (k : Nat) => D.int (0 + (k : Int))) = its at hr e
  simp only [List.map_nil, List.nil_append] at e
  simp [dTru, dIx, seqOf, dInt2, dInt2L, dLen, dAdd, dNew, dTup, kindOk, dAppend, dPop, dIsi, tyD, Ty.is, m__law_draws, b__law_draws, hr, e]
theorem law_true (ns : List Int) (hl : ns.length ≤ 63) : ∃ G, m_law [.con (ns.map .int)] [] = .ok (.bl true) G := by
  obtain ⟨ds, hd, e1⟩ := draws_eq ns [] 20 (by first | decide | omega) hl
  obtain ⟨v0, ev0, ev0'⟩ := atI_some (xs := ds.map D.int) (i := 0) (by first | decide | omega) (by simp; omega)
  obtain ⟨v1, ev1, ev1'⟩ := atI_some (xs := ds.map D.int) (i := 1) (by first | decide | omega) (by simp; omega)
  obtain ⟨c0, rfl⟩ : ∃ c, v0 = .int c := by
    have := List.mem_of_getElem? ev0'
    simp at this
    obtain ⟨c, _, rfl⟩ := this
    exact ⟨c, rfl⟩
  obtain ⟨c1, rfl⟩ : ∃ c, v1 = .int c := by
    have := List.mem_of_getElem? ev1'
    simp at this
    obtain ⟨c, _, rfl⟩ := this
    exact ⟨c, rfl⟩
  have z12 : (12 : Nat) ≤ sizeLine := lz (by first | decide | omega)
  obtain ⟨x, E1, ex, nx, ox, lx⟩ := name_eq c0 [.lst (ds.map .int), .lst (words.map .str)]
  obtain ⟨y, E2, ey, ny, oy, ly⟩ := name_eq c1 ([.lst (ds.map .int), .lst (words.map .str)] ++ E1)
  obtain ⟨τ, E3, et⟩ := turns_eq ds hd 0 1 x y ⟨nx, ox, lx⟩ ⟨ny, oy, ly⟩ (some (.con (ns.map .int))) 6 0 ([.lst (ds.map .int), .lst (words.map .str)] ++ E1 ++ E2) none none none none none none (by first | decide | omega) rfl rfl
  refine ⟨.lst (ds.map .int) :: .lst (words.map .str) :: (E1 ++ (E2 ++ E3)), ?_⟩
  have hr6 := rng1_of (j := 6) (by first | decide | omega) (by first | decide | omega)
  simp only [show (6 : Int).toNat = 6 from rfl] at hr6
  generalize ((List.range' 0 6).map fun (k : Nat) => D.int (0 + (k : Int))) = its at hr6 et
  simp only [List.nil_append, List.length_nil, List.map_nil] at e1
  simp only [show ((20 : Nat) : Int) = 20 from rfl] at e1
  simp only [words, List.map_cons, List.map_nil, List.cons_append, List.nil_append, List.append_assoc] at ex ey et ⊢
  simp [dTru, dIx, seqOf, dInt2, dInt2L, dLen, dAdd, dNew, dTup, kindOk, dAppend, dPop, dIsi, tyD, Ty.is, m_law, b_law, e1, z12, ev0, ev1, ex, ey, hr6, et]
end K16
end
section
set_option Elab.async false
set_option linter.all false
set_option maxRecDepth 100000
set_option maxHeartbeats 4000000
namespace K16
open PySem PySem.Spec L2 L3
theorem walk {l : PySem.W.OpenLaw} {qq : Program} {loose : List Str} {XP : (Str → Option Value) → Heap → Prop} {YP : World → Heap → Prop} {d : DefRec} {K : Params → PySem.W.Frag} (hn : l.most = some 63) (hdf : d.params.defaults = [])
    (hY : ∀ (w : World) (h : Heap), YP w h → (K w.params).In h)
    (F : ∀ (w : World) (mg : Str → Option Value) (fa : Addr) (h : Heap), (K w.params).In h → h.Ns mainGlobals mg → mg d.name = some (.ref fa) → ∃ t, Txt (K w.params) mg t ∧ (t.f 28) = fa ∧ ∀ (s : Shared) (u : Value), BindsTo s (t.d 28) ⟨[u], []⟩ [("_law_script", u)]) :
    PySem.W.WalkO qq loose XP YP l.row.toRowW d [] (fun f vs => PySem.call f vs) :=
  L2.walk_of (n := 63) (k := 8) (x := "_law_script") (CX := fun w => CX1 l.prog w) (sp := fun w => spLaw (K w.params)) hn (by decide) hdf ⟨rfl, by decide, by decide⟩ hY (fun w mg fa h KX G hm => by
    obtain ⟨t, T, rfl, hb⟩ := F w mg fa h KX G hm
    exact ⟨(t.d 28), hb, fun base _ _ => (law_ok T).imp (spLaw_of law_true)⟩) (fun _ _ a ns hl hO hS => ⟨a, ns, rfl, sqC_of hO hS, hl, fun _ => rfl⟩) fun _ _ _ _ _ ⟨_, _, _, _, _, _, _, _, z⟩ => z
end K16
end
open PySem PySem.W PyProof.Rows
set_option maxRecDepth 100000 in
set_option maxHeartbeats 0 in
theorem PySem.Challenge.cw_pathshape_k16_bad_forms_holds : PySem.Challenge.rw_pathshape_k16_bad_forms.Holds := by
  w_on; o_law; k_head; (case hw => w_witness2)
  k_fill
  refine K16.walk (l := PySem.Challenge.rw_pathshape_k16_bad_forms) rfl rfl (fun w h Y => PySem.W.kIn_of Y) ?F
  case F =>
    intro w mg fa h KX G hmg
    have T : ∃ t, K16.Txt (L2.KOf KX) mg t ∧ ∃ kV dc pm an cd ct, (t.d 28) = PySem.W.fnOf "law" "law" (L2.defArgs K16.s_law) (L2.defBody K16.s_law) (L2.defScope K16.s_law) .none kV dc pm an cd ct := by
      dsimp only [L2.KOf]
      refine' K16.txt_mk KX G ?my_a0 ?my_l0 ?my_c0 ?my_k0 ?my_a1 ?my_l1 ?my_c1 ?my_k1 ?my_a2 ?my_l2 ?my_c2 ?my_k2 ?my_a3 ?my_l3 ?my_c3 ?my_k3 ?my_a4 ?my_l4 ?my_c4 ?my_k4 ?my_a5 ?my_l5 ?my_c5 ?my_k5 ?my_a6 ?my_l6 ?my_c6 ?my_k6 ?my_a7 ?my_l7 ?my_c7 ?my_k7 ?my_a8 ?my_l8 ?my_c8 ?my_k8 ?my_a9 ?my_l9 ?my_c9 ?my_k9 ?my_a10 ?my_l10 ?my_c10 ?my_k10 ?my_a11 ?my_l11 ?my_c11 ?my_k11 ?my_a12 ?my_l12 ?my_c12 ?my_k12 ?my_a13 ?my_l13 ?my_c13 ?my_k13 ?my_a14 ?my_l14 ?my_c14 ?my_k14 ?my_a15 ?my_l15 ?my_c15 ?my_k15 ?my_a16 ?my_l16 ?my_c16 ?my_k16 ?my_a17 ?my_l17 ?my_c17 ?my_k17 ?my_a18 ?my_l18 ?my_c18 ?my_k18 ?my_a19 ?my_l19 ?my_c19 ?my_k19 ?my_a20 ?my_l20 ?my_c20 ?my_k20 ?my_a21 ?my_l21 ?my_c21 ?my_k21 ?my_a22 ?my_l22 ?my_c22 ?my_k22 ?my_a23 ?my_l23 ?my_c23 ?my_k23 ?my_a24 ?my_l24 ?my_c24 ?my_k24 ?my_a25 ?my_l25 ?my_c25 ?my_k25 ?my_a26 ?my_l26 ?my_c26 ?my_k26 ?my_a27 ?my_l27 ?my_c27 ?my_k27 ?my_a28 ?my_l28 ?my_c28 ?my_k28 ?my_z0 ?my_z1 ?my_z2 ?my_z3 ?my_z4 ?my_z5 ?my_z6 ?my_g0 ?my_gl0 ?my_gv0 ?my_g1 ?my_gl1 ?my_gv1 ?my_g2 ?my_gl2 ?my_gv2 ?my_g3 ?my_g4 ?my_g5 ?my_gl5 ?my_gv5 ?my_cm0 ?my_ce0 ?my_cm1 ?my_ce1 ?my_cx0 ?my_cx1
      (case my_a0 => k_is)
      (case my_l0 => k_is)
      (case my_c0 => k_is)
      (case my_k0 => k_is)
      (case my_a1 => k_is)
      (case my_l1 => k_is)
      (case my_c1 => k_is)
      (case my_k1 => k_is)
      (case my_a2 => k_is)
      (case my_l2 => k_is)
      (case my_c2 => k_is)
      (case my_k2 => k_is)
      (case my_a3 => k_is)
      (case my_l3 => k_is)
      (case my_c3 => k_is)
      (case my_k3 => k_is)
      (case my_a4 => k_is)
      (case my_l4 => k_is)
      (case my_c4 => k_is)
      (case my_k4 => k_is)
      (case my_a5 => k_is)
      (case my_l5 => k_is)
      (case my_c5 => k_is)
      (case my_k5 => k_is)
      (case my_a6 => k_is)
      (case my_l6 => k_is)
      (case my_c6 => k_is)
      (case my_k6 => k_is)
      (case my_a7 => k_is)
      (case my_l7 => k_is)
      (case my_c7 => k_is)
      (case my_k7 => k_is)
      (case my_a8 => k_is)
      (case my_l8 => k_is)
      (case my_c8 => k_is)
      (case my_k8 => k_is)
      (case my_a9 => k_is)
      (case my_l9 => k_is)
      (case my_c9 => k_is)
      (case my_k9 => k_is)
      (case my_a10 => k_is)
      (case my_l10 => k_is)
      (case my_c10 => k_is)
      (case my_k10 => k_is)
      (case my_a11 => k_is)
      (case my_l11 => k_is)
      (case my_c11 => k_is)
      (case my_k11 => k_is)
      (case my_a12 => k_is)
      (case my_l12 => k_is)
      (case my_c12 => k_is)
      (case my_k12 => k_is)
      (case my_a13 => k_is)
      (case my_l13 => k_is)
      (case my_c13 => k_is)
      (case my_k13 => k_is)
      (case my_a14 => k_is)
      (case my_l14 => k_is)
      (case my_c14 => k_is)
      (case my_k14 => k_is)
      (case my_a15 => k_is)
      (case my_l15 => k_is)
      (case my_c15 => k_is)
      (case my_k15 => k_is)
      (case my_a16 => k_is)
      (case my_l16 => k_is)
      (case my_c16 => k_is)
      (case my_k16 => k_is)
      (case my_a17 => k_is)
      (case my_l17 => k_is)
      (case my_c17 => k_is)
      (case my_k17 => k_is)
      (case my_a18 => k_is)
      (case my_l18 => k_is)
      (case my_c18 => k_is)
      (case my_k18 => k_is)
      (case my_a19 => k_is)
      (case my_l19 => k_is)
      (case my_c19 => k_is)
      (case my_k19 => k_is)
      (case my_a20 => k_is)
      (case my_l20 => k_is)
      (case my_c20 => k_is)
      (case my_k20 => k_is)
      (case my_a21 => k_is)
      (case my_l21 => k_is)
      (case my_c21 => k_is)
      (case my_k21 => k_is)
      (case my_a22 => k_is)
      (case my_l22 => k_is)
      (case my_c22 => k_is)
      (case my_k22 => k_is)
      (case my_a23 => k_is)
      (case my_l23 => k_is)
      (case my_c23 => k_is)
      (case my_k23 => k_is)
      (case my_a24 => k_is)
      (case my_l24 => k_is)
      (case my_c24 => k_is)
      (case my_k24 => k_is)
      (case my_a25 => k_is)
      (case my_l25 => k_is)
      (case my_c25 => k_is)
      (case my_k25 => k_is)
      (case my_a26 => k_is)
      (case my_l26 => k_is)
      (case my_c26 => k_is)
      (case my_k26 => k_is)
      (case my_a27 => k_is)
      (case my_l27 => k_is)
      (case my_c27 => k_is)
      (case my_k27 => k_is)
      (case my_a28 => k_is)
      (case my_l28 => k_is)
      (case my_c28 => k_is)
      (case my_k28 => k_is)
      (case my_z0 => k_is)
      (case my_z1 => k_is)
      (case my_z2 => k_is)
      (case my_z3 => k_is)
      (case my_z4 => k_is)
      (case my_z5 => k_is)
      (case my_z6 => k_is)
      (case my_g0 => k_is)
      (case my_gl0 => k_is)
      (case my_gv0 => exact .cons ⟨_, rfl⟩ (.cons ⟨_, rfl⟩ (.cons ⟨_, rfl⟩ (.nil))))
      (case my_g1 => k_is)
      (case my_gl1 => k_is)
      (case my_gv1 => exact .cons ⟨_, rfl⟩ (.cons ⟨_, rfl⟩ (.cons ⟨_, rfl⟩ (.nil))))
      (case my_g2 => k_is)
      (case my_gl2 => k_is)
      (case my_gv2 => exact .cons ⟨_, rfl⟩ (.cons ⟨_, rfl⟩ (.cons ⟨_, rfl⟩ (.cons ⟨_, rfl⟩ (.cons ⟨_, rfl⟩ (.cons ⟨_, rfl⟩ (.cons ⟨_, rfl⟩ (.cons ⟨_, rfl⟩ (.cons ⟨_, rfl⟩ (.cons ⟨_, rfl⟩ (.cons ⟨_, rfl⟩ (.cons ⟨_, rfl⟩ (.nil)))))))))))))
      (case my_g3 => k_is)
      (case my_g4 => k_is)
      (case my_g5 => k_is)
      (case my_gl5 => k_is)
      (case my_gv5 => exact .cons ⟨_, rfl⟩ (.cons ⟨_, rfl⟩ (.nil)))
      (case my_cm0 => k_is)
      (case my_ce0 => k_exc)
      (case my_cm1 => k_is)
      (case my_ce1 => k_exc)
      (case my_cx0 => kts_exm)
      (case my_cx1 => kts_exm)
    obtain ⟨t, T, kV, dc, pm, an, cd, ct, e⟩ := T
    have e0 := hmg.symm.trans T.M_law
    cases e0
    exact ⟨t, T, rfl, fun s u => by rw [e]; exact .of_eq rfl⟩
