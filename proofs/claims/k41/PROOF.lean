import PyProof.Rows.All
import Wide.All
import OpenK.AllK
import Wide.FinOn
import Lean
import PyProof.EqAt
import PyProof.EqKinds
import PyProof.TupleCall
import PyProof.StrWalks
import KE.KTryMore
import PyProof.ZipIter
import PyProof.Rows.Range3
import PyProof.Draws
import PyProof.WalksMore
import PyProof.ExcBaseAll.ValueError
import PyProof.StrReplace2
import PyProof.FactsAll.range_2
import KE.KRevIter
import KE.KNest
import PySem.Challenge.RW_pathshape_k41_tables
set_option Elab.async false
set_option linter.all false
set_option maxRecDepth 100000
set_option maxHeartbeats 4000000
set_option genSizeOf false
set_option genInjectivity false
local macro_rules
 | `(tactic| nofun)=>`(tactic| first | decide | omega)
local macro_rules
 | `(tactic| symm)=>`(tactic| decide +kernel)
namespace L2
open PySem PySem.Spec PyProof.Rows
variable {pins pl mS:List (Addr×Obj)} {K:PySem.W.Frag} {s s':Shared} {A:Around} {P:Program} {mg mA:Str→Option Value} {u:Value} {x:Str} {w:World} {us its:List Value} {h base:Heap} {b a C it dx:Addr} {t' i n tk j:Nat} {Q E:Value→Shared→Prop} {fp ch:List Addr} {kw:List (Str×Value)} {fd:FuncData} {g:Int→Int→Int} {op op':CmpOp} {body:List Stmt} {tg e c iter:Expr} {outer:List Env} {es:List Expr} {f:Value→Value→Sem Value} {g':Array GenState} {vs:Array Value} {p:Addr×Obj} {N:List Str} {sc:Scope} {β α:Type} {k':Bool} {pos' pos:Pos} {lo hi:Int}
noncomputable abbrev Key:=Sum Int Str
noncomputable def Bo:Key→Value→Bool
  | .inl k,v=>Value.isInt k v
  | .inr x,v=>Value.isStrOf x v
noncomputable def Xi (w:World):Key→Int
  | .inl k=>hashInt k
  | .inr x=>hashStr w x
theorem gm:∀ {k:Key} {v:Value},Bo k v=true→(∃ i t,k=Sum.inl i∧v=Value.int i t)∨(∃ x t,k=Sum.inr x∧v=Value.str x t)
  | .inl i,v,h=>by
    obtain ⟨t,e⟩:=Value.isInt_shape (k:=i) (v:=v) h
    exact .inl ⟨i,t,rfl,e⟩
  | .inr x,v,h=>by
    obtain ⟨t,e⟩:=Value.isStrOf_shape (x:=x) (v:=v) h
    exact .inr ⟨x,t,rfl,e⟩
theorem Iq (i:Int) (t:Tok):Bo (.inl i) (.int i t)=true:=by simp [Bo,Value.isInt]
theorem Ir (x:Str) (t:Tok):Bo (.inr x) (.str x t)=true:=by simp [Bo,Value.isStrOf]
theorem PF (a b:Int):decide ((Sum.inl a:Key)=Sum.inl b)=(a==b):=by
  by_cases e:a=b
  · subst e;simp
  · have h:¬ (Sum.inl a:Key)=Sum.inl b:=λq=>e (Sum.inl.inj q)
    rw [decide_eq_false h]
    exact (beq_eq_false_iff_ne.mpr e).symm
theorem PJ (a b:Str):decide ((Sum.inr a:Key)=Sum.inr b)=decide (a=b):=by
  by_cases e:a=b
  · subst e;simp
  · have h:¬ (Sum.inr a:Key)=Sum.inr b:=λq=>e (Sum.inr.inj q)
    rw [decide_eq_false h,decide_eq_false e]
theorem PK (a:Int) (b:Str):decide ((Sum.inl a:Key)=Sum.inr b)=false:=decide_eq_false (λq=>nomatch q)
theorem PL (a:Str) (b:Int):decide ((Sum.inr a:Key)=Sum.inl b)=false:=decide_eq_false (λq=>nomatch q)
noncomputable def gE (prog:Program) (w:World):PySem.KeyKind prog w Key where
  is:=Bo
  hash:=Xi w
  inj:=λv a b ha hb=>by
    rcases gm ha with ⟨i,t,rfl,rfl⟩ | ⟨x,t,rfl,rfl⟩
    · rcases gm hb with ⟨j,u,rfl,e⟩ | ⟨y,u,rfl,e⟩
      · injection e with e1 _;rw [e1]
      · exact nomatch e
    · rcases gm hb with ⟨j,u,rfl,e⟩ | ⟨y,u,rfl,e⟩
      · exact nomatch e
      · injection e with e1 _;rw [e1]
  byValue:=λk v h=>by
    rcases gm h with ⟨i,t,rfl,rfl⟩ | ⟨x,t,rfl,rfl⟩<;>rfl
  pyHash:=λhv h=>by
    rcases gm hv with ⟨i,t,rfl,rfl⟩ | ⟨x,t,rfl,rfl⟩
    · exact wpAny_pyHash_int h
    · exact wpAny_pyHash_str h
  eqBool:=λhu hv h=>by
    rcases gm hu with ⟨i,t,rfl,rfl⟩ | ⟨x,t,rfl,rfl⟩
    · rcases gm hv with ⟨j,u,rfl,rfl⟩ | ⟨y,u,rfl,rfl⟩
      · rw [PF] at h;exact wpAny_eqBool_int h
      · rw [PK] at h;exact SeqAt.EqAt.int_str i t y u _ _ _ _ h
    · rcases gm hv with ⟨j,u,rfl,rfl⟩ | ⟨y,u,rfl,rfl⟩
      · rw [PL] at h;exact SeqAt.EqAt.str_int x t j u _ _ _ _ h
      · rw [PJ] at h;exact wpAny_eqBool_str h
  «strs»:=λk x t v h=>by
    rcases gm h with ⟨i,u,rfl,e⟩ | ⟨y,u,rfl,e⟩
    · exact nomatch e
    · injection e with e1 _
      subst e1
      cases v<;>rfl
theorem Dq (prog:Program) (w:World) (i:Int) (t:Tok):(gE prog w).is (.inl i) (.int i t)=true:=Iq i t
theorem Dr (prog:Program) (w:World) (x:Str) (t:Tok):(gE prog w).is (.inr x) (.str x t)=true:=Ir x t
inductive V where
  | i9 | bl (b:Bool) | int (i:Int) | str (x:Str) | SX (b:Array UInt8) | SY (b:UInt64) | ref (a:Addr) | ty (n:String)
  deriving DecidableEq
variable {v y:V} {xs:List V}
noncomputable def RelV:V→Value→Prop
  | .i9,u=>u=Value.none
  | .bl b,u=>u=Value.bool b
  | .int i,u=>∃ t,u=Value.int i t
  | .str x,u=>∃ t,u=Value.str x t
  | .SX b,u=>∃ t,u=Value.bytes b t
  | .SY b,u=>∃ t,u=Value.float b t
  | .ref a,u=>u=Value.ref a
  | .ty n,u=>u=Value.type n
noncomputable abbrev Vals:List V→List Value→Prop:=Paired RelV
theorem Vals.length (r:Vals xs us):xs.length=us.length:=Paired.length r
theorem Vals.get:∀ {xs:List V} {us:List Value} {i:Nat} {x:V},Vals xs us→xs[i]?=some x→∃ u,us[i]?=some u∧RelV x u
  | _,_,_,_,.nil,e=>by simp at e
  | _,_,0,_,.cons r _,e=>by simp at e;subst e;exact ⟨_,rfl,r⟩
  | _,_,i+1,x,.cons _ t,e=>by
    obtain ⟨u,h1,h2⟩:=Vals.get (i:=i) (x:=x) t (by simpa using e)
    exact ⟨u,by simpa using h1,h2⟩
theorem Vals.append:∀ {xs ys:List V} {us ws:List Value},Vals xs us→Vals ys ws→Vals (xs++ys) (us++ws)
  | _,_,_,_,.nil,s=>s
  | _,_,_,_,.cons r t,s=>.cons r (Vals.append t s)
theorem Vals.take:∀ {xs:List V} {us:List Value} (n:Nat),Vals xs us→Vals (xs.take n) (us.take n)
  | _,_,0,_=>.nil
  | _,_,_+1,.nil=>.nil
  | _,_,n+1,.cons r t=>.cons r (Vals.take n t)
theorem Vals.drop:∀ {xs:List V} {us:List Value} (n:Nat),Vals xs us→Vals (xs.drop n) (us.drop n)
  | _,_,0,r=>r
  | _,_,_+1,.nil=>.nil
  | _,_,n+1,.cons _ t=>Vals.drop n t
noncomputable def yC:Option V→Option Value→Prop
  | some v,some u=>RelV v u
  | none,none=>True
  | _,_=>False
noncomputable def KV {κ:Type}:List (κ×V)→List (κ×Value)→Prop:=Paired λ(p:κ×V) (q:κ×Value)=>p.1=q.1∧RelV p.2 q.2
noncomputable def kV:Key→V
  | .inl i=>.int i
  | .inr x=>.str x
inductive HO where
  | lst (xs:List V)
  | tup (xs:List V)
  | dK (kvs:List (Key×V)) | dT (kvs:List (List Key×V))
  | set (S:Int→Bool) (n:Nat)
  | ins (C dx:Addr) (fs:List (Str×V))
  | own (x:Addr)
  | xd (fs:List (Str×V))
  | met (f x:Addr)
  | Iu (lo hi:Int)
  | iU (o:Obj) (u:HO)
  | uX (ps:Array Value)
  | ext (φ:Heap→Prop)
variable {o:HO}
noncomputable abbrev Hp:=Addr→Option HO
variable {H:Hp}
noncomputable def upd (H:Hp) (a:Addr) (o:HO):Hp:=λb=>if b=a then some o else H b
theorem ck:upd H a o a=some o:=by unfold upd;rw [if_pos rfl]
theorem aI (h:b≠a):upd H a o b=H b:=by unfold upd;rw [if_neg h]
theorem kC {u:HO} (h:H a=some o) (h':H b=some u) (d:o≠u):a≠b:=by
  intro e;subst e;rw [h] at h';exact d (Option.some.inj h')
theorem eZ (h:H a=some o) (h':H b=none):a≠b:=by
  intro e;subst e;rw [h] at h';cases h'
section
variable (P:Program) (w:World)
noncomputable def ja (H:Hp) (h:Heap) (a:Addr):HO→Prop
  | .lst xs=>xs.length≤sizeLine∧∃ (its:List Value) (n:Nat),Vals xs its∧h.get? a=some {cls:=.type "list",data:=.seq its.toArray n}
  | .tup xs=>xs.length≤sizeLine∧∃ its:List Value,Vals xs its∧IsTup h a its.toArray
  | .dK kvs=>kvs.length≤sizeLine∧(a==sysModules)=false∧∃ vs,KV kvs vs∧h.DictOf (gE P w) a vs
  | .dT kvs=>kvs.length≤sizeLine∧(a==sysModules)=false∧∃ xs:List (List Key×Addr×Value),
      Paired (λ(p:List Key×V) (q:List Key×Addr×Value)=>p.1=q.1∧H q.2.1=some (.tup (p.1.map kV))∧RelV p.2 q.2.2) kvs xs ∧
      ∃ o es ep,h.get? a=some o∧o.ExactDict∧o.data=.dict es ep∧es.toList=xs.map (entryOfKey (tupleKind (gE P w)))∧(xs.map (·.1)).Nodup
  | .set S n=>h.SetOf (intKind P w) a S n
  | .ins C dx fs=>H dx=some (.own a)∧fs.length≤1000∧dx≠a∧h.get? a=some (PySem.W.instObj C dx) ∧
      ∃ mA,h.Ns1 dx mA∧(∀ f,yC (fs.lookup f) (mA f))∧PySem.Within mA (fs.map (·.1))
  | .own _=>∃ o,h.get? a=some o
  | .xd fs=>∃ mA,h.Ns1 a mA∧∀ f,yC (fs.lookup f) (mA f)
  | .Iu lo hi=>∃ t u v,h.get? a=some {cls:=.type "range",data:=.fields #[.int lo t,.int hi u,.int 1 v]}
  | .iU o u=>h.get? a=some o∧ja H h a u
  | .uX ps=>h.get? a=some {cls:=.none,data:=.fields ps}
  | .met f x=>h.get? a=some (PySem.W.methodObj (.ref f) (.ref x))
  | .ext φ=>φ h∧(∃ o,h.get? a=some o)∧∀ h1 h2:Heap,φ h1→(∀ o,h1.get? a=some o→h2.get? a=some o)→φ h2
noncomputable def pV (H:Hp) (h:Heap):Prop:=∀ a o,H a=some o→ja P w H h a o
end
section
variable {P:Program} {w:World} {H H':Hp} {h h':Heap} {a:Addr} {o:HO}
theorem ja.lt (x:ja P w H h a o):a<h.objs.size:=by
  cases o with
  | lst xs=>obtain ⟨_,_,_,_,e⟩:=x;exact Heap.lt_size e
  | tup xs=>obtain ⟨_,_,_,p⟩:=x;exact p.lt
  | dK kvs=>obtain ⟨_,_,_,_,o,_,_,e,_⟩:=x;exact Heap.lt_size e
  | dT kvs=>obtain ⟨_,_,_,_,o,_,_,e,_⟩:=x;exact Heap.lt_size e
  | set S n=>obtain ⟨o,_,_,_,e,_⟩:=x;exact Heap.lt_size e
  | ins C dx fs=>obtain ⟨_,_,_,e,_⟩:=x;exact Heap.lt_size e
  | own y=>obtain ⟨_,e⟩:=x;exact Heap.lt_size e
  | xd fs=>obtain ⟨_,⟨_,_,_,e,_⟩,_⟩:=x;exact Heap.lt_size e
  | Iu lo hi=>obtain ⟨_,_,_,e⟩:=x;exact Heap.lt_size e
  | iU ob u=>obtain ⟨e,_⟩:=x;exact Heap.lt_size e
  | uX ps=>exact Heap.lt_size (show h.get? a=some _ from x)
  | met f y=>exact Heap.lt_size (show h.get? a=some _ from x)
  | ext φ=>obtain ⟨_,⟨_,e⟩,_⟩:=x;exact Heap.lt_size e
theorem Paired.PM {F G:α→β→Prop}:∀ {l₁:List α} {l₂:List β},Paired F l₁ l₂→(∀ a b,F a b→G a b)→Paired G l₁ l₂
  | _,_,.nil,_=>.nil
  | _,_,.cons r t,f=>.cons (f _ _ r) (Paired.PM t f)
theorem ja.stay (x:ja P w H h a o) (k:∀ b u,(b=a∨H b=some (.own a))→h.get? b=some u→h'.get? b=some u)
    (ho:∀ b,H b=some (.own a)→H' b=some (.own a)) (ht:∀ b xs,H b=some (.tup xs)→H' b=some (.tup xs)):ja P w H' h' a o:=by
  induction o with
  | lst xs=>obtain ⟨z,its,n,r,e⟩:=x;exact ⟨z,its,n,r,k _ _ (.inl rfl) e⟩
  | tup xs=>obtain ⟨z,its,r,ob,e,c⟩:=x;exact ⟨z,its,r,ob,k _ _ (.inl rfl) e,c⟩
  | dK kvs=>obtain ⟨z,y,vs,r,ob,es,ep,e,c⟩:=x;exact ⟨z,y,vs,r,ob,es,ep,k _ _ (.inl rfl) e,c⟩
  | dT kvs=>
    obtain ⟨z,y,xs,r,ob,es,ep,e,c⟩:=x
    exact ⟨z,y,xs,Paired.PM r λp q z=>⟨z.1,ht _ _ z.2.1,z.2.2⟩,ob,es,ep,k _ _ (.inl rfl) e,c⟩
  | set S n=>obtain ⟨ob,es,ep,t,e,c⟩:=x;exact ⟨ob,es,ep,t,k _ _ (.inl rfl) e,c⟩
  | ins C dx fs=>
    obtain ⟨d,z,ne,e,mA,⟨od,es,ep,e2,c⟩,r⟩:=x
    exact ⟨ho _ d,z,ne,k _ _ (.inl rfl) e,mA,⟨od,es,ep,k _ _ (.inr d) e2,c⟩,r⟩
  | own y=>obtain ⟨ob,e⟩:=x;exact ⟨ob,k _ _ (.inl rfl) e⟩
  | xd fs=>obtain ⟨mA,⟨od,es,ep,e,c⟩,r⟩:=x;exact ⟨mA,⟨od,es,ep,k _ _ (.inl rfl) e,c⟩,r⟩
  | Iu lo hi=>obtain ⟨t,u,v,e⟩:=x;exact ⟨t,u,v,k _ _ (.inl rfl) e⟩
  | iU ob u ih=>obtain ⟨e,q⟩:=x;exact ⟨k _ _ (.inl rfl) e,ih q⟩
  | uX ps=>
    have e:h.get? a=some {cls:=.none,data:=.fields ps}:=x
    show h'.get? a=some {cls:=.none,data:=.fields ps}
    exact k a _ (.inl rfl) e
  | met f y=>
    have e:h.get? a=some (PySem.W.methodObj (.ref f) (.ref y)):=x
    show h'.get? a=some (PySem.W.methodObj (.ref f) (.ref y))
    exact k a _ (.inl rfl) e
  | ext φ=>obtain ⟨p,⟨o,e⟩,st⟩:=x;exact ⟨st _ _ p λo q=>k _ _ (.inl rfl) q,⟨o,k _ _ (.inl rfl) e⟩,st⟩
theorem pV.lt (x:pV P w H h) (e:H a=some o):a<h.objs.size:=(x a o e).lt
theorem pV.fresh (x:pV P w H h) (e:h.objs.size≤a):H a=none:=by
  cases q:H a with
  | none=>rfl
  | some u=>exact absurd (Nat.lt_of_lt_of_le (x.lt q) e) (Nat.lt_irrefl _)
theorem pV.kept (x:pV P w H h) (k:∀ b u,h.get? b=some u→h'.get? b=some u):pV P w H h':=λa o e=>
  (x a o e).stay (λb u _ q=>k b u q) (λ_ q=>q) λ_ _ q=>q
theorem pV.laid (x:pV P w H h) (k:∀ b u,h.get? b=some u→h'.get? b=some u) (hp:h.objs.size≤a) (new:ja P w (upd H a o) h' a o):pV P w (upd H a o) h':=λb u e=>by
  have hn:=x.fresh hp
  by_cases hb:b=a
  · subst hb;rw [ck] at e;cases e;exact new
  · rw [aI hb] at e
    exact (x b u e).stay (λc v _ q=>k c v q) (λc q=>by rw [aI (eZ q hn)];exact q) λc xs q=>by rw [aI (eZ q hn)];exact q
end
noncomputable def Rd (H:Hp) (a:Addr) (u:HO):Prop:=H a=some u∨∃ o,H a=some (.iU o u)
theorem Rd.of {u:HO} (h:H a=some u):Rd H a u:=.inl h
theorem Rd.ok {u:HO} (r:Rd H a u) (x:pV P w H h):ja P w H h a u:=by
  rcases r with r | ⟨o,r⟩
  · exact x a u r
  · obtain ⟨_,q⟩:=x a _ r
    exact q
noncomputable def S5:Option HO→Prop
  | some (.lst _)=>True
  | some (.dK _)=>True
  | some (.dT _)=>True
  | some (.set _ _)=>True
  | some (.ins _ _ _)=>True
  | some (.ext _)=>True
  | _=>False
section
variable {P:Program} {w:World} {H:Hp} {h h':Heap} {x e:Addr} {o':HO}
theorem pV.write (ok:pV P w H h) (mu:S5 (H x)) (he:e=x∨H e=some (.own x)) (k:∀ b u,b≠e→h.get? b=some u→h'.get? b=some u) (Su:∃ u,h'.get? e=some u)
    (new:ja P w (upd H x o') h' x o'):pV P w (upd H x o') h':=λb u q=>by
  have S6:∀ c y,H c=some (.own y)→c≠x:=λc y r z=>by subst z;rw [r] at mu;exact mu
  have Xj:∀ c xs,H c=some (.tup xs)→c≠x:=λc xs r z=>by subst z;rw [r] at mu;exact mu
  by_cases hb:b=x
  · subst hb;rw [ck] at q;cases q;exact new
  · rw [aI hb] at q
    by_cases MF:b=e
    · have q':H b=some (.own x):=by
        rcases he with z | z
        · exact absurd (MF.trans z) hb
        · rw [MF];exact z
      rw [q] at q';cases q'
      obtain ⟨v,hv⟩:=Su
      exact ⟨v,by rw [MF];exact hv⟩
    · refine (ok b u q).stay (λc v hc r=>k c v ?_ r) (λc r=>by rw [aI (S6 c b r)];exact r) λc xs r=>by rw [aI (Xj c xs r)];exact r
      rcases hc with rfl | hc
      · exact MF
      · rintro rfl
        rcases he with z | z
        · exact S6 c b hc z
        · rw [hc] at z;cases z;exact hb rfl
end
structure Un (fs ex:List Addr) (H H':Hp) (h h':Heap):Prop where
  keep:∀ b o,h.get? b=some o→H b=none→b∉fs→b∉ex→h'.get? b=some o
  slot:∀ b o,h.get? b=some o→H b=none→b∈fs→b∉ex→∃ sl,h'.get? b=some {o with slots:=sl}
  free:∀ b o,h.get? b=some o→H b=none→b∉ex→H' b=none
  there:∀ b o,h.get? b=some o→b∉ex→∃ o',h'.get? b=some o'
  tups:∀ b xs,H b=some (.tup xs)→H' b=some (.tup xs)
  rF:∀ b o u,H b=some (.iU o u)→H' b=some (.iU o u)
  tG:∀ b ps,H b=some (.uX ps)→∃ more,H' b=some (.uX (ps++more))
section
variable {fs fs' ex ex':List Addr} {H H1 H2:Hp} {h h1 h2 h':Heap} {a x e:Addr} {o:HO}
theorem Un.any (u:Un fs ex H H1 h h1) {b:Addr} {ob:Obj} (q:h.get? b=some ob) (n:H b=none) (hx:b∉ex):∃ sl,h1.get? b=some {ob with slots:=sl}:=by
  by_cases hb:b∈fs
  · exact u.slot b ob q n hb hx
  · exact ⟨ob.slots,u.keep b ob q n hb hx⟩
theorem Un.kept (k:∀ b u,h.get? b=some u→h'.get? b=some u):Un fs ex H H h h':=
  ⟨λb ob q _ _ _=>k b ob q,λb ob q _ _ _=>⟨ob.slots,k b ob q⟩,λ_ _ _ n _=>n,λb ob q _=>⟨ob,k b ob q⟩,λ_ _ q=>q,λ_ _ _ q=>q,λ_ ps q=>⟨#[],by rw [q];simp⟩⟩
theorem Un.refl:Un fs ex H H h h:=Un.kept λ_ _ q=>q
theorem Un.laid (k:∀ b u,h.get? b=some u→h'.get? b=some u) (hp:h.objs.size≤a) (hn:H a=none):Un fs ex H (upd H a o) h h' where
  keep:=λb u q _ _ _=>k b u q
  slot:=λb u q _ _ _=>⟨u.slots,k b u q⟩
  free:=λb u q n _=>by rw [aI (Nat.ne_of_lt (Nat.lt_of_lt_of_le (Heap.lt_size q) hp))];exact n
  there:=λb u q _=>⟨u,k b u q⟩
  tups:=λb xs q=>by rw [aI (eZ q hn)];exact q
  rF:=λb u xs q=>by rw [aI (eZ q hn)];exact q
  tG:=λb ps q=>⟨#[],by rw [aI (eZ q hn),q];simp⟩
theorem Un.write (mu:S5 (H x)) (he:e=x∨H e=some (.own x)) (k:∀ b u,b≠e→h.get? b=some u→h'.get? b=some u) (Su:∃ u,h'.get? e=some u):Un fs ex H (upd H x o) h h':=by
  have hx:∀ b,H b=none→b≠x:=λb n z=>by subst z;rw [n] at mu;exact mu
  have hb:∀ b,H b=none→b≠e:=λb n z=>by
    subst z
    rcases he with r | r
    · exact hx b n r
    · rw [n] at r;cases r
  have hm:∀ b u,H b=some u→¬ S5 (some u)→b≠x:=λb u q nm z=>by subst z;rw [q] at mu;exact nm mu
  refine ⟨λb u q n _ _=>k b u (hb b n) q,λb u q n _ _=>⟨u.slots,k b u (hb b n) q⟩,λb u q n _=>by rw [aI (hx b n)];exact n,λb u q _=>?_,
    λb xs q=>by rw [aI (hm b _ q λz=>z)];exact q,λb u xs q=>by rw [aI (hm b _ q λz=>z)];exact q,λb ps q=>⟨#[],by rw [aI (hm b _ q λz=>z),q];simp⟩⟩
  by_cases MF:b=e
  · subst MF;exact Su
  · exact ⟨u,k b u MF q⟩
end
noncomputable def Wr (h:Heap) (H:Hp):List Addr:=(List.range h.objs.size).filter λa=>(H a).isSome
noncomputable def zl (h:Heap) (H:Hp):Heap:=PySem.W.hideAll h (Wr h H)
theorem Iv (h:Heap) (H:Hp):(zl h H).objs.size=h.objs.size:=PySem.W.hideAll_size _ _
theorem JS {o:Obj} (e:h.get? b=some o) (n:H b=none):(zl h H).get? b=some o:=
  PySem.W.hideAll_get _ e λhm=>by
    have q:(H b).isSome=true:=(List.mem_filter.mp hm).2
    rw [n] at q;simp at q
theorem MK {o:Obj} (e:(zl h H).get? b=some o):h.get? b=some o∧H b=none:=by
  have e':h.get? b=some o:=PySem.W.of_hideAll (Wr h H) e
  refine ⟨e',?_⟩
  cases q:H b with
  | none=>rfl
  | some x=>
    have hm:b∈Wr h H:=List.mem_filter.mpr ⟨List.mem_range.mpr (Heap.lt_size e'),by simp [q]⟩
    have z:(zl h H).get? b=none:=PySem.W.hideAll_none (Wr h H) hm
    rw [z] at e;cases e
noncomputable def ML (g h:Heap) (L:Addr):List (Addr×Obj):=(List.range h.objs.size).filterMap λa=>if a=L∨(g.get? a).isSome=true then none else (h.get? a).map λo=>(a,o)
noncomputable def rest (g h:Heap) (L d:Addr):List (Addr×Obj):=(ML g h L).filter λp=>decide (p.1≠d)
structure Mod (K:PySem.W.Frag) (mg:Str→Option Value) (base:Heap):Prop where
  MM:K.In base
  glob:base.Ns mainGlobals mg
  blt:∃ mb,base.Ns builtinsNs mb∧∀ x:Str,x≠"__name__"→mb x=bootBuiltins x
  nolimit:base.NoLimit
structure Cx where
  prog:Program
  w:World
  K:PySem.W.Frag
  mg:Str→Option Value
  base:Heap
  A:Around
  N:List Str
  s₀:Shared
  H₀:Hp
  env:Env
  outer:List Env
  stack:List Env
  ex:List Addr
  fn:Str→Bool
  calm:Bool
  pn:List (Addr×Obj)
  xe:Value→Shared→Prop
variable {X:Cx}
noncomputable def frs (l:List Env):List Addr:=l.filterMap (·.frame)
noncomputable abbrev Cx.fs (X:Cx):List Addr:=frs X.outer
noncomputable def OI (sc:Scope) (x:Str):Prop:=sc.names.lookup x=some .local∨sc.names.lookup x=some .cell∨sc.names.lookup x=some .free
noncomputable def Loc (sc:Scope) (x:Str):Prop:=sc.names.lookup x=some .local∨sc.names.lookup x=some .cell
noncomputable def Look (env:Env) (h:Heap) (m:Str→Option Value) (x:Str) (u:Value):Prop:=
  (env.kindOf x=some .local∧m x=some u)∨((env.kindOf x=some .cell∨env.kindOf x=some .free)∧∃ c,env.cells.lookup x=some c∧h.IsCell c (some u))
structure Cx.Ok (X:Cx):Prop where
  mod:Mod X.K X.mg X.base
  kind:X.env.scope.kind=.function
  glob:X.env.globals=mainGlobals
  blt:X.env.builtins=builtinsNs
  above:X.s₀.heap.objs.size≤X.env.locals
  inj:∀ x y c,X.env.cells.lookup x=some c→X.env.cells.lookup y=some c→x=y
  has:∀ x,(X.env.kindOf x=some .cell∨X.env.kindOf x=some .free)→∃ c,X.env.cells.lookup x=some c
  S7:∀ x c,X.fn x=true→X.env.cells.lookup x=some c→X.s₀.heap.objs.size≤c
  hd:X.calm=true→X.A.handled=none
  frames:X.A.frames=some X.stack
  stk:X.stack=X.outer∨(X.stack=X.env::X.outer∧X.env.frame=some X.env.locals)
  exf:∀ b∈X.ex,b≠X.env.locals∧∀ x c,X.env.cells.lookup x=some c→c≠b
  bs:∀ b o,X.base.get? b=some o→X.s₀.heap.get? b=some o∧X.H₀ b=none
  MG:X.base.objs.size≤X.s₀.heap.objs.size
  MN:∀ b o,X.base.get? b=some o→b∉X.ex
  MO:∀ b∈X.ex,b∉X.fs
  uY:X.s₀.heap.FunFrames X.base X.outer
  MP:∀ b∈X.fs,X.H₀ b=none
structure Inv (X:Cx) (pins:List (Addr×Obj)) (σ:List (Option V)) (H:Hp) (s:Shared):Prop where
  ok:X.Ok
  os:s.os=X.s₀.os∧0<s.toks
  bare:AllBare s.gens
  base:Un X.fs X.ex X.H₀ H X.s₀.heap s.heap
  loc:∃ m,s.heap.Ns X.env.locals m∧∀ (i:Nat) (x:Str) (v:V),X.N[i]?=some x→σ[i]?=some (some v)→OI X.env.scope x→∃ u,RelV v u∧Look X.env s.heap m x u
  cell:∀ x c,X.env.cells.lookup x=some c→∃ v,s.heap.IsCell c v
  free:H X.env.locals=none
  qZ:∀ x c,X.env.cells.lookup x=some c→H c=none∨(X.fn x=false∧∃ o u,H c=some (.iU o u))
  pin:∀ p∈X.pn++pins,s.heap.get? p.1=some p.2∧H p.1=none∧p.1≠X.env.locals∧p.1∉X.fs∧∀ v,p.2.data≠.cell v
  hok:pV X.prog X.w H s.heap
  len:σ.length=X.N.length
section
variable {X:Cx} {pins:List (Addr×Obj)} {σ:List (Option V)} {H H':Hp} {s:Shared} {h':Heap}
theorem Cx.Ok.Xk (ok:X.Ok) {b:Addr} {o:Obj} (e:X.base.get? b=some o):b∉X.fs:=λhb=>by
  have:=(ok.uY.mem hb).1
  rw [e] at this;cases this
theorem Inv.bs (I:Inv X pins σ H s):∀ b o,X.base.get? b=some o→s.heap.get? b=some o∧H b=none:=λb o e=>
  ⟨I.base.keep b o (I.ok.bs b o e).1 (I.ok.bs b o e).2 (I.ok.Xk e) (I.ok.MN b o e),I.base.free b o (I.ok.bs b o e).1 (I.ok.bs b o e).2 (I.ok.MN b o e)⟩
theorem Inv.bk (I:Inv X pins σ H s):∀ b o,X.base.get? b=some o→s.heap.get? b=some o:=λb o e=>(I.bs b o e).1
theorem Inv.mod (I:Inv X pins σ H s):Mod X.K X.mg X.base:=I.ok.mod
theorem Inv.Ff (I:Inv X pins σ H s):X.K.In s.heap:=I.ok.mod.MM.keeps I.bk
theorem Inv.nolimit (I:Inv X pins σ H s):s.heap.NoLimit:=I.ok.mod.nolimit.keeps I.bk
theorem Inv.fr (I:Inv X pins σ H s):∃ m,Fr X.base X.env.locals s.heap m:=
  let ⟨m,hn,_⟩:=I.loc
  ⟨m,hn,I.bk,Nat.le_trans I.ok.MG I.ok.above⟩
theorem Inv.lt (I:Inv X pins σ H s):X.env.locals<s.heap.objs.size:=let ⟨_,hn,_⟩:=I.loc;hn.lt
theorem Inv.sz (I:Inv X pins σ H s):X.s₀.heap.objs.size≤s.heap.objs.size:=Nat.le_trans I.ok.above (Nat.le_of_lt I.lt)
theorem Inv.Xl (I:Inv X pins σ H s) {a:Addr} (h:s.heap.objs.size≤a):a∉X.fs:=λhb=>by
  obtain ⟨_,o,ho,_⟩:=I.ok.uY.mem hb
  exact absurd (Nat.lt_of_lt_of_le (Heap.lt_size ho) (Nat.le_trans I.sz h)) (Nat.lt_irrefl _)
theorem Inv.JT (I:Inv X pins σ H s):∀ x c,X.env.cells.lookup x=some c→c≠X.env.locals:=λx c e z=>by
  obtain ⟨v,o,ho,hd⟩:=I.cell x c e
  obtain ⟨m,⟨o',es,ep,ho',hd',_⟩,_⟩:=I.loc
  rw [z,ho'] at ho;cases ho;rw [hd'] at hd;cases hd
theorem Inv.uY (I:Inv X pins σ H s):s.heap.FunFrames X.base X.outer:=by
  have all:∀ (l:List Env),(∀ b∈frs l,b∈X.fs)→X.s₀.heap.FunFrames X.base l→s.heap.FunFrames X.base l:=by
    intro l
    induction l with
    | nil=>intro _ _;trivial
    | cons env r ih=>
      intro hs hl
      obtain ⟨hk,⟨L,o,hf,hn,ho,hd⟩,hr⟩:=hl
      have hL:L∈X.fs:=hs L (by unfold frs;rw [List.filterMap_cons,hf];exact List.mem_cons_self)
      obtain ⟨sl,e⟩:=I.base.slot L o ho (I.ok.MP L hL) hL λz=>I.ok.MO L z hL
      exact ⟨hk,⟨L,_,hf,hn,e,hd⟩,ih (λb hb=>hs b (by unfold frs;rw [List.filterMap_cons,hf];exact List.mem_cons_of_mem _ hb)) hr⟩
  exact all X.outer (λ_ hb=>hb) I.ok.uY
theorem Inv.stack (I:Inv X pins σ H s):s.heap.FunFrames X.base X.stack:=by
  rcases I.ok.stk with e | ⟨e,hf⟩
  · rw [e];exact I.uY
  · rw [e]
    obtain ⟨m,hn,_⟩:=I.loc
    refine .cons (by rw [I.ok.kind];decide) hf hn ?_ I.uY
    exact Heap.get?_none_of_le (Nat.le_trans I.ok.MG I.ok.above)
theorem Inv.uw (I:Inv X pins σ H s):∀ b∈frs X.stack,b∈X.env.locals::X.fs:=λb hb=>by
  rcases I.ok.stk with e | ⟨e,hf⟩
  · rw [e] at hb;exact List.mem_cons_of_mem _ hb
  · rw [e] at hb
    unfold frs at hb
    rw [List.filterMap_cons,hf] at hb
    exact hb
theorem Inv.yU (I:Inv X pins σ H s):∀ b∈frs X.stack,H b=none:=λb hb=>by
  rcases List.mem_cons.mp (I.uw b hb) with e | hb
  · rw [e];exact I.free
  · obtain ⟨_,o,ho,_⟩:=I.ok.uY.mem hb
    exact I.base.free b o ho (I.ok.MP b hb) λz=>I.ok.MO b z hb
theorem Inv.step {g':Array GenState} {t':Nat} {d':Drawn} (I:Inv X pins σ H s)
    (hch:∀ b∈ch,(b∈X.ex∨X.s₀.heap.objs.size≤b)∧b≠X.env.locals∧(∀ x c,X.env.cells.lookup x=some c→c≠b)∧∀ p∈X.pn++pins,p.1≠b)
    (keep:∀ b o,b≠X.env.locals→b∉X.fs→b∉ch→s.heap.get? b=some o→H b=none→h'.get? b=some o)
    (slot:∀ b o,b≠X.env.locals→b∈X.fs→b∉ch→s.heap.get? b=some o→H b=none→∃ sl,h'.get? b=some {o with slots:=sl}) (free:∀ b o,b∉ch→s.heap.get? b=some o→H b=none→H' b=none)
    (there:∀ b o,b∉ch→s.heap.get? b=some o→∃ o',h'.get? b=some o')
    (tups:∀ b xs,H b=some (.tup xs)→H' b=some (.tup xs)) (rF:∀ b o u,H b=some (.iU o u)→H' b=some (.iU o u)) (tG:∀ b ps,H b=some (.uX ps)→∃ more,H' b=some (.uX (ps++more)))
    (ns:∀ m,s.heap.Ns X.env.locals m→h'.Ns X.env.locals m) (hok:pV X.prog X.w H' h') (hg:AllBare g') (ht:0<t':=by first | exact Nat.succ_pos _ | exact (Inv.os (by assumption)).2 | assumption | nofun) :
    Inv X pins σ H' {s with heap:=h',gens:=g',drawn:=d',toks:=t'}:=by
  have JU:∀ b o,X.s₀.heap.get? b=some o→b≠X.env.locals:=λb o e=>Nat.ne_of_lt (Nat.lt_of_lt_of_le (Heap.lt_size e) I.ok.above)
  have OJ:∀ b o,X.s₀.heap.get? b=some o→b∉X.ex→b∉ch:=λb o e hx hb=>by
    rcases (hch b hb).1 with z | z
    · exact hx z
    · exact absurd (Nat.lt_of_lt_of_le (Heap.lt_size e) z) (Nat.lt_irrefl _)
  have cellK:∀ x c,X.env.cells.lookup x=some c→∀ v,s.heap.IsCell c v→h'.IsCell c v:=λx c e v zz=>by
    obtain ⟨o,ho,hd⟩:=zz
    have S8:c∉ch:=λz=>(hch c z).2.2.1 x c e rfl
    rcases I.qZ x c e with hfr | ⟨_,fo,fu,hfr⟩
    · by_cases hc:c∈X.fs
      · obtain ⟨sl,q⟩:=slot c o (I.JT x c e) hc S8 ho hfr
        exact ⟨_,q,hd⟩
      · exact ⟨o,keep c o (I.JT x c e) hc S8 ho hfr,hd⟩
    · have q1:=(I.hok c _ hfr).1
      have q2:=(hok c _ (rF c fo fu hfr)).1
      rw [ho] at q1
      cases q1
      exact ⟨o,q2,hd⟩
  refine ⟨I.ok,⟨I.os.1,ht⟩,hg,⟨λb o e n hb hx=>?_,λb o e n hb hx=>?_,λb o e n hx=>?_,λb o e hx=>?_,λb xs e=>tups b xs (I.base.tups b xs e),λb o xs e=>rF b o xs (I.base.rF b o xs e),λb ps e=>?_⟩,?_,λx c e=>?_,?_,λx c e=>?_,λp hp=>?_,hok,I.len⟩
  · exact keep b o (JU b o e) hb (OJ b o e hx) (I.base.keep b o e n hb hx) (I.base.free b o e n hx)
  · obtain ⟨sl,e1⟩:=I.base.slot b o e n hb hx
    obtain ⟨S9,e2⟩:=slot b _ (JU b o e) hb (OJ b o e hx) e1 (I.base.free b o e n hx)
    exact ⟨S9,e2⟩
  · obtain ⟨o',e1⟩:=I.base.there b o e hx
    exact free b o' (OJ b o e hx) e1 (I.base.free b o e n hx)
  · obtain ⟨o',e1⟩:=I.base.there b o e hx
    exact there b o' (OJ b o e hx) e1
  · obtain ⟨m1,e1⟩:=I.base.tG b ps e
    obtain ⟨m2,e2⟩:=tG b _ e1
    exact ⟨m1++m2,by rw [e2,Array.append_assoc]⟩
  · obtain ⟨m,hn,hl⟩:=I.loc
    refine ⟨m,ns m hn,λi x v e1 e2 e3=>?_⟩
    obtain ⟨u,r,l⟩:=hl i x v e1 e2 e3
    refine ⟨u,r,?_⟩
    rcases l with l | ⟨k,c,e,z⟩
    · exact .inl l
    · exact .inr ⟨k,c,e,cellK x c e _ z⟩
  · obtain ⟨v,z⟩:=I.cell x c e
    exact ⟨v,cellK x c e v z⟩
  · obtain ⟨m,⟨o,_,_,ho,_⟩,_⟩:=I.loc
    exact free _ o (λz=>(hch _ z).2.1 rfl) ho I.free
  · obtain ⟨v,o,ho,hd⟩:=I.cell x c e
    rcases I.qZ x c e with hfr | ⟨hx,fo,fu,hfr⟩
    · exact .inl (free c o (λz=>(hch c z).2.2.1 x c e rfl) ho hfr)
    · exact .inr ⟨hx,fo,fu,rF c fo fu hfr⟩
  · obtain ⟨e,n,ne,nf,d⟩:=I.pin p hp
    have S8:p.1∉ch:=λz=>(hch p.1 z).2.2.2 p hp rfl
    exact ⟨keep p.1 p.2 ne nf S8 e n,free p.1 p.2 S8 e n,ne,nf,d⟩
theorem Inv.un (I:Inv X pins σ H s) (u:Un X.fs [] H H' s.heap h') (hok:pV X.prog X.w H' h') (ht:0<t':=by first | exact Nat.succ_pos _ | exact (Inv.os (by assumption)).2 | assumption | nofun):Inv X pins σ H' {s with heap:=h',toks:=t'}:=by
  obtain ⟨m,⟨o,es,ep,ho,r⟩,_⟩:=id I.loc
  obtain ⟨sl,hL⟩:=u.any ho I.free (by simp)
  exact I.step (g':=s.gens) (d':=s.drawn) (ch:=[]) (λ_ z=>nomatch z) (λb o _ hb _ e n=>u.keep b o e n hb (by simp)) (λb o _ hb _ e n=>u.slot b o e n hb (by simp)) (λb o _ e n=>u.free b o e n (by simp)) (λb o _ e=>u.there b o e (by simp)) u.tups u.rF u.tG (λm' hm=>by
    obtain ⟨o',es',Xm,ho',r'⟩:=hm
    rw [ho] at ho';cases ho'
    exact ⟨_,es',Xm,hL,r'⟩) hok I.bare
theorem Inv.call {d':Drawn} (I:Inv X pins σ H s) (u:Un (frs X.stack) ch H H' s.heap h') (hok:pV X.prog X.w H' h') (hg:AllBare g')
    (hch:∀ b∈ch,(b∈X.ex∨X.s₀.heap.objs.size≤b)∧b≠X.env.locals∧(∀ x c,X.env.cells.lookup x=some c→c≠b)∧∀ p∈X.pn++pins,p.1≠b) (ht:0<t':=by first | exact Nat.succ_pos _ | exact (Inv.os (by assumption)).2 | assumption | nofun) :
    Inv X pins σ H' {s with heap:=h',gens:=g',drawn:=d',toks:=t'}:=by
  obtain ⟨m,⟨o,es,ep,ho,r⟩,_⟩:=id I.loc
  obtain ⟨sl,hL⟩:=u.any ho I.free λz=>(hch _ z).2.1 rfl
  exact I.step (ch:=ch) hch (λb o hL hb hc e n=>u.keep b o e n (λz=>(List.mem_cons.mp (I.uw b z)).elim hL hb) hc) (λb o _ _ hc e n=>u.any e n hc) (λb o hc e n=>u.free b o e n hc) (λb o hc e=>u.there b o e hc) u.tups u.rF u.tG (λm' hm=>by
    obtain ⟨o',es',Xm,ho',r'⟩:=hm
    rw [ho] at ho';cases ho'
    exact ⟨_,es',Xm,hL,r'⟩) hok hg
theorem Inv.turned (I:Inv X pins σ H s) (k:∀ b o,b≠it→s.heap.get? b=some o→h'.get? b=some o) (hn:H it=none) (hL:it≠X.env.locals)
    (h1:it∈X.ex∨X.s₀.heap.objs.size≤it) (h2:∀ x c,X.env.cells.lookup x=some c→c≠it) (h3:∀ p∈X.pn++pins,p.1≠it) (ht:0<t':=by first | exact Nat.succ_pos _ | exact (Inv.os (by assumption)).2 | assumption | nofun):Inv X pins σ H {s with heap:=h',toks:=t'}:=by
  have Tc:∀ b u,H b=some u→b≠it:=λb u e z=>by rw [z,hn] at e;cases e
  refine I.step (g':=s.gens) (d':=s.drawn) (ch:=[it]) (λb hb=>?_) (λb o _ _ hc e _=>k b o (λz=>hc (by simp [z])) e) (λb o _ _ hc e _=>⟨o.slots,k b o (λz=>hc (by simp [z])) e⟩) (λ_ _ _ _ n=>n)
    (λb o hc e=>⟨o,k b o (λz=>hc (by simp [z])) e⟩) (λ_ _ e=>e) (λ_ _ _ e=>e) (λb ps e=>⟨#[],by rw [e];simp⟩) (λm hm=>?_) (λb u e=>?_) I.bare
  · have e:b=it:=by simpa using hb
    subst e
    exact ⟨h1,hL,h2,h3⟩
  · obtain ⟨o,es,ep,ho,r⟩:=hm
    exact ⟨o,es,ep,k _ o (Ne.symm hL) ho,r⟩
  · refine (I.hok b u e).stay (λc v hc q=>k c v ?_ q) (λ_ q=>q) λ_ _ q=>q
    rcases hc with z | z
    · rw [z];exact Tc b u e
    · exact Tc c _ z
theorem Inv.tok (I:Inv X pins σ H s) (t':Nat) (ht:0<t':=by first | exact Nat.succ_pos _ | exact (Inv.os (by assumption)).2 | assumption | nofun):Inv X pins σ H {s with toks:=t'}:=I.un (h':=s.heap) (t':=t') Un.refl I.hok
theorem nt {α:Type} {M:Model} {t:Sem α} {Q:α→Shared→Prop} (h:0<s.toks) (h':wpAny M A t (λa s'=>0<s'.toks→Q a s') (λe s'=>0<s'.toks→E e s') s):wpAny M A t Q E s:=wpAny_with_toks (n:=1) h h'
theorem Inv.kept (I:Inv X pins σ H s) (k:∀ b u,s.heap.get? b=some u→h'.get? b=some u) (ht:0<t':=by first | exact Nat.succ_pos _ | exact (Inv.os (by assumption)).2 | assumption | nofun):Inv X pins σ H {s with heap:=h',toks:=t'}:=I.un (Un.kept k) (I.hok.kept k)
theorem Inv.laid (I:Inv X pins σ H s) (k:∀ b u,s.heap.get? b=some u→h'.get? b=some u) (hp:s.heap.objs.size≤a) (new:ja X.prog X.w (upd H a o) h' a o) (ht:0<t':=by first | exact Nat.succ_pos _ | exact (Inv.os (by assumption)).2 | assumption | nofun) :
    Inv X pins σ (upd H a o) {s with heap:=h',toks:=t'}:=I.un (Un.laid k hp (I.hok.fresh hp)) (I.hok.laid k hp new)
theorem Inv.write {x e:Addr} (I:Inv X pins σ H s) (mu:S5 (H x)) (he:e=x∨H e=some (.own x)) (k:∀ b u,b≠e→s.heap.get? b=some u→h'.get? b=some u) (Su:∃ u,h'.get? e=some u)
    (new:ja X.prog X.w (upd H x o) h' x o) (ht:0<t':=by first | exact Nat.succ_pos _ | exact (Inv.os (by assumption)).2 | assumption | nofun):Inv X pins σ (upd H x o) {s with heap:=h',toks:=t'}:=I.un (Un.write mu he k Su) (I.hok.write mu he k Su new)
theorem Inv.Cf (I:Inv X pins σ H s) (h:∀ p∈mS,s.heap.get? p.1=some p.2∧H p.1=none∧p.1≠X.env.locals∧p.1∉X.fs∧∀ v,p.2.data≠.cell v):Inv X mS σ H s:=
  ⟨I.ok,I.os,I.bare,I.base,I.loc,I.cell,I.free,I.qZ,λp hp=>(List.mem_append.mp hp).elim (λz=>I.pin p (List.mem_append_left _ z)) (h p),I.hok,I.len⟩
theorem Dt (hN:N.Nodup) {i j:Nat} {x:Str} (a:N[i]?=some x) (b:N[j]?=some x):i=j:=by
  obtain ⟨h1,e1⟩:=List.getElem?_eq_some_iff.mp a
  obtain ⟨h2,e2⟩:=List.getElem?_eq_some_iff.mp b
  exact (List.getElem_inj hN).mp (e1.trans e2.symm)
theorem wR {M:Model} {A:Around} {E:Value→Shared→Prop} {Q:Unit→Shared→Prop} (I:Inv X pins σ H s) (hN:X.N.Nodup) (hi:X.N[i]?=some x) (hx:Loc X.env.scope x) (r:RelV v u)
    (h:∀ s',Inv X pins (σ.set i (some v)) H s'→(∃ a,Heap.SameBut a s.heap s'.heap∧(a=X.env.locals∨X.env.cells.lookup x=some a))→Q () s') (hf:X.fn x=true∨X.env.scope.names.lookup x=some .local:=by first | exact .inl rfl | exact .inr rfl | assumption):wpAny M A (storeName X.env x u) Q E s:=by
  obtain ⟨m,hn,hl⟩:=id I.loc
  have hcls:(X.env.scope.kind==.class||(X.env.scope.kind==.module&&X.env.locals != X.env.globals))=false:=by rw [I.ok.kind];rfl
  have ZN:i<σ.length:=by rw [I.len];exact (List.getElem?_eq_some_iff.mp hi).1
  have JT:=I.JT
  have tracked:∀ {a:Addr} {h':Heap},(∃ o,s.heap.get? a=some o∧H a=none)→Heap.SameBut a s.heap h'→pV X.prog X.w H h':=λ{a h'} ha hs b ob e=>by
    obtain ⟨_,_,hfree⟩:=ha
    refine (I.hok b ob e).stay (λc w' hc q=>(hs.2 c ?_).trans q) (λ_ q=>q) λ_ _ q=>q
    rintro rfl
    rcases hc with rfl | hc
    · rw [hfree] at e;cases e
    · rw [hfree] at hc;cases hc
  rcases hx with hk | hk
  · refine wpAny_storeName_local hk hn (λh' hn' hs=>?_) hcls
    obtain ⟨oL,_,_,ZO,_⟩:=id hn
    refine h _ ⟨I.ok,⟨I.os.1,Nat.succ_pos _⟩,I.bare,⟨λb o e n hb hx=>?_,λb o e n hb hx=>?_,I.base.free,λb o e hx=>?_,I.base.tups,I.base.rF,I.base.tG⟩,⟨_,hn',λj y v' e1 e2 e3=>?_⟩,λy c e=>?_,I.free,I.qZ,λp hp=>?_,tracked ⟨oL,ZO,I.free⟩ hs,by simpa using I.len⟩ ⟨_,hs,.inl rfl⟩
    · exact (hs.2 b (Nat.ne_of_lt (Nat.lt_of_lt_of_le (Heap.lt_size e) I.ok.above))).trans (I.base.keep b o e n hb hx)
    · obtain ⟨sl,e1⟩:=I.base.slot b o e n hb hx
      exact ⟨sl,(hs.2 b (Nat.ne_of_lt (Nat.lt_of_lt_of_le (Heap.lt_size e) I.ok.above))).trans e1⟩
    · obtain ⟨o',e1⟩:=I.base.there b o e hx
      exact ⟨o',(hs.2 b (Nat.ne_of_lt (Nat.lt_of_lt_of_le (Heap.lt_size e) I.ok.above))).trans e1⟩
    · by_cases hj:j=i
      · subst hj
        rw [hi] at e1;cases e1
        rw [List.getElem?_set_self ZN] at e2
        cases e2
        exact ⟨u,r,.inl ⟨hk,by simp⟩⟩
      · rw [List.getElem?_set_ne (Ne.symm hj)] at e2
        obtain ⟨u',r',q⟩:=hl j y v' e1 e2 e3
        refine ⟨u',r',?_⟩
        rcases q with ⟨k,e⟩ | ⟨k,c,e,z⟩
        · refine .inl ⟨k,?_⟩
          have:y≠x:=λe=>hj (Dt hN e1 (e▸hi))
          simp [this,e]
        · exact .inr ⟨k,c,e,z.sameBut hs (JT y c e)⟩
    · obtain ⟨w',z⟩:=I.cell y c e
      exact ⟨w',z.sameBut hs (JT y c e)⟩
    · obtain ⟨e,n,ne,nf,d⟩:=I.pin p hp
      exact ⟨(hs.2 p.1 ne).trans e,n,ne,nf,d⟩
  · have hfn:X.fn x=true:=by
      rcases hf with z | z
      · exact z
      · rw [z] at hk;cases hk
    obtain ⟨c,hc⟩:=I.ok.has x (.inl hk)
    obtain ⟨w',z⟩:=I.cell x c hc
    refine wpAny_storeName_cell I.ok.kind hk hc z (λh' hc' hs=>?_)
    obtain ⟨oc,hoc,Xn⟩:=id z
    refine h {s with heap:=h'} ⟨I.ok,I.os,I.bare,⟨λb o e n hb hx=>?_,λb o e n hb hx=>?_,I.base.free,λb o e hx=>?_,I.base.tups,I.base.rF,I.base.tG⟩,⟨m,hn.sameBut hs (Ne.symm (JT x c hc)),λj y v' e1 e2 e3=>?_⟩,λy c' e=>?_,I.free,I.qZ,λp hp=>?_,tracked ⟨oc,hoc,(I.qZ x c hc).resolve_right λz=>by rw [hfn] at z;cases z.1⟩ hs,by simpa using I.len⟩ ⟨c,hs,.inr hc⟩
    · exact (hs.2 b (Nat.ne_of_lt (Nat.lt_of_lt_of_le (Heap.lt_size e) (I.ok.S7 x c hfn hc)))).trans (I.base.keep b o e n hb hx)
    · obtain ⟨sl,e1⟩:=I.base.slot b o e n hb hx
      exact ⟨sl,(hs.2 b (Nat.ne_of_lt (Nat.lt_of_lt_of_le (Heap.lt_size e) (I.ok.S7 x c hfn hc)))).trans e1⟩
    · obtain ⟨o',e1⟩:=I.base.there b o e hx
      exact ⟨o',(hs.2 b (Nat.ne_of_lt (Nat.lt_of_lt_of_le (Heap.lt_size e) (I.ok.S7 x c hfn hc)))).trans e1⟩
    · by_cases hj:j=i
      · subst hj
        rw [hi] at e1;cases e1
        rw [List.getElem?_set_self ZN] at e2
        cases e2
        exact ⟨u,r,.inr ⟨.inl hk,c,hc,hc'⟩⟩
      · rw [List.getElem?_set_ne (Ne.symm hj)] at e2
        obtain ⟨u',r',q⟩:=hl j y v' e1 e2 e3
        refine ⟨u',r',?_⟩
        rcases q with q | ⟨k,c',e,z'⟩
        · exact .inl q
        · refine .inr ⟨k,c',e,z'.sameBut hs ?_⟩
          rintro rfl
          exact hj (Dt hN e1 (I.ok.inj _ _ _ e hc▸hi))
    · by_cases hcc:c'=c
      · subst hcc;exact ⟨_,hc'⟩
      · obtain ⟨w2,z2⟩:=I.cell y c' e
        exact ⟨w2,z2.sameBut hs hcc⟩
    · obtain ⟨e,n,ne,nf,d⟩:=I.pin p hp
      refine ⟨(hs.2 p.1 ?_).trans e,n,ne,nf,d⟩
      intro q
      rw [q,hoc] at e
      have q':oc=p.2:=Option.some.inj e
      exact d w' (by rw [← q'];exact Xn)
theorem Du {M:Model} {A:Around} {E:Value→Shared→Prop} {Q:Unit→Shared→Prop} (I:Inv X pins σ H s) (hN:X.N.Nodup) (hi:X.N[i]?=some x) (hx:Loc X.env.scope x) (r:RelV v u)
    (h:∀ s',Inv X pins (σ.set i (some v)) H s'→Q () s') (hf:X.fn x=true∨X.env.scope.names.lookup x=some .local:=by first | exact .inl rfl | exact .inr rfl | assumption):wpAny M A (storeName X.env x u) Q E s:=
  wR I hN hi hx r (λs' I' _=>h s' I') hf
theorem Inv.JW (I:Inv X pins σ H s) (ho:s'.os=s.os∧0<s'.toks) (u:Un (frs X.stack) ch H H' s.heap s'.heap) (hok:pV X.prog X.w H' s'.heap) (hg:AllBare s'.gens)
    (hch:∀ b∈ch,(b∈X.ex∨X.s₀.heap.objs.size≤b)∧b≠X.env.locals∧(∀ x c,X.env.cells.lookup x=some c→c≠b)∧∀ p∈X.pn++pins,p.1≠b):Inv X pins σ H' s':=by
  obtain ⟨h',g',d',t',o'⟩:=s'
  have e:o'=s.os:=ho.1
  have ht:0<t':=ho.2
  subst e
  exact I.call (g':=g') (t':=t') (d':=d') u hok hg hch
end
noncomputable abbrev XK:=Value→Option Addr→Hp→Prop
noncomputable abbrev St:=List (Option V)
variable {σ:St}
noncomputable abbrev VK:=V→Hp→Prop
noncomputable abbrev TE:=St→Hp→VK→Prop
noncomputable abbrev TT:=St→Hp→(Bool→Hp→Prop)→Prop
variable {tc:TT}
noncomputable abbrev TA:=St→Hp→(List V→Hp→Prop)→Prop
structure Ends where
  nx:St→Hp→Prop
  rt:VK
  bk:St→Hp→Prop:=λ_ _=>False
  ct:St→Hp→Prop:=λ_ _=>False
noncomputable abbrev TS:=Ends→St→Hp→Prop
variable {tb:TS}
noncomputable def EP (X:Cx) (pins:List (Addr×Obj)) (σ:St) (Q:VK) (u:Value) (s':Shared):Prop:=∃ v H',Inv X pins σ H' s'∧RelV v u∧Q v H'
noncomputable def TP (X:Cx) (pins:List (Addr×Obj)) (σ:St) (Q:Bool→Hp→Prop) (b:Bool) (s':Shared):Prop:=∃ H',Inv X pins σ H' s'∧Q b H'
noncomputable def AP (X:Cx) (pins:List (Addr×Obj)) (σ:St) (Q:List V→Hp→Prop) (us:List Value) (s':Shared):Prop:=∃ vs H',Inv X pins σ H' s'∧Vals vs us∧Q vs H'
noncomputable def SP (X:Cx) (pins:List (Addr×Obj)) (D:Ends) (f:Flow) (s':Shared):Prop:=
  match f with
  | .next=>∃ σ' H',Inv X pins σ' H' s'∧D.nx σ' H'
  | .brk=>∃ σ' H',Inv X pins σ' H' s'∧D.bk σ' H'
  | .cont=>∃ σ' H',Inv X pins σ' H' s'∧D.ct σ' H'
  | .ret u=>∃ v σ' H',Inv X pins σ' H' s'∧RelV v u∧D.rt v H'
noncomputable def PE (X:Cx) (e:Expr) (t:TE):Prop:=
  ∀ (pins:List (Addr×Obj)) (s:Shared) (σ:St) (H:Hp) (Q:VK),Inv X pins σ H s→t σ H Q→wpAny (model X.prog X.w) X.A (eval e X.env) (EP X pins σ Q) X.xe s
noncomputable def PT (X:Cx) (e:Expr) (t:TT):Prop:=
  ∀ (pins:List (Addr×Obj)) (s:Shared) (σ:St) (H:Hp) (Q:Bool→Hp→Prop),Inv X pins σ H s→t σ H Q→wpAny (model X.prog X.w) X.A (isTrue e X.env (eval e X.env)) (TP X pins σ Q) X.xe s
noncomputable def PW (X:Cx) (e:Expr) (t:TT):Prop:=
  ∀ (whole:Sem Value) (pins:List (Addr×Obj)) (s:Shared) (σ:St) (H:Hp) (Q:Bool→Hp→Prop),Inv X pins σ H s→t σ H Q→wpAny (model X.prog X.w) X.A (isTrue e X.env whole) (TP X pins σ Q) X.xe s
theorem PW.pt {t:TT} (h:PW X e t):PT X e t:=h _
noncomputable def PA (X:Cx) (es:List Expr) (t:TA):Prop:=
  ∀ (pos:Pos) (pins:List (Addr×Obj)) (s:Shared) (σ:St) (H:Hp) (Q:List V→Hp→Prop),Inv X pins σ H s→t σ H Q→wpAny (model X.prog X.w) X.A (spliced (backTo pos (starEach es X.env))) (AP X pins σ Q) X.xe s
noncomputable def PS (X:Cx) (st:Stmt) (t:TS):Prop:=
  ∀ (pins:List (Addr×Obj)) (s:Shared) (σ:St) (H:Hp) (D:Ends),Inv X pins σ H s→t D σ H→wpAny (model X.prog X.w) X.A (exec st X.env) (SP X pins D) X.xe s
noncomputable def Fg (X:Cx) (st:List Stmt) (t:TS):Prop:=
  ∀ (pins:List (Addr×Obj)) (s:Shared) (σ:St) (H:Hp) (D:Ends),Inv X pins σ H s→t D σ H→wpAny (model X.prog X.w) X.A (execs st X.env) (SP X pins D) X.xe s
theorem gw {α:Type} {t:Sem α} {Q Q':α→Shared→Prop} {M:Model} (h:wpAny M A t Q E s) (hQ:∀ a s,Q a s→Q' a s):wpAny M A t Q' E s:=wpAny_mono h hQ λ_ _ x=>x
section
variable {X:Cx}
theorem bin {a b:Expr} {ta tb:TE} (ha:PE X a ta) (hb:PE X b tb) {pins:List (Addr×Obj)} {s:Shared} {σ:St} {H:Hp} {R:V→V→Hp→Prop} (I:Inv X pins σ H s) (h:ta σ H λx H1=>tb σ H1 λy H2=>R x y H2)
    {α:Type} {Q:α→Shared→Prop} {f:Value→Value→Sem α}
    (hf:∀ v u s2 x y H2,Inv X pins σ H2 s2→RelV x v→RelV y u→R x y H2→wpAny (model X.prog X.w) X.A (f v u) Q X.xe s2) :
    wpAny (model X.prog X.w) X.A (eval a X.env) (λv s₁=>wpAny (model X.prog X.w) X.A (eval b X.env) (λu s₂=>wpAny (model X.prog X.w) X.A (f v u) Q X.xe s₂) X.xe s₁) X.xe s:=by
  refine gw (ha pins s σ H _ I h) λv s1 zz=>?_
  obtain ⟨x,H1,I1,r1,q1⟩:=zz
  refine gw (hb pins s1 σ H1 _ I1 q1) λu s2 zz=>?_
  obtain ⟨y,H2,I2,r2,q2⟩:=zz
  exact hf v u s2 x y H2 I2 r1 r2 q2
noncomputable def Xo (i:Nat):TE:=λσ H Q=>∃ v,σ[i]?=some (some v)∧Q v H
noncomputable def tC (v:V):TE:=λ_ H Q=>Q v H
theorem Fi {pos:Pos} (hN:X.N[i]?=some x) (hv:OI X.env.scope x) (hd:(x==("__debug__":Str))=false:=by decide) (hcd:(x==("__classdict__":Str))=false:=by decide):PE X (.Name x pos) (Xo i):=by
  intro pins s σ H Q I h
  obtain ⟨v,e,h⟩:=h
  obtain ⟨m,hn,hl⟩:=I.loc
  obtain ⟨u,r,l⟩:=hl i x v hN e hv
  have fin:EP X pins σ Q u s:=⟨v,H,I,r,h⟩
  rcases l with ⟨hk,hm⟩ | ⟨hk,c,hc,hcell⟩
  · exact wpAny_Name (wpAny_loadName_local I.ok.kind hk hn hm fin) hd
  · rcases hk with hk | hk
    · exact wpAny_Name (wpAny_loadName_cell I.ok.kind hk hc hcell fin) hd
    · exact wpAny_Name (wpAny_loadName_free I.ok.kind hk hc hcell fin hcd) hd
theorem PN {i j pos}:PE X (.Constant (.int i) j pos) (tC (.int i)):=λ_ _ _ H _ I h=>wpAny_Constant_int ⟨.int i,H,I.tok _,⟨_,rfl⟩,h⟩
theorem Td {b j pos}:PE X (.Constant (.bool b) j pos) (tC (.bl b)):=λ_ _ _ H _ I h=>Constant_bool ⟨.bl b,H,I,rfl,h⟩
theorem PR {j pos}:PE X (.Constant .none j pos) (tC .i9):=λ_ _ _ H _ I h=>Constant_none ⟨.i9,H,I,rfl,h⟩
theorem PU {x j pos}:PE X (.Constant (.str x) j pos) (tC (.str x)):=λ_ _ _ H _ I h=>Calls.Constant_str ⟨.str x,H,I.tok _,⟨_,rfl⟩,h⟩
noncomputable def Gl (X:Cx) (x:Str):Prop:=X.env.kindOf x=some .globalImplicit
theorem GP {E:Value→Shared→Prop} {pos:Pos} (I:Inv X pins σ H s) (hg:Gl X x) (hm:X.mg x=some u) (h:Q u s)
    (hd:(x==("__debug__":Str))=false:=by decide):wpAny (model X.prog X.w) X.A (eval (.Name x pos) X.env) Q E s:=
  Calls.Name_function_global I.ok.kind hg (Calls.loadGlobal_global (by rw [I.ok.glob];exact I.mod.glob.keeps I.bk) hm h) hd
theorem iy {E:Value→Shared→Prop} {pos:Pos} (I:Inv X pins σ H s) (hg:Gl X x) (hm:X.mg x=none) (hv:bootBuiltins x=some u) (h:Q u s)
    (hn:x≠"__name__":=by decide) (hd:(x==("__debug__":Str))=false:=by decide):wpAny (model X.prog X.w) X.A (eval (.Name x pos) X.env) Q E s:=by
  obtain ⟨mb,h1,h2⟩:=I.mod.blt
  exact Calls.Name_function_global I.ok.kind hg (Calls.loadGlobal_builtin (by rw [I.ok.glob];exact I.mod.glob.keeps I.bk) hm (by rw [I.ok.blt];exact h1.keeps I.bk) ((h2 x hn).trans hv) h) hd
theorem GQ {pos:Pos} (hg:Gl X x) (hm:X.mg x=some u) (r:RelV v u) (hd:(x==("__debug__":Str))=false:=by decide):PE X (.Name x pos) (tC v):=
  λ_ _ _ H _ I h=>GP I hg hm ⟨v,H,I,r,h⟩ hd
theorem MQ {pos:Pos} (hg:Gl X x) (hm:X.mg x=none) (hv:bootBuiltins x=some u) (r:RelV v u) (hn:x≠"__name__":=by decide) (hd:(x==("__debug__":Str))=false:=by decide):PE X (.Name x pos) (tC v):=
  λ_ _ _ H _ I h=>iy I hg hm hv ⟨v,H,I,r,h⟩ hn hd
variable {a b:Expr} {ta tb:TE} {pos:Pos}
variable {tA Ws:TT} {rest:List Expr}
noncomputable def Te (t u:TT):TT:=λσ H Q=>t σ H λc H1=>if c=true then u σ H1 Q else Q false H1
noncomputable def ZP (t u:TT):TT:=λσ H Q=>t σ H λc H1=>if c=true then Q true H1 else u σ H1 Q
noncomputable def Xp (t:TT):TT:=λσ H Q=>t σ H λc H1=>Q (!c) H1
theorem MR (ha:PT X a tA):PW X (.BoolOp .And [a] pos) tA:=by
  intro wh pins s σ H Q I h
  refine isTrue_and (gw (ha pins s σ H Q I h) λc s1 e=>?_)
  cases c with
  | true=>exact isTrue_and_nil e
  | false=>exact e
theorem PV (ha:PT X a tA):PW X (.BoolOp .Or [a] pos) tA:=by
  intro wh pins s σ H Q I h
  refine isTrue_or (gw (ha pins s σ H Q I h) λc s1 e=>?_)
  cases c with
  | false=>exact isTrue_or_nil e
  | true=>exact e
theorem PX (ha:PT X a tA) (hb:PW X (.BoolOp .And (b::rest) pos) Ws):PW X (.BoolOp .And (a::b::rest) pos) (Te tA Ws):=by
  intro wh pins s σ H Q I h
  refine isTrue_and (gw (ha pins s σ H _ I h) λc s1 zz=>?_)
  obtain ⟨H1,I1,q1⟩:=zz
  cases c with
  | true=>exact hb wh pins s1 σ H1 Q I1 q1
  | false=>exact ⟨H1,I1,q1⟩
theorem Tf (ha:PT X a tA) (hb:PW X (.BoolOp .Or (b::rest) pos) Ws):PW X (.BoolOp .Or (a::b::rest) pos) (ZP tA Ws):=by
  intro wh pins s σ H Q I h
  refine isTrue_or (gw (ha pins s σ H _ I h) λc s1 zz=>?_)
  obtain ⟨H1,I1,q1⟩:=zz
  cases c with
  | true=>exact ⟨H1,I1,q1⟩
  | false=>exact hb wh pins s1 σ H1 Q I1 q1
theorem PY (ha:PT X a tA):PT X (.UnaryOp .Not a pos) (Xp tA):=by
  intro pins s σ H Q I h
  exact isTrue_not (ha pins s σ H (λc H1=>Q (!c) H1) I h)
noncomputable def Tg (ta tb:TE):TE:=λσ H Q=>ta σ H λx H1=>∃ c,x=.bl c∧if c=true then tb σ H1 Q else Q (.bl false) H1
noncomputable def Th (ta:TE):TE:=λσ H Q=>ta σ H λx H1=>∃ c,x=.bl c∧Q (.bl (!c)) H1
theorem PZ {op} {t:TE} (h:PE X a t):PE X (.BoolOp op [a] pos) t:=λpins s σ H Q I hw=>BoolOp_one (h pins s σ H Q I hw)
theorem P0 (ha:PE X a ta) (hb:PE X (.BoolOp .And (b::rest) pos) tb):PE X (.BoolOp .And (a::b::rest) pos) (Tg ta tb):=by
  intro pins s σ H Q I h
  refine BoolOp_and (gw (ha pins s σ H _ I h) λv s1 zz=>?_)
  obtain ⟨x,H1,I1,r1,q1⟩:=zz
  obtain ⟨c,rfl,q1⟩:=q1
  cases r1
  refine wpAny_truthy_bool ?_
  cases c with
  | true=>exact hb pins s1 σ H1 Q I1 q1
  | false=>exact ⟨.bl false,H1,I1,rfl,q1⟩
theorem P1 (ha:PE X a ta):PE X (.UnaryOp .Not a pos) (Th ta):=by
  intro pins s σ H Q I h
  refine UnaryOp_ (gw (ha pins s σ H _ I h) λv s1 zz=>?_)
  obtain ⟨x,H1,I1,r1,q1⟩:=zz
  obtain ⟨c,rfl,q1⟩:=q1
  cases r1
  exact not_of (wpAny_truthy_bool ⟨.bl (!c),H1,I1,rfl,q1⟩)
end
noncomputable def q8 (K:PySem.W.Frag) (H:Hp) (a:Addr) (xs:List V):Prop:=
  Rd H a (.lst xs) ∨
    ∃ (o:Obj) (its:Array Value) (n:Nat),K.lookup a=some o∧o.cls=.type "list"∧o.dict=none∧o.data=.seq its n∧its.size≤sizeLine∧Vals xs its.toList
noncomputable def rG (K:PySem.W.Frag) (H:Hp) (a:Addr) (xs:List V):Prop:=
  Rd H a (.tup xs) ∨
    ∃ (o:Obj) (its:Array Value) (n:Nat),K.lookup a=some o∧o.cls=.type "tuple"∧o.data=.seq its n∧its.size≤sizeLine∧Vals xs its.toList
noncomputable def Xq:Value→Option V
  | .none=>some .i9
  | .bool b=>some (.bl b)
  | .int i _=>some (.int i)
  | .str x _=>some (.str x)
  | .bytes b _=>some (.SX b)
  | .float b _=>some (.SY b)
  | .ref a=>some (.ref a)
  | .type n=>some (.ty n)
  | _=>none
theorem RelV.abs {x:V} (r:RelV x u):Xq u=some x:=by
  cases x with
  | i9=>cases r;rfl
  | bl _=>cases r;rfl
  | int _=>obtain ⟨t,rfl⟩:=r;rfl
  | str _=>obtain ⟨t,rfl⟩:=r;rfl
  | SX _=>obtain ⟨t,rfl⟩:=r;rfl
  | SY _=>obtain ⟨t,rfl⟩:=r;rfl
  | ref _=>cases r;rfl
  | ty _=>cases r;rfl
theorem RelV.inj {x:V} (r:RelV x u) (q:RelV y u):x=y:=Option.some.inj (r.abs.symm.trans q.abs)
theorem Vals.inj:∀ {xs ys:List V} {us:List Value},Vals xs us→Vals ys us→xs=ys
  | _,_,_,.nil,.nil=>rfl
  | _,_,_,.cons r t,.cons r' t'=>by rw [r.inj r',Vals.inj t t']
section
variable {X:Cx} {pins:List (Addr×Obj)} {σ:St} {H:Hp} {s:Shared} {a:Addr} {xs ys:List V}
theorem q8.of (h:H a=some (.lst xs)):q8 K H a xs:=.inl (.inl h)
theorem rG.of (h:H a=some (.tup xs)):rG K H a xs:=.inl (.inl h)
theorem Inv.list (I:Inv X pins σ H s) (h:q8 X.K H a xs):∃ its:List Value,Vals xs its∧PlainL s.heap a its.toArray∧xs.length≤sizeLine:=by
  rcases h with h | ⟨o,its,n,hk,hc,hd,hs,hz,r⟩
  · obtain ⟨z,its,n,r,e⟩:=h.ok I.hok
    exact ⟨its,r,⟨_,n,e,rfl,rfl,rfl⟩,z⟩
  · refine ⟨its.toList,r,⟨o,n,I.Ff a o hk,hc,hd,by simpa using hs⟩,?_⟩
    have e:=r.length
    simp only [Array.length_toList] at e
    nofun
theorem Inv.tuple (I:Inv X pins σ H s) (h:rG X.K H a xs):∃ its:List Value,Vals xs its∧IsTup s.heap a its.toArray∧xs.length≤sizeLine:=by
  rcases h with h | ⟨o,its,n,hk,hc,hs,hz,r⟩
  · obtain ⟨z,its,r,p⟩:=h.ok I.hok
    exact ⟨its,r,p,z⟩
  · refine ⟨its.toList,r,⟨o,I.Ff a o hk,hc,n,by simpa using hs⟩,?_⟩
    have e:=r.length
    simp only [Array.length_toList] at e
    nofun
theorem Inv.rQ (I:Inv X pins σ H s) (h:q8 X.K H a xs) (h':q8 X.K H a ys):xs=ys:=by
  obtain ⟨its,r,⟨o,n,e,_,_,d⟩,_⟩:=I.list h
  obtain ⟨its',r',⟨o',n',e',_,_,d'⟩,_⟩:=I.list h'
  rw [e] at e';cases e'
  rw [d] at d'
  injection d' with d1 _
  have:its=its':=by simpa using congrArg Array.toList d1
  subst this
  exact r.inj r'
theorem Inv.wU (I:Inv X pins σ H s) (h:rG X.K H a xs) (h':rG X.K H a ys):xs=ys:=by
  obtain ⟨its,r,⟨o,e,_,n,d⟩,_⟩:=I.tuple h
  obtain ⟨its',r',⟨o',e',_,n',d'⟩,_⟩:=I.tuple h'
  rw [e] at e';cases e'
  rw [d] at d'
  injection d' with d1 _
  have:its=its':=by simpa using congrArg Array.toList d1
  subst this
  exact r.inj r'
end
section
variable {X:Cx} {st:Stmt} {rest:List Stmt} {t u:TS} {e:Expr} {te:TE} {pos:Pos}
noncomputable def Ti:TS:=λD σ H=>D.nx σ H
noncomputable def Tj (t u:TS):TS:=λD σ H=>t {D with nx:=u D} σ H
theorem MT:Fg X [] Ti:=λ_ _ σ H _ I h=>wpAny_execs_nil ⟨σ,H,I,h⟩
theorem JX (h1:PS X st t) (h2:Fg X rest u):Fg X (st::rest) (Tj t u):=by
  intro pins s σ H D I h
  refine wpAny_execs_cons (gw (h1 pins s σ H {D with nx:=u D} I h) λf s1 q=>?_)
  cases f with
  | next=>
    obtain ⟨σ',H',I',q⟩:=q
    exact h2 pins s1 σ' H' D I' q
  | ret v=>exact q
  | brk=>exact q
  | cont=>exact q
theorem MU (h1:PS X st t):Fg X [st] t:=by
  intro pins s σ H D I h
  refine wpAny_execs_cons (gw (h1 pins s σ H D I h) λf s1 q=>?_)
  cases f with
  | next=>exact wpAny_execs_nil q
  | ret v=>exact q
  | brk=>exact q
  | cont=>exact q
theorem Inv.quiet (I:Inv X pins σ H s):interactive X.env=false:=by simp [interactive,I.ok.kind]
noncomputable def Tn (te:TE):TS:=λD σ H=>te σ H λ_ H1=>D.nx σ H1
theorem MV (he:PE X e te) (hs:swapsWith e none pos.line X.env=pure false:=by rfl):PS X (.Expr e pos) (Tn te):=by
  intro pins s σ H D I h
  exact wpAny_Expr_any (gw (he pins s σ H _ I h) λv s1 zz=>by obtain ⟨x,H1,I1,r1,q1⟩:=zz;exact ⟨σ,H1,I1,q1⟩) I.quiet hs
noncomputable def Xr (te:TE):TS:=λD σ H=>te σ H D.rt
theorem P4 (he:PE X e te):PS X (.Return (some e) pos) (Xr te):=by
  intro pins s σ H D I h
  exact wpAny_Return_some (gw (he pins s σ H _ I h) λv s1 zz=>by obtain ⟨x,H1,I1,r1,q1⟩:=zz;exact ⟨x,σ,H1,I1,r1,q1⟩)
noncomputable def Xs (c:TT) (t u:TS):TS:=λD σ H=>c σ H λb H1=>if b=true then t D σ H1 else u D σ H1
theorem To {a b:List Stmt} (hc:PT X c tc) (ha:Fg X a t) (hb:Fg X b u):PS X (.If c a b pos) (Xs tc t u):=by
  intro pins s σ H D I h
  refine wpAny_If (gw (hc pins s σ H _ I h) λd s1 zz=>?_)
  obtain ⟨H1,I1,q1⟩:=zz
  cases d with
  | true=>exact ha pins s1 σ H1 D I1 q1
  | false=>exact hb pins s1 σ H1 D I1 q1
end
noncomputable abbrev TG:=V→St→Hp→(St→Hp→Prop)→Prop
noncomputable abbrev P5:=List V→St→Hp→(St→Hp→Prop)→Prop
noncomputable def PG (X:Cx) (target:Expr) (t:TG):Prop:=
  ∀ (pins:List (Addr×Obj)) (s:Shared) (σ:St) (H:Hp) (v:V) (u:Value) (Q:St→Hp→Prop),Inv X pins σ H s→RelV v u→t v σ H Q →
    wpAny (model X.prog X.w) X.A (assign target X.env u) (λ_ s'=>∃ σ' H',Inv X pins σ' H' s'∧Q σ' H') X.xe s
noncomputable def Wt (X:Cx) (ts:List Expr) (t:P5):Prop:=
  ∀ (pins:List (Addr×Obj)) (s:Shared) (σ:St) (H:Hp) (vs:List V) (us:List Value) (Q:St→Hp→Prop),Inv X pins σ H s→Vals vs us→t vs σ H Q →
    wpAny (model X.prog X.w) X.A (assignInOrder ((assignEach ts X.env).map (·.2)) us) (λ_ s'=>∃ σ' H',Inv X pins σ' H' s'∧Q σ' H') X.xe s
section
variable {X:Cx} {pos:Pos}
noncomputable def Dv (i:Nat):TG:=λv σ H Q=>Q (σ.set i (some v)) H
theorem Cg (hN:X.N.Nodup) (hi:X.N[i]?=some x) (hx:Loc X.env.scope x) (hf:X.fn x=true∨X.env.scope.names.lookup x=some .local:=by first | exact .inl rfl | exact .inr rfl | assumption):PG X (.Name x pos) (Dv i):=by
  intro pins s σ H v u Q I r h
  exact wpAny_assign_Name (Du I hN hi hx r (λs' I'=>⟨_,H,I',h⟩) hf)
noncomputable def Xu:P5:=λvs σ H Q=>vs=[]∧Q σ H
noncomputable def Tp (t:TG) (u:P5):P5:=λvs σ H Q=>∃ v r,vs=v::r∧t v σ H λσ' H'=>u r σ' H' Q
theorem MW:Wt X [] Xu:=by
  intro pins s σ H vs us Q I r h
  obtain ⟨e,h⟩:=h
  subst e
  cases r
  exact assignInOrder_nil ⟨σ,H,I,h⟩
theorem Dw {t:TG} {u:P5} (h1:PG X e t) (h2:Wt X es u)
    (hs:(assignEach (e::es) X.env).map (·.2)=assign e X.env::(assignEach es X.env).map (·.2):=by rfl):Wt X (e::es) (Tp t u):=by
  intro pins s σ H vs us Q I r h
  obtain ⟨v,vr,e1,h⟩:=h
  subst e1
  cases r with
  | cons r rr=>
    rw [hs]
    refine assignInOrder_cons (gw (h1 pins s σ H _ _ _ I r h) λ_ s1 zz=>?_)
    obtain ⟨σ1,H1,I1,q1⟩:=zz
    exact h2 pins s1 σ1 H1 _ _ Q I1 rr q1
noncomputable def Xv (K:PySem.W.Frag) (n:Nat) (t:P5):TG:=λv σ H Q=>∃ a xs,v=.ref a∧rG K H a xs∧xs.length=n∧t xs σ H Q
theorem P6 {k:Nat} {t:P5} (hc:X.calm=true) (h:Wt X es t)
    (hn:(assignEach es X.env).length=n:=by rfl) (hst:(assignEach es X.env).findIdx? (·.1)=none:=by rfl):PG X (.Tuple es k pos) (Xv X.K n t):=by
  intro pins s σ H v u Q I r hw
  obtain ⟨a,xs,e1,hq,hl,hw⟩:=hw
  subst e1
  cases r
  obtain ⟨its,rv,ht,hz⟩:=I.tuple hq
  refine assign_Tuple_tuple (I.ok.hd hc) ht (by simp [hn,← hl,rv.length]) hst λh' hx=>?_
  have I1:Inv X pins σ H {s with heap:=h'}:=I.kept (t':=s.toks) λb o e=>hx b o (Nat.ne_of_lt (Heap.lt_size e)) e
  exact h pins _ σ H xs _ Q I1 (by simpa using rv) hw
noncomputable def P7 (te:TE) (g:TG):TS:=λD σ H=>te σ H λx H1=>g x σ H1 D.nx
theorem P8 {te:TE} (hN:X.N.Nodup) (hi:X.N[i]?=some x) (hx:Loc X.env.scope x) (he:PE X e te) (hs:swapsWith e (some (.Name x pos')) pos.line X.env=pure false:=by rfl) (hf:X.fn x=true∨X.env.scope.names.lookup x=some .local:=by first | exact .inl rfl | exact .inr rfl | assumption) :
    PS X (.Assign [.Name x pos'] e pos) (P7 te (Dv i)):=by
  intro pins s σ H D I h
  refine wpAny_Assign_Name (gw (he pins s σ H _ I h) λv s1 zz=>?_) hs
  obtain ⟨y,H1,I1,r1,q1⟩:=zz
  exact Du I1 hN hi hx r1 (λs2 I2=>⟨_,H1,I2,q1⟩) hf
end
section
variable {X:Cx} {pos:Pos}
noncomputable def P9 (c:TT) (tb:TS):TS:=λD σ H=>∃ W:Nat→St→Hp→Prop,(∃ m,W m σ H)∧∀ m σ H,W m σ H →
  c σ H λb H1=>if b=true then ∃ N:St→Hp→Prop,(∀ σ' H',N σ' H'→∃ m',m'<m∧W m' σ' H')∧tb {D with nx:=N,ct:=N,bk:=D.nx} σ H1 else D.nx σ H1
theorem JY (hp:PassesOwn (model X.prog X.w) X.A X.env X.xe) (hc:PT X c tc) (hb:Fg X body tb):PS X (.While c body [] pos) (P9 tc tb):=by
  intro pins s σ H D I h
  obtain ⟨W,⟨m0,w0⟩,turn⟩:=h
  refine wpAny_While (codeAny_whileLoop (λn s'=>∃ σ' H',Inv X pins σ' H' s'∧W n σ' H') ?_ m0 ⟨σ,H,I,w0⟩)
  rintro n s1 ⟨σ1,H1,I1,w1⟩
  refine wpAny_passesOwn hp (gw (hc pins s1 σ1 H1 _ I1 (turn n σ1 H1 w1)) λb s2 zz=>?_)
  obtain ⟨H2,I2,q2⟩:=zz
  cases b with
  | true=>
    obtain ⟨N,hN,q2⟩:=q2
    rw [if_pos rfl]
    refine wpAny_passesOwn hp (gw (hb pins s2 σ1 H2 _ I2 q2) λf s3 q3=>?_)
    cases f with
    | next=>
      obtain ⟨σ3,H3,I3,n3⟩:=q3
      obtain ⟨m',hm,w3⟩:=hN σ3 H3 n3
      exact ⟨m',hm,σ3,H3,I3,w3⟩
    | cont=>
      obtain ⟨σ3,H3,I3,n3⟩:=q3
      obtain ⟨m',hm,w3⟩:=hN σ3 H3 n3
      exact ⟨m',hm,σ3,H3,I3,w3⟩
    | brk=>exact q3
    | ret v=>exact q3
  | false=>
    rw [if_neg Bool.false_ne_true]
    exact wpAny_execs_nil ⟨σ1,H2,I2,q2⟩
end
structure It where
  go:Nat→Hp→Prop
  Bp:Nat→Hp→V→Hp→Prop
  stop:Nat→Hp→Prop
variable {R:It→Hp→Prop}
noncomputable def pq (X:Cx) (pins:List (Addr×Obj)) (H:Hp) (b:Addr):Prop:=
  H b=none∧b≠X.env.locals∧b∉X.fs∧(b∈X.ex∨X.s₀.heap.objs.size≤b)∧(∀ x c,X.env.cells.lookup x=some c→c≠b)∧∀ p∈X.pn++pins,p.1≠b
theorem Inv.uZ {H':Hp} (I:Inv X pins σ H s) (hb:s.heap.objs.size≤b) (hn:H' b=none):pq X pins H' b:=by
  refine ⟨hn,Nat.ne_of_gt (Nat.lt_of_lt_of_le I.lt hb),I.Xl hb,.inr (Nat.le_trans I.sz hb),λx c e z=>?_,λp hp z=>?_⟩
  · obtain ⟨v,q⟩:=I.cell x c e
    exact absurd (Nat.lt_of_lt_of_le q.lt (by rw [z];exact hb)) (Nat.lt_irrefl _)
  · exact absurd (Nat.lt_of_lt_of_le (Heap.lt_size (I.pin p hp).1) (by rw [z];exact hb)) (Nat.lt_irrefl _)
structure Turn (P:Program) (w:World) (K:PySem.W.Frag) (tg:Expr) (J:It) (fp:List Addr) (it:Addr) (tn:Nat→Heap→Prop):Prop where
  mem:it∈fp
  obj:∀ i h,tn i h→∀ b∈fp,∃ o,h.get? b=some o∧∀ v,o.data≠.cell v
  keep:∀ i h h',tn i h→(∀ b∈fp,∀ o,h.get? b=some o→h'.get? b=some o)→tn i h'
  item:∀ (X:Cx),X.prog=P→X.w=w→X.K=K→X.calm=true→∀ (i:Nat) (pins:List (Addr×Obj)) (s:Shared) (σ:St) (H:Hp) (E:Value→Shared→Prop),Inv X pins σ H s→(∀ b∈fp,pq X pins H b)→tn i s.heap→J.go i H →
    wpAny (model P w) X.A (pyNext (.ref it)) (λr s1=>∃ u,r=some u ∧
      wpAny (model P w) X.A (letOwnedTupleGo tg (.ref it) u) (λ_ s2=>∃ x H',Inv X pins σ H' s2∧RelV x u∧J.Bp i H x H'∧tn (i+1) s2.heap∧∀ b∈fp,H' b=none) E s1) E s
  done:∀ (X:Cx),X.prog=P→X.w=w→X.K=K→X.calm=true→∀ (i:Nat) (pins:List (Addr×Obj)) (s:Shared) (σ:St) (H:Hp) (E:Value→Shared→Prop),Inv X pins σ H s→(∀ b∈fp,pq X pins H b)→tn i s.heap→J.stop i H →
    wpAny (model P w) X.A (pyNext (.ref it)) (λr s1=>r=none∧Inv X pins σ H s1) E s
  self:∀ (A:Around) (i:Nat) (s:Shared) (Q:Value→Shared→Prop) (E:Value→Shared→Prop),tn i s.heap→Q (.ref it) s→wpAny (model P w) A (pyIter (.ref it)) Q E s
noncomputable abbrev TI:=St→Hp→(It→Hp→Prop)→Prop
noncomputable def ZQ (X:Cx) (pins:List (Addr×Obj)) (σ:St) (tg:Expr) (R:It→Hp→Prop) (itv:Value) (s2:Shared):Prop:=
  ∃ (it:Addr) (fp:List Addr) (tn:Nat→Heap→Prop) (J:It) (H':Hp),itv=.ref it∧Inv X pins σ H' s2∧Turn X.prog X.w X.K tg J fp it tn∧tn 0 s2.heap∧(∀ b∈fp,pq X pins H' b)∧R J H'
noncomputable def PI (X:Cx) (tg iter:Expr) (wi:TI):Prop:=
  ∀ (pins:List (Addr×Obj)) (s:Shared) (σ:St) (H:Hp) (R:It→Hp→Prop),Inv X pins σ H s→wi σ H R →
    wpAny (model X.prog X.w) X.A (eval iter X.env) (λv s1=>wpAny (model X.prog X.w) X.A (pyIter v) (ZQ X pins σ tg R) X.xe s1) X.xe s
theorem Bq {M:Model} {A:Around} {E:Value→Shared→Prop} {tg:Expr} {u:Value} {o:Obj} {n:String} {Q:Unit→Shared→Prop} (ho:s.heap.get? it=some o) (hc:o.cls=.type n) (hd:o.data=.fields vs)
    (hn:["enumerate","zip","dict_itemiterator","dict_reverseitemiterator","odict_iterator","itertools.zip_longest","itertools.pairwise"].contains n=false) (hQ:Q () s):wpAny M A (letOwnedTupleGo tg (.ref it) u) Q E s:=by
  unfold letOwnedTupleGo
  cases tg<;>first
    | exact wpAny_pure hQ
    | (cases u<;>first
        | exact wpAny_pure hQ
        | (refine wpAny_bind (wpAny_load ho ?_)
           rw [hc,hd]
           show wpAny M A (if (["enumerate","zip","dict_itemiterator","dict_reverseitemiterator","odict_iterator","itertools.zip_longest","itertools.pairwise"].contains n&&vs[0]?==some (rawInt _))=true then _ else _) Q E s
           rw [if_neg (by intro h;rw [hn,Bool.false_and] at h;cases h)]
           exact wpAny_pure hQ))
noncomputable def MH (K:PySem.W.Frag) (a:Addr):It:=
  ⟨λi H=>∃ xs x,q8 K H a xs∧xs[i]?=some x,λi H x H'=>H'=H∧∀ xs,q8 K H a xs→xs[i]?=some x,λi H=>∃ xs,q8 K H a xs∧xs.length≤i⟩
noncomputable def Wu (K:PySem.W.Frag) (a:Addr):It:=
  ⟨λi H=>∃ xs x,rG K H a xs∧xs[i]?=some x,λi H x H'=>H'=H∧∀ xs,rG K H a xs→xs[i]?=some x,λi H=>∃ xs,rG K H a xs∧xs.length≤i⟩
noncomputable def Ci (lo:Int) (n:Nat):It:=⟨λi _=>i<n,λi H x H'=>H'=H∧x=.int (lo+i),λi _=>n≤i⟩
theorem Iw (a it:Addr):Turn P w K tg (MH K a) [it] it (λi h=>h.IsListIter it a i) where
  mem:=by simp
  obj:=λi h st b hb=>by
    have e:b=it:=by simpa using hb
    subst e
    obtain ⟨o,e,c,d⟩:=st
    exact ⟨o,e,λv z=>by rw [d] at z;cases z⟩
  keep:=λi h h' st k=>st.at λo e=>k it (by simp) o e
  item:=by
    intro X hP hw hK hc i pins s σ H E I hf st hg
    subst hP hw hK
    obtain ⟨xs,x,hq,hx⟩:=hg
    obtain ⟨its,rv,p,hz⟩:=I.list hq
    obtain ⟨u,hu,ru⟩:=rv.get hx
    obtain ⟨f0,f1,f2,f3,f4,f5⟩:=hf it (by simp)
    refine wpAny_pyNext_list_item st p.isList (x:=u) (by simpa using hu) λh' st' sb=>?_
    have I1:Inv X pins σ H {s with heap:=h'}:=I.turned (t':=s.toks) (λb o hb e=>(sb.2 b hb).trans e) f0 f1 f3 f4 f5
    obtain ⟨o,e,c,d⟩:=id st'
    exact ⟨u,rfl,Bq (s:={s with heap:=h'}) e c d (by decide) ⟨x,H,I1,ru,⟨rfl,λys hy=>by rw [I.rQ hy hq];exact hx⟩,st',λb hb=>(hf b hb).1⟩⟩
  done:=by
    intro X hP hw hK hc i pins s σ H E I hf st hg
    subst hP hw hK
    obtain ⟨xs,hq,hx⟩:=hg
    obtain ⟨its,rv,p,hz⟩:=I.list hq
    obtain ⟨f0,f1,f2,f3,f4,f5⟩:=hf it (by simp)
    have hl:=rv.length
    exact wpAny_pyNext_list_end (I.ok.hd hc) st p.isList (by simp;nofun) λh' eb=>⟨rfl,I.turned (t':=s.toks) (λb o hb e=>eb b o hb e) f0 f1 f3 f4 f5⟩
  self:=λ_ _ _ _ _ st h=>wpAny_pyIter_listiter st h
theorem Fj (a it:Addr):Turn P w K tg (Wu K a) [it] it (λi h=>h.IsTupleIter it a i) where
  mem:=by simp
  obj:=λi h st b hb=>by
    have e:b=it:=by simpa using hb
    subst e
    obtain ⟨o,e,c,d⟩:=st
    exact ⟨o,e,λv z=>by rw [d] at z;cases z⟩
  keep:=λi h h' st k=>st.at λo e=>k it (by simp) o e
  item:=by
    intro X hP hw hK hc i pins s σ H E I hf st hg
    subst hP hw hK
    obtain ⟨xs,x,hq,hx⟩:=hg
    obtain ⟨its,rv,p,hz⟩:=I.tuple hq
    obtain ⟨u,hu,ru⟩:=rv.get hx
    obtain ⟨f0,f1,f2,f3,f4,f5⟩:=hf it (by simp)
    refine wpAny_pyNext_tuple_item st (show s.heap.IsTuple a its.toArray from p) (x:=u) (by simpa using hu) λh' st' sb=>?_
    have I1:Inv X pins σ H {s with heap:=h'}:=I.turned (t':=s.toks) (λb o hb e=>(sb.2 b hb).trans e) f0 f1 f3 f4 f5
    obtain ⟨o,e,c,d⟩:=id st'
    exact ⟨u,rfl,Bq (s:={s with heap:=h'}) e c d (by decide) ⟨x,H,I1,ru,⟨rfl,λys hy=>by rw [I.wU hy hq];exact hx⟩,st',λb hb=>(hf b hb).1⟩⟩
  done:=by
    intro X hP hw hK hc i pins s σ H E I hf st hg
    subst hP hw hK
    obtain ⟨xs,hq,hx⟩:=hg
    obtain ⟨its,rv,p,hz⟩:=I.tuple hq
    obtain ⟨f0,f1,f2,f3,f4,f5⟩:=hf it (by simp)
    have hl:=rv.length
    exact wpAny_pyNext_tuple_end (I.ok.hd hc) st (show s.heap.IsTuple a its.toArray from p) (by simp;nofun) λh' eb=>⟨rfl,I.turned (t':=s.toks) (λb o hb e=>eb b o hb e) f0 f1 f3 f4 f5⟩
  self:=λ_ _ _ _ _ st h=>wpAny_pyIter_tupleiter st h
theorem Fl (it:Addr) (lo:Int) (n:Nat):Turn P w K tg (Ci lo n) [it] it (λi h=>IsRangeIter h it (lo+(i:Nat)*1) ((n:Int) - (i:Nat)) 1) where
  mem:=by simp
  obj:=λi h st b hb=>by
    have e:b=it:=by simpa using hb
    subst e
    exact ⟨_,st,λv z=>by
      have z':Data.fields _=Data.cell v:=z
      cases z'⟩
  keep:=λi h h' st k=>k it (by simp) _ st
  item:=by
    intro X hP hw hK hc i pins s σ H E I hf st hg
    subst hP hw hK
    obtain ⟨f0,f1,f2,f3,f4,f5⟩:=hf it (by simp)
    have W:=Walks.range (prog:=X.prog) (w:=X.w) (I.ok.hd hc) it lo 1 n
    refine nt I.os.2 (W.item i s _ _ hg st λv h' tk hv st' kk=>λht=>?_)
    obtain ⟨t,rfl⟩:=hv
    have I1:Inv X pins σ H {s with heap:=h',toks:=tk}:=I.turned (λb o hb e=>kk b o (by simpa using hb) e) f0 f1 f3 f4 f5
    refine ⟨_,rfl,Bq (s:={s with heap:=h',toks:=tk}) (n:="range_iterator") st' rfl rfl (by decide) ⟨.int (lo+i),H,I1,⟨t,?_⟩,⟨rfl,rfl⟩,st',λb hb=>(hf b hb).1⟩⟩
    rw [Int.mul_one]
  done:=by
    intro X hP hw hK hc i pins s σ H E I hf st hg
    subst hP hw hK
    obtain ⟨f0,f1,f2,f3,f4,f5⟩:=hf it (by simp)
    exact wpAny_pyNext_range_end (I.ok.hd hc) st (by have:n≤i:=hg;nofun) λh' eb=>⟨rfl,I.turned (t':=s.toks) (λb o hb e=>eb b o hb e) f0 f1 f3 f4 f5⟩
  self:=λ_ _ _ _ _ st h=>wpAny_pyIter_rangeiter st h
section
variable {X:Cx} {tg:Expr}
theorem JZ {E:Value→Shared→Prop} {t u v:Tok} (I:Inv X pins σ H s) (h1:-(2^62)≤lo) (h2:lo<2^62) (h3:-(2^62)≤hi) (h4:hi<2^62)
    (q:R (Ci lo (hi - lo).toNat) H) (ht:0<tk:=by first | exact Nat.succ_pos _ | exact (Inv.os (by assumption)).2 | assumption | nofun):wpAny (model X.prog X.w) X.A (pyIter (.ref s.heap.objs.size)) (ZQ X pins σ tg R) E {s with heap:=s.heap.push {cls:=.type "range",data:=.fields #[.int lo t,.int hi u,.int 1 v]},toks:=tk}:=by
  refine wpAny_pyIter_range (IsRange.new ..) (small_one h1 h2 h3 h4) ?_
  have I1:Inv X pins σ H {s with heap:=s.heap.push {cls:=.type "range",data:=.fields #[.int lo t,.int hi u,.int 1 v]},toks:=tk}:=I.kept λb o e=>Heap.get?_push_of_some _ e
  refine ⟨(s.heap.push {cls:=.type "range",data:=.fields #[.int lo t,.int hi u,.int 1 v]}).objs.size,[(s.heap.push {cls:=.type "range",data:=.fields #[.int lo t,.int hi u,.int 1 v]}).objs.size],_,_,H,rfl,
    I1.kept (t':=tk) λb o e=>Heap.get?_push_of_some _ e,Fl _ lo (hi - lo).toNat,?_,λb hb=>?_,q⟩
  · have e1:lo+((0:Nat):Int)*1=lo:=by simp
    have e2:(((hi - lo).toNat:Nat):Int) - ((0:Nat):Int)=Builtin.Range.rangeSize lo hi 1:=by rw [rangeSize_one];split<;>nofun
    show IsRangeIter _ _ (lo+((0:Nat):Int)*1) ((((hi - lo).toNat:Nat):Int) - ((0:Nat):Int)) 1
    rw [e1,e2]
    exact Heap.get?_push_size _ rfl
  · have e:b=(s.heap.push {cls:=.type "range",data:=.fields #[.int lo t,.int hi u,.int 1 v]}).objs.size:=by simpa using hb
    subst e
    exact I1.uZ (Nat.le_refl _) (I1.hok.fresh (Nat.le_refl _))
noncomputable def OL (ta:TA):TI:=λσ H R=>ta σ H λvs H1=>∃ j:Int,vs=[.int j]∧-(2^62)≤j∧j<2^62∧R (Ci 0 j.toNat) H1
theorem Br {a:Expr} {ta:TA} {p:Pos} (hg:Gl X "range") (hm:X.mg "range"=none) (ha:PA X [a] ta) (hs:starEach [a] X.env=[(false,eval a X.env)]:=by rfl):PI X tg (.Call (.Name "range" p) [a] [] pos) (OL ta):=by
  intro pins s σ H R I h
  refine Call_ (iy I hg hm boot_range (PyProof.Rows.callWith_type1 (gw (ha pos pins s σ H _ I h) λus s1 zz=>?_) hs rfl))
  obtain ⟨vs,H1,I1,r1,q1⟩:=zz
  obtain ⟨j,e,q1,q2,q⟩:=q1
  subst e
  cases r1 with
  | cons r rr=>
    cases rr
    obtain ⟨t,rfl⟩:=r
    exact call_range_1 (JZ I1 (by nofun) (by nofun) q1 q2 (by simpa using q))
noncomputable def Xw (wi:TI) (g:TG) (tb:TS):TS:=λD σ H=>wi σ H λJ H1=>∃ W:Nat→Nat→St→Hp→Prop,(∃ m,W 0 m σ H1)∧∀ i m σ H,W i m σ H →
  (J.stop i H∧D.nx σ H)∨(J.go i H∧∃ N:St→Hp→Prop,(∀ σ' H',N σ' H'→∃ m',m'<m∧W (i+1) m' σ' H')∧∀ x H',J.Bp i H x H'→g x σ H' λσ2 H2=>tb {D with nx:=N,ct:=N,bk:=D.nx} σ2 H2)
noncomputable def wV (fp:List Addr) (h:Heap):List (Addr×Obj):=fp.filterMap λb=>(h.get? b).map λo=>(b,o)
theorem pW {o:Obj} (hb:b∈fp) (e:h.get? b=some o):(b,o)∈wV fp h:=List.mem_filterMap.mpr ⟨b,hb,by rw [e];rfl⟩
theorem Iz (hp:p∈wV fp h):p.1∈fp∧h.get? p.1=some p.2:=by
  obtain ⟨b,hb,e⟩:=List.mem_filterMap.mp hp
  cases q:h.get? b with
  | none=>rw [q] at e;cases e
  | some o=>
    rw [q] at e
    have e':(b,o)=p:=Option.some.inj e
    subst e'
    exact ⟨hb,q⟩
theorem Inv.pinned (I:Inv X pins σ H s) (hf:∀ b∈fp,pq X pins H b) (ho:∀ b∈fp,∃ o,s.heap.get? b=some o∧∀ v,o.data≠.cell v):Inv X (pins++wV fp s.heap) σ H s:=
  I.Cf λp hp=>(List.mem_append.mp hp).elim (λz=>I.pin p (List.mem_append_right _ z)) λz=>by
    obtain ⟨hb,e⟩:=Iz z
    obtain ⟨f0,f1,f2,_⟩:=hf p.1 hb
    obtain ⟨o,e',d⟩:=ho p.1 hb
    rw [e] at e';cases e'
    exact ⟨e,f0,f1,f2,d⟩
theorem Inv.zm (I:Inv X (pins++pl) σ H s):Inv X pins σ H s:=I.Cf λp hp=>I.pin p (List.mem_append_right _ (List.mem_append_left _ hp))
theorem Fo {wi:TI} {g:TG} {pos:Pos} (hp:PassesOwn (model X.prog X.w) X.A X.env X.xe) (hc:X.calm=true) (hi:PI X tg iter wi) (hg:PG X tg g) (hb:Fg X body tb)
    (hs:∀ x,foldedSetIterable iter X.env x=pure x:=by intro _;rfl):PS X (.For tg iter body [] pos) (Xw wi g tb):=by
  intro pins s σ H D I h
  refine wpAny_For (gw (hi pins s σ H _ I h) λv s1 h1=>gw h1 λitv s2 h2=>?_) hs
  obtain ⟨it,fp,tn,J,H2,e,I2,T,st2,f2,W,⟨m0,w0⟩,turn⟩:=h2
  subst e
  have Qa:∀ {H':Hp},(∀ b∈fp,H' b=none)→∀ b∈fp,pq X pins H' b:=λhn b hb=>⟨hn b hb,(f2 b hb).2⟩
  refine codeAny_forLoop_any (λn s'=>∃ i σ' H',Inv X pins σ' H' s'∧tn i s'.heap∧(∀ b∈fp,H' b=none)∧W i n σ' H') ?_ m0 ⟨0,σ,H2,I2,st2,λb hb=>(f2 b hb).1,w0⟩
  rintro n s3 ⟨i,σ3,H3,I3,st3,ZR,w3⟩
  rcases turn i n σ3 H3 w3 with ⟨stop,qn⟩ | ⟨go,N,hN,step⟩
  · refine wpAny_passesOwn hp (gw (T.done X rfl rfl rfl hc i pins s3 σ3 H3 X.xe I3 (Qa ZR) st3 stop) λr s4 zz=>?_)
    obtain ⟨hr,I4⟩:=zz
    subst hr
    exact wpAny_execs_nil ⟨σ3,H3,I4,qn⟩
  · refine wpAny_passesOwn hp (gw (T.item X rfl rfl rfl hc i pins s3 σ3 H3 X.xe I3 (Qa ZR) st3 go) λr s4 zz=>?_)
    obtain ⟨u,hr,h4⟩:=zz
    subst hr
    refine wpAny_passesOwn hp (gw h4 λ_ s5 zz=>?_)
    obtain ⟨x,H5,I5,r5,y5,Sv,Wv⟩:=zz
    have I5':=I5.pinned (Qa Wv) (T.obj _ _ Sv)
    refine wpAny_passesOwn hp (gw (hg _ s5 σ3 H5 x u _ I5' r5 (step x H5 y5)) λ_ s6 zz=>?_)
    obtain ⟨σ6,H6,I6,q6⟩:=zz
    refine wpAny_passesOwn hp (gw (hb _ s6 σ6 H6 _ I6 q6) λf s7 q7=>?_)
    have again:∀ {σ7:St} {H7:Hp},Inv X (pins++wV fp s5.heap) σ7 H7 s7→N σ7 H7→∃ m,m<n∧∃ i σ' H',Inv X pins σ' H' s7∧tn i s7.heap∧(∀ b∈fp,H' b=none)∧W i m σ' H':=λ{σ7 H7} I7 n7=>by
      obtain ⟨m',hm,w7⟩:=hN σ7 H7 n7
      refine ⟨m',hm,i+1,σ7,H7,I7.zm,T.keep _ _ _ Sv λb hb o e=>(I7.pin (b,o) (List.mem_append_right _ (List.mem_append_right _ (pW hb e)))).1,λb hb=>?_,w7⟩
      obtain ⟨o,e,d⟩:=T.obj _ _ Sv b hb
      exact (I7.pin (b,o) (List.mem_append_right _ (List.mem_append_right _ (pW hb e)))).2.1
    cases f with
    | next=>obtain ⟨σ7,H7,I7,n7⟩:=q7;exact again I7 n7
    | cont=>obtain ⟨σ7,H7,I7,n7⟩:=q7;exact again I7 n7
    | brk=>obtain ⟨σ7,H7,I7,q7⟩:=q7;exact ⟨σ7,H7,I7.zm,q7⟩
    | ret v=>obtain ⟨x7,σ7,H7,I7,r7,q7⟩:=q7;exact ⟨x7,σ7,H7,I7.zm,r7,q7⟩
end
noncomputable abbrev R2:=V→V→Hp→VK→Prop
variable {r:R2}
noncomputable def nv (X:Cx) (f:Value→Value→Sem Value) (r:R2):Prop:=
  ∀ (pins:List (Addr×Obj)) (s:Shared) (σ:St) (H:Hp) (x y:V) (v u:Value) (Q:VK),Inv X pins σ H s→RelV x v→RelV y u→r x y H Q →
    wpAny (model X.prog X.w) X.A (f v u) (EP X pins σ Q) X.xe s
noncomputable def Xx (X:Cx) (f:Value→Sem Value) (r:V→Hp→VK→Prop):Prop:=
  ∀ (pins:List (Addr×Obj)) (s:Shared) (σ:St) (H:Hp) (x:V) (v:Value) (Q:VK),Inv X pins σ H s→RelV x v→r x H Q →
    wpAny (model X.prog X.w) X.A (f v) (EP X pins σ Q) X.xe s
noncomputable def jb (X:Cx) (f:Value) (r:List V→Hp→VK→Prop):Prop:=
  ∀ (pins:List (Addr×Obj)) (s:Shared) (σ:St) (H:Hp) (xs:List V) (us:List Value) (Q:VK),Inv X pins σ H s→Vals xs us→r xs H Q →
    wpAny (model X.prog X.w) X.A (call f us) (EP X pins σ Q) X.xe s
noncomputable def Xy (X:Cx) (r:V→Hp→(Bool→Hp→Prop)→Prop):Prop:=
  ∀ (pins:List (Addr×Obj)) (s:Shared) (σ:St) (H:Hp) (x:V) (v:Value) (Q:Bool→Hp→Prop),Inv X pins σ H s→RelV x v→r x H Q →
    wpAny (model X.prog X.w) X.A (truthy v) (TP X pins σ Q) X.xe s
noncomputable def Tq (r:R2) (ta tb:TE):TE:=λσ H Q=>ta σ H λx H1=>tb σ H1 λy H2=>r x y H2 Q
noncomputable def tUn (r:V→Hp→VK→Prop) (ta:TE):TE:=λσ H Q=>ta σ H λx H1=>r x H1 Q
noncomputable def rI (C:Int→Int→Prop) (g:Int→Int→V):R2:=λx y H Q=>∃ i j,x=.int i∧y=.int j∧C i j∧Q (g i j) H
noncomputable def JH (g:Int→Int→V):R2:=λx y H Q=>∃ i j,x=.int i∧y=.int j∧Q (g i j) H
noncomputable def rU (g:Int→V):V→Hp→VK→Prop:=λx H Q=>∃ i,x=.int i∧Q (g i) H
section
variable {X:Cx} {a b c:Expr} {ta tb tc:TE} {pos:Pos}
theorem Qc (ha:PE X a ta) (hb:PE X b tb) {pins:List (Addr×Obj)} {s:Shared} {σ:St} {H:Hp} {R:V→V→Hp→Prop} (I:Inv X pins σ H s)
    (h:ta σ H λx H1=>tb σ H1 λy H2=>R x y H2) {Q:Value→Shared→Prop} {f:Value→Value→Sem Value}
    (hf:∀ v u s2 x y H2,Inv X pins σ H2 s2→RelV x v→RelV y u→R x y H2→wpAny (model X.prog X.w) X.A (f v u) Q X.xe s2) :
    wpAny (model X.prog X.w) X.A (eval a X.env) (λv s₁=>wpAny (model X.prog X.w) X.A (eval b X.env) (λu s₂=>wpAny (model X.prog X.w) X.A (f v u) Q X.xe s₂) X.xe s₁) X.xe s:=by
  refine gw (ha pins s σ H _ I h) λv s1 zz=>?_
  obtain ⟨x,H1,I1,r1,q1⟩:=zz
  refine gw (hb pins s1 σ H1 _ I1 q1) λu s2 zz=>?_
  obtain ⟨y,H2,I2,r2,q2⟩:=zz
  exact hf v u s2 x y H2 I2 r1 r2 q2
theorem Tr {op:Operator} (ho:nv X (binaryOp op) r) (ha:PE X a ta) (hb:PE X b tb):PE X (.BinOp a op b pos) (Tq r ta tb):=by
  intro pins s σ H Q I h
  exact wpAny_BinOp (Qc ha hb I h λv u s2 x y H2 I2 rx ry q=>ho pins s2 σ H2 x y v u Q I2 rx ry q)
theorem Tt {op:UnaryOp} {r:V→Hp→VK→Prop} (ho:Xx X (unaryOp op) r) (ha:PE X a ta):PE X (.UnaryOp op a pos) (tUn r ta):=by
  intro pins s σ H Q I h
  exact UnaryOp_ (gw (ha pins s σ H _ I h) λv s1 zz=>by obtain ⟨x,H1,I1,r1,q1⟩:=zz;exact ho pins s1 σ H1 x v Q I1 r1 q1)
theorem Tu {f:Value→Value→Sem Value} {C:Int→Int→Prop}
    (rule:∀ (i j:Int) (t u:Tok) (s:Shared) (Q:Value→Shared→Prop) (E:Value→Shared→Prop),C i j→Q (.int (g i j) s.toks) {s with toks:=s.toks+1}→wpAny (model X.prog X.w) X.A (f (.int i t) (.int j u)) Q E s) :
    nv X f (rI C λi j=>.int (g i j)):=by
  intro pins s σ H x y v u Q I rx ry h
  obtain ⟨i,j,rfl,rfl,hc,q⟩:=h
  obtain ⟨t,rfl⟩:=rx
  obtain ⟨t',rfl⟩:=ry
  exact rule i j t t' s _ _ hc ⟨.int (g i j),H,I.tok _,⟨_,rfl⟩,q⟩
theorem J0 {f:Value→Value→Sem Value}
    (rule:∀ (i j:Int) (t u:Tok) (s:Shared) (Q:Value→Shared→Prop) (E:Value→Shared→Prop),Q (.int (g i j) s.toks) {s with toks:=s.toks+1}→wpAny (model X.prog X.w) X.A (f (.int i t) (.int j u)) Q E s) :
    nv X f (JH λi j=>.int (g i j)):=by
  intro pins s σ H x y v u Q I rx ry h
  obtain ⟨i,j,rfl,rfl,q⟩:=h
  obtain ⟨t,rfl⟩:=rx
  obtain ⟨t',rfl⟩:=ry
  exact rule i j t t' s _ _ ⟨.int (g i j),H,I.tok _,⟨_,rfl⟩,q⟩
theorem MX {g:Int→Int→Bool}
    (rule:∀ (i j:Int) (t u:Tok) (s:Shared) (Q:Value→Shared→Prop) (E:Value→Shared→Prop),Q (.bool (g i j)) s→wpAny (model X.prog X.w) X.A (f (.int i t) (.int j u)) Q E s) :
    nv X f (JH λi j=>.bl (g i j)):=by
  intro pins s σ H x y v u Q I rx ry h
  obtain ⟨i,j,rfl,rfl,q⟩:=h
  obtain ⟨t,rfl⟩:=rx
  obtain ⟨t',rfl⟩:=ry
  exact rule i j t t' s _ _ ⟨.bl (g i j),H,I,rfl,q⟩
noncomputable def Xz (i j:Int):Prop:=0<j∧j<1073741824
noncomputable def MY (i j:Int):Prop:=0≤j∧j≤1000000∧i.natAbs<2^64
noncomputable def Qd (i j:Int):Prop:=(-(2^64)<i∧i<2^64)∨(-(2^64)<j∧j<2^64)
theorem Qd.ok {i j:Int} (h:Qd i j):IntMulOk i j:=by
  rcases h with ⟨h1,h2⟩ | ⟨h1,h2⟩
  · exact .of_left (intBits_le_64 h1 h2)
  · exact .of_right (intBits_le_64 h1 h2)
theorem Qe:nv X (binaryOp .Add) (JH λi j=>.int (i+j)):=J0 λ_ _ _ _ _ _ _ q=>add_int q
theorem Qf:nv X (binaryOp .Sub) (JH λi j=>.int (i - j)):=J0 λ_ _ _ _ _ _ _ q=>sub_int q
theorem Qg:nv X (binaryOp .Mult) (rI Qd λi j=>.int (i*j)):=Tu λ_ _ _ _ _ _ _ hc q=>mul_int q hc.ok
theorem MZ:nv X (binaryOp .FloorDiv) (rI Xz λi j=>.int (i / j)):=Tu λi j _ _ _ _ _ hc q=>by
  have h1:(0:Int)<j:=hc.1
  have h2:j<1073741824:=hc.2
  exact floordiv_int (by nofun) (by rw [Int.fdiv_eq_ediv_of_nonneg i (by nofun)];exact q) (.inl (PyProof.noPylong_small (by nofun)))
theorem Qh:nv X (binaryOp .Mod) (rI (λ_ j=>0<j) λi j=>.int (i % j)):=Tu λi j _ _ _ _ _ hc q=>by
  have h1:(0:Int)<j:=hc
  exact mod_int' (by nofun) (by rw [Int.fmod_eq_emod_of_nonneg i (by nofun)];exact q)
theorem Qi:nv X (binaryOp .Pow) (rI MY λi j=>.int (i^j.toNat)):=Tu λ_ _ _ _ _ _ _ hc q=>pow_int_small hc.1 hc.2.1 hc.2.2 q
theorem Qj:nv X (binaryOp .LShift) (rI MY λi j=>.int (i*2^j.toNat)):=Tu λ_ _ _ _ _ _ _ hc q=>lshift_int_small hc.1 hc.2.1 hc.2.2 q
theorem Qk:nv X (binaryOp .BitAnd) (JH λi j=>.int (Builtin.bitAnd i j)):=J0 λ_ _ _ _ _ _ _ q=>and_int q
theorem Tv:nv X (binaryOp .BitOr) (JH λi j=>.int (Builtin.bitOr i j)):=J0 λ_ _ _ _ _ _ _ q=>or_int q
theorem Ql:nv X (binaryOp .BitXor) (JH λi j=>.int (Builtin.bitXor i j)):=J0 λ_ _ _ _ _ _ _ q=>xor_int q
theorem unI {f:Value→Sem Value} {g:Int→Int}
    (rule:∀ (i:Int) (t:Tok) (s:Shared) (Q:Value→Shared→Prop) (E:Value→Shared→Prop),Q (.int (g i) s.toks) {s with toks:=s.toks+1}→wpAny (model X.prog X.w) X.A (f (.int i t)) Q E s) :
    Xx X f (rU λi=>.int (g i)):=by
  intro pins s σ H x v Q I rx h
  obtain ⟨i,rfl,q⟩:=h
  obtain ⟨t,rfl⟩:=rx
  exact rule i t s _ _ ⟨.int (g i),H,I.tok _,⟨_,rfl⟩,q⟩
theorem Qm:Xx X (unaryOp .USub) (rU λi=>.int (-i)):=unI λ_ _ _ _ _ q=>neg_int q
end
section
variable {X:Cx} {a b c:Expr} {ta tb tc:TE} {pos:Pos}
theorem J1 {Q:VK} {k:Bool} (I:Inv X pins σ H s) (q:Q (.bl k) H) (e:k=k'):EP X pins σ Q (.bool k') s:=by
  subst e
  exact ⟨.bl k,H,I,rfl,q⟩
theorem Tw:nv X (compareOp .Lt) (JH λi j=>.bl (decide (i<j))):=MX λ_ _ _ _ _ _ _ q=>lt_int q
theorem Tz:nv X (compareOp .LtE) (JH λi j=>.bl (decide (i≤j))):=MX λ_ _ _ _ _ _ _ q=>le_int q
theorem OM:nv X (compareOp .Gt) (JH λi j=>.bl (decide (j<i))):=MX λ_ _ _ _ _ _ _ q=>gt_int q
theorem TF:nv X (compareOp .GtE) (JH λi j=>.bl (decide (j≤i))):=MX λ_ _ _ _ _ _ _ q=>ge_int q
theorem IA:nv X (compareOp .In) (λx y H Q=>∃ i j,x=.str i∧y=.str j∧Q (.bl (!(Builtin.Str.occurrences j i 0 j.length 1).isEmpty)) H):=by
  intro pins s σ H x y v u Q I rx ry h
  obtain ⟨i,j,rfl,rfl,q⟩:=h
  obtain ⟨t,rfl⟩:=rx
  obtain ⟨t',rfl⟩:=ry
  exact in_str (J1 I q rfl)
theorem Qn:nv X (compareOp .Is) (λx y H Q=>y=.i9∧Q (.bl (decide (x=.i9))) H):=by
  intro pins s σ H x y v u Q I rx ry h
  obtain ⟨rfl,q⟩:=h
  cases ry
  refine is_none_gen (J1 I q ?_)
  cases x<;>first
    | (cases rx;rfl)
    | (obtain ⟨t,rfl⟩:=rx;rfl)
theorem Fp (b:Expr) {op:CmpOp} (h:op≠.In:=by decide) (h2:op≠.NotIn:=by decide):behindInMarks op b=false:=by
  have e1:(op==CmpOp.In)=false:=by cases op<;>first | rfl | exact absurd rfl h
  have e2:(op==CmpOp.NotIn)=false:=by cases op<;>first | rfl | exact absurd rfl h2
  cases b<;>simp [behindInMarks,e1,e2]
theorem M0 (ho:nv X (compareOp op) r) (ha:PE X a ta) (hb:PE X b tb) (hm:behindInMarks op b=false):PE X (.Compare a [op] [b] pos) (Tq r ta tb):=by
  intro pins s σ H Q I h
  exact wpAny_Compare1 (Qc ha hb I h λv u s2 x y H2 I2 rx ry q=>ho pins s2 σ H2 x y v u Q I2 rx ry q) hm
noncomputable def TH (t:TE):TT:=λσ H Q=>t σ H λx H'=>∃ k,x=.bl k∧Q k H'
theorem M3 (ho:nv X (compareOp op) r) (ha:PE X a ta) (hb:PE X b tb) (hm:behindInMarks op b=false):PT X (.Compare a [op] [b] pos) (TH (Tq r ta tb)):=by
  intro pins s σ H Q I h
  refine wpAny_isTrue_Compare1 (gw (ha pins s σ H _ I h) λv s1 ⟨x,H1,I1,r1,q1⟩=>gw (hb pins s1 σ H1 _ I1 q1) λu s2 ⟨y,H2,I2,r2,q2⟩=>
    gw (ho pins s2 σ H2 x y v u _ I2 r1 r2 q2) λc s3 ⟨z,H3,I3,r3,k,e,q3⟩=>?_) hm
  subst e
  cases r3
  exact wpAny_truthy_bool ⟨H3,I3,q3⟩
noncomputable def Qo (r r':R2) (ta tb tc:TE):TE:=λσ H Q=>ta σ H λx H1=>tb σ H1 λy H2=>r x y H2 λz H3=>∃ k,z=.bl k ∧
  (if k=true then tc σ H3 λw' H4=>r' y w' H4 Q else Q (.bl false) H3)
theorem J2 {r':R2} (ho:nv X (compareOp op) r) (ho':nv X (compareOp op') r') (ha:PE X a ta) (hb:PE X b tb) (hc:PE X c tc)
    (hm:lastMarks [op,op'] [b,c]=false:=by with_unfolding_all rfl):PE X (.Compare a [op,op'] [b,c] pos) (Qo r r' ta tb tc):=by
  intro pins s σ H Q I h
  refine Compare_chain (gw (ha pins s σ H _ I h) λv s1 ⟨x,H1,I1,r1,q1⟩=>chain_link (gw (hb pins s1 σ H1 _ I1 q1) λu s2 ⟨y,H2,I2,r2,q2⟩=>
    gw (ho pins s2 σ H2 x y v u _ I2 r1 r2 q2) λd s3 ⟨z,H3,I3,r3,k,e,q3⟩=>?_)) hm
  subst e
  cases r3
  refine wpAny_truthy_bool ?_
  cases k with
  | false=>exact ite_ff ⟨.bl false,H3,I3,rfl,q3⟩
  | true=>exact ite_tt (chain_last (gw (hc pins s3 σ H3 _ I3 q3) λw' s4 zz=>by obtain ⟨z',H4,I4,r4,q4⟩:=zz;exact ho' pins s4 σ H4 y z' u w' Q I4 r2 r4 q4))
noncomputable def Qp (K:PySem.W.Frag) (x:V) (H:Hp) (k:Bool):Prop:=
  match x with
  | .i9=>k=false
  | .bl b=>k=b
  | .int i=>k=(i != 0)
  | .str y=>y.length≤sizeLine∧k=((y.length:Int) != 0)
  | .SX y=>y.size≤sizeLine∧k=((y.size:Int) != 0)
  | .ref p=>(∃ xs,q8 K H p xs∧k=!xs.isEmpty)∨(∃ xs,rG K H p xs∧k=!xs.isEmpty)∨∃ kvs,H p=some (.dK kvs)∧k=!kvs.isEmpty
  | _=>False
theorem Fq {κ:Type} {kvs:List (κ×V)} {vs:List (κ×Value)} (r:KV kvs vs):(!vs.isEmpty)=!kvs.isEmpty:=by
  cases r<;>rfl
theorem zo (r:Vals xs its):(!its.toArray.isEmpty)=!xs.isEmpty:=by
  cases r<;>simp
theorem wW:(sizeLine:Nat)<2^63:=by rw [sizeLine_eq];decide
theorem Qq:Xy X (λx H Q=>∃ k,Qp X.K x H k∧Q k H):=by
  intro pins s σ H x v Q I rx h
  obtain ⟨k,e,q⟩:=h
  have hl:=wW
  have hs:sizeLine=16777216:=sizeLine_eq
  cases x with
  | i9=>
    cases rx
    have e':k=false:=e
    subst e'
    exact truthy_none ⟨H,I,q⟩
  | bl b=>
    cases rx
    have e':k=b:=e
    subst e'
    exact wpAny_truthy_bool ⟨H,I,q⟩
  | int i=>
    obtain ⟨t,rfl⟩:=rx
    have e':k=(i != 0):=e
    subst e'
    exact PySem.P.truthy_int ⟨H,I,q⟩
  | str y=>
    obtain ⟨t,rfl⟩:=rx
    obtain ⟨hy,e'⟩:y.length≤sizeLine∧k=((y.length:Int) != 0):=e
    subst e'
    exact PySem.P.truthy_str (by nofun) ⟨H,I.tok _,q⟩
  | SX y=>
    obtain ⟨t,rfl⟩:=rx
    obtain ⟨hy,e'⟩:y.size≤sizeLine∧k=((y.size:Int) != 0):=e
    subst e'
    exact PySem.W.truthy_bytes (by nofun) ⟨H,I.tok _,q⟩
  | ref p=>
    cases rx
    have e':(∃ xs,q8 X.K H p xs∧k=!xs.isEmpty)∨(∃ xs,rG X.K H p xs∧k=!xs.isEmpty)∨∃ kvs,H p=some (.dK kvs)∧k=!kvs.isEmpty:=e
    rcases e' with ⟨xs,hx,e'⟩ | ⟨xs,hx,e'⟩ | ⟨kvs,hx,e'⟩
    · subst e'
      obtain ⟨its,r,pl,hz⟩:=I.list hx
      have hlen:=r.length
      exact wpAny_truthy_list pl.isList (by simp only [List.size_toArray];nofun) ⟨H,I.tok _,by rw [zo r];exact q⟩
    · subst e'
      obtain ⟨its,r,pl,hz⟩:=I.tuple hx
      have hlen:=r.length
      exact truthy_tuple pl (by simp only [List.size_toArray];nofun) ⟨H,I.tok _,by rw [zo r];exact q⟩
    · subst e'
      obtain ⟨hz,hS,vs,r,m⟩:kvs.length≤sizeLine∧(p==sysModules)=false∧∃ vs,KV kvs vs∧s.heap.DictOf (gE X.prog X.w) p vs:=I.hok p _ hx
      have hlen:kvs.length=vs.length:=Paired.length r
      exact wpAny_truthy_dict hS m (by nofun) ⟨H,I.tok _,by rw [Fq r];exact q⟩
  | _=>exact (show False from e).elim
theorem J3 (ha:PE X a ta) (he:∀ whole,isTrue a X.env whole=(do let v ← whole;standAt a.pos;holding [v] (truthy v))) :
    PT X a (λσ H Q=>ta σ H λx H'=>∃ k,Qp X.K x H' k∧Q k H'):=by
  intro pins s σ H Q I h
  exact isTrue_plain (gw (ha pins s σ H _ I h) λv s1 zz=>by obtain ⟨x,H1,I1,r1,q1⟩:=zz;exact Qq pins s1 σ H1 x v Q I1 r1 q1) (he _)
theorem Ft:nv X (binaryOp .Add) (λx y H Q=>∃ i j,x=.str i∧y=.str j∧i.length+j.length≤sizeLine∧Q (.str (i++j)) H):=by
  intro pins s σ H x y v u Q I rx ry h
  obtain ⟨i,j,rfl,rfl,hz,q⟩:=h
  obtain ⟨t,rfl⟩:=rx
  obtain ⟨t',rfl⟩:=ry
  exact nt I.os.2 (add_str (λt' tk ht=>⟨.str (i++j),H,I.tok _,⟨_,rfl⟩,q⟩) hz)
theorem vals1 {x:V} (r:Vals [x] us):∃ u,us=[u]∧RelV x u:=by
  cases r with
  | cons r1 r2=>cases r2;exact ⟨_,rfl,r1⟩
theorem vals2 {x:V} (r:Vals [x,y] us):∃ u w',us=[u,w']∧RelV x u∧RelV y w':=by
  cases r with
  | cons r1 r2=>
    cases r2 with
    | cons r3 r4=>cases r4;exact ⟨_,_,rfl,r1,r3⟩
theorem IB (hc:X.calm=true):jb X (.builtin "max") (λxs H Q=>∃ i j,xs=[.int i,.int j]∧Q (.int (if j > i then j else i)) H):=by
  intro pins s σ H xs us Q I r h
  obtain ⟨i,j,rfl,q⟩:=h
  obtain ⟨u,w',rfl,⟨t,rfl⟩,⟨t',rfl⟩⟩:=vals2 r
  refine nt I.os.2 <| max_two_ints (I.ok.hd hc) λh' tk k ht=>⟨_,H,I.kept k,?_,q⟩
  by_cases hj:j > i
  · rw [if_pos hj,if_pos hj];exact ⟨_,rfl⟩
  · rw [if_neg hj,if_neg hj];exact ⟨_,rfl⟩
theorem IC (hc:X.calm=true):jb X (.builtin "min") (λxs H Q=>∃ i j,xs=[.int i,.int j]∧Q (.int (if j<i then j else i)) H):=by
  intro pins s σ H xs us Q I r h
  obtain ⟨i,j,rfl,q⟩:=h
  obtain ⟨u,w',rfl,⟨t,rfl⟩,⟨t',rfl⟩⟩:=vals2 r
  refine nt I.os.2 <| min_two_ints (I.ok.hd hc) λh' tk k ht=>⟨_,H,I.kept k,?_,q⟩
  by_cases hj:j<i
  · rw [if_pos hj,if_pos hj];exact ⟨_,rfl⟩
  · rw [if_neg hj,if_neg hj];exact ⟨_,rfl⟩
theorem Bs:jb X (.type "int") (λxs H Q=>(∃ i,xs=[.int i]∧Q (.int i) H)∨∃ k,xs=[.bl k]∧Q (.int (if k then 1 else 0)) H):=by
  intro pins s σ H xs us Q I r h
  rcases h with ⟨i,rfl,q⟩ | ⟨k,rfl,q⟩
  · obtain ⟨u,rfl,t,rfl⟩:=vals1 r
    exact call_int_int ⟨.int i,H,I,⟨_,rfl⟩,q⟩
  · obtain ⟨u,rfl,r1⟩:=vals1 r
    cases r1
    exact call_int_bool ⟨.int (if k then 1 else 0),H,I.tok _,⟨_,rfl⟩,q⟩
end
structure TJ (h:Heap) (x dx C:Addr) (mA:Str→Option Value):Prop where
  obj:h.get? x=some (PySem.W.instObj C dx)
  ns:h.Ns1 dx mA
  ne:dx≠x
theorem ID (n:h.Ns1 dx mA):∃ od,h.get? dx=some od∧∀ name,PySem.W.lookIn name od=some (mA name):=by
  obtain ⟨o,es,ep,ho,hd,hk,_,hm⟩:=n
  refine ⟨o,ho,λname=>?_⟩
  have e:=hm name
  unfold nsFind findBy at e
  rw [← Array.find?_toList] at e
  unfold PySem.W.lookIn
  rw [hd]
  dsimp only
  split
  · rename_i y q
    rw [q] at e
    exact congrArg some e
  · rename_i q
    rw [q] at e
    have a:es.toList.any (·.refKey)=false:=by
      rw [List.any_eq_false]
      intro y hy
      obtain ⟨z,t,hkey⟩:=hk y (Array.mem_toList_iff.mp hy)
      simp [DictEntry.refKey,hkey]
    have a':¬ es.toList.any (·.refKey)=true:=by rw [a];exact Bool.false_ne_true
    rw [if_neg a']
    exact congrArg some e
theorem TJ.look {x:Addr} (I:TJ h x dx C mA):∃ od,PySem.W.InstAt h x (PySem.W.instObj C dx) C (some od)∧∀ name,PySem.W.lookIn name od=some (mA name):=
  let ⟨od,ho,hl⟩:=ID I.ns
  ⟨od,⟨I.obj,rfl,rfl,ho⟩,hl⟩
theorem yC.some_of {o:Option Value} (r:yC (some v) o):∃ u,o=some u∧RelV v u:=by
  cases o with
  | none=>exact (show False from r).elim
  | some u=>exact ⟨u,rfl,r⟩
structure Cls (K:PySem.W.Frag) (C:Addr):Prop where
  pg:PySem.W.plainGet K C Str.empty=true
  hd:PySem.W.hasDictIn K C=true
  po:PySem.W.plainOver K C=true
  sa:PySem.W.findIn K (.ref C) "__setattr__"=some (some (.builtin "object.__setattr__"))
structure Con (K:PySem.W.Frag) (C:Addr) (f:Str) (v:V) (u:Value):Prop where
  at_:PySem.W.findIn K (.ref C) f=some (some u)
  rel:RelV v u
  get:PySem.W.specialIn K u "__get__"=some none
  cp:PySem.W.copiedNames.contains f=false
structure Meth (K:PySem.W.Frag) (C:Addr) (m:Str) (f:Addr):Prop where
  at_:PySem.W.findIn K (.ref C) m=some (some (.ref f))
  fn:PySem.W.isFn K (.ref f)=true
  kp:PySem.W.keepIn K (.ref f)=true
section
variable {X:Cx} {pins:List (Addr×Obj)} {σ:St} {H:Hp} {s:Shared} {a C dx:Addr} {fs:List (Str×V)} {f:Str} {v:V} {A:Around} {E:Value→Shared→Prop}
theorem Inv.made (I:Inv X pins σ H s):Inv X pins σ (upd (upd H s.heap.objs.size (.own (s.heap.objs.size+1))) (s.heap.objs.size+1) (.ins C s.heap.objs.size []))
    {s with heap:=(s.heap.push PySem.W.emptyDict).push (PySem.W.instObj C s.heap.objs.size)}:=by
  have e1:(s.heap.push PySem.W.emptyDict).get? s.heap.objs.size=some PySem.W.emptyDict:=Heap.get?_push_size s.heap rfl
  have e2:((s.heap.push PySem.W.emptyDict).push (PySem.W.instObj C s.heap.objs.size)).get? (s.heap.objs.size+1)=some (PySem.W.instObj C s.heap.objs.size):=by
    have:=Heap.get?_push_size (s.heap.push PySem.W.emptyDict) (o:=PySem.W.instObj C s.heap.objs.size) rfl
    rwa [Heap.size_push] at this
  have e3:(s.heap.push PySem.W.emptyDict).Ns s.heap.objs.size (λ_=>none):=⟨PySem.W.emptyDict,#[],_,e1,rfl,(λe he=>absurd he (by simp)),λ_=>rfl⟩
  have I1:=I.laid (a:=s.heap.objs.size) (o:=.own (s.heap.objs.size+1)) (h':=s.heap.push PySem.W.emptyDict) (t':=s.toks) (λb u q=>Heap.get?_push_of_some _ q) (Nat.le_refl _) ⟨_,e1⟩
  refine I1.laid (a:=s.heap.objs.size+1) (o:=.ins C s.heap.objs.size []) (t':=s.toks) (λb u q=>Heap.get?_push_of_some _ q) (Nat.le_of_eq (Heap.size_push _ _)) ?_
  have ne:s.heap.objs.size≠s.heap.objs.size+1:=Nat.ne_of_lt (Nat.lt_succ_self _)
  refine ⟨by rw [aI ne,ck],Nat.zero_le _,ne,e2,λ_=>none,(Heap.Ns1.of_empty e3).at λo q=>Heap.get?_push_of_some _ q,λ_=>True.intro,λy hy=>absurd rfl hy⟩
end
section
variable {X:Cx} {pins:List (Addr×Obj)} {σ:St} {H:Hp} {s:Shared} {A:Around} {E:Value→Shared→Prop} {Q:Value→Shared→Prop} {c:Value} {b:Bool}
inductive zp (K:PySem.W.Frag) (H:Hp):V→Value→Prop where
  | i9:zp K H .i9 (.type "NoneType")
  | bl (x:Bool):zp K H (.bl x) (.type "bool")
  | int (i:Int):zp K H (.int i) (.type "int")
  | str (x:Str):zp K H (.str x) (.type "str")
  | SY (x:UInt64):zp K H (.SY x) (.type "float")
  | lst {a:Addr} {xs:List V} (e:H a=some (.lst xs)):zp K H (.ref a) (.type "list")
  | iU {a:Addr} {o:Obj} {xs:List V} (e:H a=some (.iU o (.lst xs))):zp K H (.ref a) (.type "list")
  | tup {a:Addr} {xs:List V} (e:H a=some (.tup xs)):zp K H (.ref a) (.type "tuple")
  | dK {a:Addr} {kvs:List (Key×V)} (e:H a=some (.dK kvs)):zp K H (.ref a) (.type "dict")
  | dT {a:Addr} {kvs:List (List Key×V)} (e:H a=some (.dT kvs)):zp K H (.ref a) (.type "dict")
  | ins {a C dx:Addr} {fs:List (Str×V)} (e:H a=some (.ins C dx fs)) (cl:Cls K C) (ha:PySem.W.findIn K (.ref C) "__class__"=some (some (.builtin "object.__class__")))
      (hn:PySem.W.specialIn K (.builtin "object.__class__") "__get__"=some (some (.builtin "getset_descriptor.__get__"))) (htk:PySem.W.takesIn K (.builtin "object.__class__")=some true)
      (hm:PySem.W.mroIn K C (.type "object")=some true):zp K H (.ref a) (.ref C)
end
structure iH (k:Nat) (A:Around):Prop where
  hd:A.handled=none
  dp:A.depth+3*k+5<recursionLimit
  un:A.units+16*k+600<cLine
theorem iH.mono {k:Nat} (r:iH k A) (h:j≤k):iH j A:=⟨r.hd,by have:=r.dp;nofun,by have:=r.un;nofun⟩
theorem iH.deeper {k:Nat} (r:iH (k+1) A) (env:Env):iH k (A.deeper env):=
  ⟨r.hd,by have:=r.dp;show A.depth+1+3*k+5<_;nofun,by have:=r.un;show A.units+3+16*k+600<_;nofun⟩
theorem iH.in1 {k:Nat} (r:iH (k+1) A):iH k A.in1:=
  ⟨r.hd,by have:=r.dp;show A.depth+3*k+5<_;nofun,by have:=r.un;show A.units+1+16*k+600<_;nofun⟩
theorem Fv:(A.under (.builtin "type.__call__" ⟨.ref C::us,kw⟩)).depth=A.depth+1:=by
  first | rfl | simp [Around.under,Code.weight,Code.isCreation,Code.isGuard,Code.isCaller,Code.frames,Code.isFrame,guardIds]
theorem Fw:(A.under (.builtin "type.__call__" ⟨.ref C::us,kw⟩)).units=A.units+1:=by
  first | rfl | simp [Around.under,Code.cUnits,Code.frames,Code.isFrame]
theorem iH.make {k:Nat} (r:iH (k+1) A) (C:Addr) (us:List Value) (kw:List (Str×Value)):iH k (A.under (.builtin "type.__call__" ⟨.ref C::us,kw⟩)):=
  ⟨r.hd,by have:=r.dp;rw [Fv];nofun,by have:=r.un;rw [Fw];nofun⟩
theorem iH.depth {k:Nat} (r:iH k A):A.depth<recursionLimit:=by have:=r.dp;nofun
theorem iH.units {k:Nat} (r:iH k A):A.units+64<cLine:=by have:=r.un;nofun
noncomputable def M4:TA:=λ_ H Q=>Q [] H
noncomputable def GR (ta:TE) (tr:TA):TA:=λσ H Q=>ta σ H λx H1=>tr σ H1 λxs H2=>Q (x::xs) H2
section
variable {X:Cx} {e:Expr} {es:List Expr} {te:TE} {t:TA} {pos:Pos}
theorem Fx:PA X [] M4:=λ_ _ _ _ H Q I h=>Calls.spliced_nil ⟨[],H,I,.nil,h⟩
theorem Cj (ha:PE X e te) (hr:PA X es t) (hs:starEach (e::es) X.env=(false,eval e X.env)::starEach es X.env:=by rfl):PA X (e::es) (GR te t):=by
  intro pos pins s σ H Q I h
  rw [hs]
  show wpAny _ _ (spliced ((false,eval e X.env)::backTo pos (starEach es X.env))) _ _ s
  refine Calls.spliced_cons (gw (ha pins s σ H _ I h) λu s1 zz=>?_)
  obtain ⟨x,H1,I1,r1,q1⟩:=zz
  exact gw (hr pos pins s1 σ H1 _ I1 q1) λus s2 zz=>by obtain ⟨xs,H2,I2,r2,q2⟩:=zz;exact ⟨x::xs,H2,I2,.cons r1 r2,q2⟩
noncomputable def XA (t:TA):TE:=λσ H Q=>t σ H λxs H1=>xs.length≤sizeLine∧∀ p,H1 p=none→Q (.ref p) (upd H1 p (.tup xs))
noncomputable def XC (t:TA):TE:=λσ H Q=>t σ H λxs H1=>xs.length≤sizeLine∧∀ p,H1 p=none→Q (.ref p) (upd H1 p (.lst xs))
theorem Qs {x1} (h:PA X es t):PE X (.Tuple es x1 pos) (XA t):=by
  intro pins s σ H Q I hq
  refine wpAny_Tuple_spliced (gw (h pos pins s σ H _ I hq) λus s1 ⟨xs,H1,I1,r,z,q⟩=>⟨by rw [← r.length];exact z,?_⟩)
  have hf:H1 s1.heap.objs.size=none:=I1.hok.fresh (Nat.le_refl _)
  refine ⟨.ref s1.heap.objs.size,upd H1 s1.heap.objs.size (.tup xs),I1.laid (t':=s1.toks) (λb u e=>Heap.get?_push_of_some _ e) (Nat.le_refl _) ?_,rfl,q _ hf⟩
  exact ⟨z,us,r,⟨_,Heap.get?_push_size _ rfl,rfl,_,rfl⟩⟩
theorem Qu (h:PA X es t):PE X (.List es pos) (XC t):=by
  intro pins s σ H Q I hq
  refine wpAny_List_spliced (gw (h pos pins s σ H _ I hq) λus s1 ⟨xs,H1,I1,r,z,q⟩=>⟨by rw [← r.length];exact z,?_⟩)
  have hf:H1 s1.heap.objs.size=none:=I1.hok.fresh (Nat.le_refl _)
  refine ⟨.ref s1.heap.objs.size,upd H1 s1.heap.objs.size (.lst xs),I1.laid (t':=s1.toks) (λb u e=>Heap.get?_push_of_some _ e) (Nat.le_refl _) ?_,rfl,q _ hf⟩
  exact ⟨z,us,0,r,Heap.get?_push_size _ rfl⟩
end
noncomputable abbrev Sp:=List V→Hp→VK→XK→Prop
variable {sp TL:Sp}
noncomputable abbrev yE:=List Env→Hp→Shared→XK→Value→Shared→Prop
variable {CX:yE}
structure wX (P:Program) (w:World) (K:PySem.W.Frag) (mg:Str→Option Value) (base:Heap) (A:Around) (outer:List Env) (s:Shared) (H:Hp):Prop where
  frames:A.frames=some outer
  mod:Mod K mg base
  bs:∀ b o,base.get? b=some o→s.heap.get? b=some o∧H b=none
  MG:base.objs.size≤s.heap.objs.size
  uY:s.heap.FunFrames base outer
  MP:∀ b∈frs outer,H b=none
  hok:pV P w H s.heap
  bare:AllBare s.gens
noncomputable def CE (outer:List Env) (P:Program) (w:World) (H:Hp) (s:Shared) (Q:VK) (u:Value) (s':Shared):Prop:=
  ∃ v H',(s'.os=s.os∧0<s'.toks)∧AllBare s'.gens∧Un (frs outer) [] H H' s.heap s'.heap∧pV P w H' s'.heap∧RelV v u∧Q v H'
noncomputable def CR (CX:yE) (outer:List Env) (P:Program) (w:World) (H:Hp) (s:Shared) (Q:VK) (E:XK) (r:Result) (s':Shared):Prop:=
  match r with
  | .ok (.ret u)=>CE outer P w H s Q u s'
  | .ok _=>False
  | .error e=>CX outer H s E e s'
structure bV (P:Program) (w:World) (K:PySem.W.Frag) (mg:Str→Option Value) (base:Heap) (CX:yE) (k:Nat) (f:Addr) (fd:FuncData) (ps:List Str) (sp:Sp):Prop where
  len:∀ vs H Q E,sp vs H Q E→vs.length=ps.length
  run:∀ (A:Around) (outer:List Env) (s:Shared) (H:Hp) (args:Args) (us:List Value) (vs:List V) (Q:VK) (E:XK),iH k A→wX P w K mg base A outer s H→0<s.toks→BindsTo s fd args (ps.zip us)→Vals vs us→sp vs H Q E →
    codeAny (model P w) A (.call (.ref f) args) (CR CX outer P w H s Q E) s
structure u0 (P:Program) (w:World) (K:PySem.W.Frag) (mg:Str→Option Value) (base:Heap) (CX:yE) (k:Nat) (f:Addr) (fd:FuncData) (ps:List Str) (sp:Sp):Prop where
  len:∀ vs H Q E,sp vs H Q E→vs.length=ps.length
  run:∀ (A:Around) (outer:List Env) (s:Shared) (H:Hp) (args:Args) (us:List Value) (vs:List V) (Q:VK) (E:XK),iH k A→wX P w K mg base A outer s H→BindsTo s fd args (ps.zip us)→Vals vs us→sp vs H Q E →
    codeAny (model P w) A (.call (.ref f) args) (CR CX outer P w H s Q E) s
theorem u0.imp {k:Nat} {f:Addr} {ps:List Str} (F:u0 P w K mg base CX k f fd ps sp)
    (h:∀ vs H Q E,TL vs H Q E→sp vs H Q E):u0 P w K mg base CX k f fd ps TL:=
  ⟨λvs H Q E q=>F.len vs H Q E (h _ _ _ _ q),λA outer s H args us vs Q E hr he hb hv hs=>F.run A outer s H args us vs Q E hr he hb hv (h _ _ _ _ hs)⟩
theorem bV.imp {k:Nat} {f:Addr} {ps:List Str} (F:bV P w K mg base CX k f fd ps sp)
    (h:∀ vs H Q E,TL vs H Q E→sp vs H Q E):bV P w K mg base CX k f fd ps TL:=
  ⟨λvs H Q E q=>F.len vs H Q E (h _ _ _ _ q),λA outer s H args us vs Q E hr he ht hb hv hs=>F.run A outer s H args us vs Q E hr he ht hb hv (h _ _ _ _ hs)⟩
theorem wX.make (e:wX P w K mg base A outer s H) (C:Addr) (us:List Value) (kw:List (Str×Value)) :
    wX P w K mg base (A.under (.builtin "type.__call__" ⟨.ref C::us,kw⟩)) outer s H:=⟨by first | exact e.frames | (simpa [Around.under,Code.envs,Code.isFrame,pushEnvs] using e.frames),e.mod,e.bs,e.MG,e.uY,e.MP,e.hok,e.bare⟩
theorem wX.in1 (e:wX P w K mg base A outer s H) :
    wX P w K mg base A.in1 outer s H:=⟨e.frames,e.mod,e.bs,e.MG,e.uY,e.MP,e.hok,e.bare⟩
section
variable {X:Cx} {pins:List (Addr×Obj)} {σ:St} {H:Hp} {s s':Shared}
theorem Inv.lK (I:Inv X pins σ H s):wX X.prog X.w X.K X.mg X.base X.A X.stack s H:=
  ⟨I.ok.frames,I.ok.mod,I.bs,Nat.le_trans I.ok.MG I.sz,I.stack,I.yU,I.hok,I.bare⟩
theorem Inv.after {Q:VK} (I:Inv X pins σ H s) (h:CE X.stack X.prog X.w H s Q u s'):EP X pins σ Q u s':=by
  obtain ⟨v,H',os,bare,un,hok,r,q⟩:=h
  obtain ⟨hh,g,d,t,os'⟩:=s'
  have ht:0<t:=os.2
  obtain rfl:os'=s.os:=os.1
  exact ⟨v,H',I.call (h':=hh) (g':=g) (d':=d) (t':=t) (ch:=[]) un hok bare (λb z=>absurd z (by simp)),r,q⟩
end
noncomputable def Binds (K:PySem.W.Frag) (fd:FuncData) (ps:List Str) (ds:List Value):Prop:=
  ∀ (s:Shared) (us:List Value),K.In s.heap→(us++ds).length=ps.length→BindsTo s fd ⟨us,[]⟩ (ps.zip (us++ds))
theorem Binds.all {ps:List Str} (h:∀ us:List Value,us.length=ps.length→bindArgs fd ⟨us,[]⟩=pure (ps.zip us)):Binds K fd ps []:=λs us _ hl=>by
  rw [List.append_nil] at hl ⊢
  exact .of_eq (h us hl)
section
variable {X:Cx} {CX:yE} {k:Nat} {f C:Addr} {fd:FuncData} {ps:List Str} {sp:Sp} {dvs:List V} {ds:List Value} {E:XK} {x m:Str} {p pos apos:Pos} {e o:Expr} {es:List Expr} {ta:TE} {t:TA}
structure Mk (K:PySem.W.Frag) (C f:Addr):Prop where
  makes:PySem.W.makesIn K C=true
  init:PySem.W.findIn K (.ref C) "__init__"=some (some (.ref f))
  fn:PySem.W.isFn K (.ref f)=true
  kp:PySem.W.keepIn K (.ref C)=true
end
section
variable {X:Cx} {CX:yE} {k:Nat} {f C:Addr} {fd:FuncData} {ps ks:List Str} {sp:Sp} {E:XK} {x m:Str} {p pos apos kpos:Pos} {e o:Expr} {es:List Expr} {kws:List Keyword} {te ta:TE} {t tk:TA} {nm:Option Str}
structure XE (K:PySem.W.Frag) (fd:FuncData) (ps ks:List Str) (g:List Value→List Value→List Value) (gV:List V→List V→List V):Prop where
  to:∀ (s:Shared) (us ws:List Value),K.In s.heap→(g us ws).length=ps.length→BindsTo s fd ⟨us,ks.zip ws⟩ (ps.zip (g us ws))
  rel:∀ {vs:List V} {us:List Value} {zs:List V} {ws:List Value},Vals vs us→Vals zs ws→Vals (gV vs zs) (g us ws)
variable {g:List Value→List Value→List Value} {gV:List V→List V→List V}
end
structure cX (N P:List Str) (sc:Scope):Prop where
  kind:sc.kind=.function
  co:sc.isCoroutine=false
  gen:sc.isGenerator=false
  nd:N.Nodup
  pre:N.take P.length=P
  par:∀ x∈P,sc.names.lookup x=some .local∨sc.names.lookup x=some .cell
  Qv:∀ y∈sc.names,y.2≠.free
theorem Bt {kindOf:Str→Option NameKind} {x:Str}:∀ {binds:List (Str×Value)} {m:Str→Option Value},(∀ v,(x,v)∉binds)→bindL kindOf binds m x=m x
  | [],_,_=>rfl
  | (n,v)::r,m,h=>by
    unfold bindL
    rw [Bt λw hw=>h w (List.mem_cons_of_mem _ hw)]
    split
    · have:x≠n:=by rintro rfl;exact h v List.mem_cons_self
      simp [this]
    · rfl
theorem Bu {kindOf:Str→Option NameKind} {x:Str}:∀ {binds:List (Str×Value)} {m:Str→Option Value},(∀ v,(x,v)∉binds)→bindC kindOf binds m x=m x
  | [],_,_=>rfl
  | (n,v)::r,m,h=>by
    unfold bindC
    rw [Bu λw hw=>h w (List.mem_cons_of_mem _ hw)]
    split
    · rfl
    · have:x≠n:=by rintro rfl;exact h v List.mem_cons_self
      simp [this]
theorem Bv {kindOf:Str→Option NameKind} {x:Str} {v:Value}:∀ {P:List Str} {vs:List Value} {i:Nat} {m:Str→Option Value},P.Nodup→P[i]?=some x→vs[i]?=some v→kindOf x=some .local →
    bindL kindOf (P.zip vs) m x=some v
  | [],_,_,_,_,h,_,_=>by simp at h
  | _::_,[],_,_,_,_,h,_=>by simp at h
  | p::P,w::vs,0,m,nd,h1,h2,hk=>by
    simp at h1 h2;subst h1;subst h2
    show bindL kindOf ((p,w)::P.zip vs) m p=_
    unfold bindL
    rw [Bt λv hv=>(List.nodup_cons.mp nd).1 (List.of_mem_zip hv).1,if_pos hk]
    simp
  | p::P,w::vs,i+1,m,nd,h1,h2,hk=>by
    show bindL kindOf ((p,w)::P.zip vs) m x=_
    unfold bindL
    exact Bv (i:=i) (List.nodup_cons.mp nd).2 (by simpa using h1) (by simpa using h2) hk
theorem Bw {kindOf:Str→Option NameKind} {x:Str} {v:Value}:∀ {P:List Str} {vs:List Value} {i:Nat} {m:Str→Option Value},P.Nodup→P[i]?=some x→vs[i]?=some v→kindOf x≠some .local →
    bindC kindOf (P.zip vs) m x=some v
  | [],_,_,_,_,h,_,_=>by simp at h
  | _::_,[],_,_,_,_,h,_=>by simp at h
  | p::P,w::vs,0,m,nd,h1,h2,hk=>by
    simp at h1 h2;subst h1;subst h2
    show bindC kindOf ((p,w)::P.zip vs) m p=_
    unfold bindC
    rw [Bu λv hv=>(List.nodup_cons.mp nd).1 (List.of_mem_zip hv).1,if_neg hk]
    simp
  | p::P,w::vs,i+1,m,nd,h1,h2,hk=>by
    show bindC kindOf ((p,w)::P.zip vs) m x=_
    unfold bindC
    exact Bw (i:=i) (List.nodup_cons.mp nd).2 (by simpa using h1) (by simpa using h2) hk
noncomputable def start (N:List Str) (vs:List V):St:=vs.map some++List.replicate (N.length - vs.length) none
noncomputable def jO (CX:yE) (P:Program) (w:World) (K:PySem.W.Frag) (mg:Str→Option Value) (base:Heap) (N:List Str) (qual:Str) (scope:Scope) (f:Addr) (cd:Value) (A:Around) (outer:List Env) (s:Shared) (H:Hp) (E:XK):Cx where
  prog:=P
  w:=w
  K:=K
  mg:=mg
  base:=base
  A:=A.deeper (envOfC qual scope s.heap.objs.size f cd)
  N:=N
  s₀:=s
  H₀:=H
  env:=envOfC qual scope s.heap.objs.size f cd
  outer:=outer
  stack:=envOfC qual scope s.heap.objs.size f cd::outer
  ex:=[]
  calm:=true
  fn:=λ_=>true
  pn:=[]
  xe:=λe s'=>wpAny (model P w) (A.deeper (envOfC qual scope s.heap.objs.size f cd)) (leaving (envOfC qual scope s.heap.objs.size f cd) e) (λ_ s''=>CX outer H s E e s'') (λe' s''=>CX outer H s E e' s'') s'
theorem Dy (h:sc.names.lookup x=some .cell):∃ c,(cellsFrom n sc.names []).lookup x=some c:=by
  have q:=PySem.W.cellsFrom_some sc.names n [] (.inl h)
  exact Option.isSome_iff_exists.mp q
theorem Bx {CX:yE} {P:Program} {w:World} {K:PySem.W.Frag} {mg:Str→Option Value} {base:Heap} {N ps:List Str} {qual:Str} {scope:Scope} {f:Addr} {cd:Value} {A:Around} {outer:List Env} {s s1:Shared} {H:Hp} {E:XK} {us:List Value} {vs:List V}
    (S:cX N ps scope) (hd:A.handled=none) (e0:wX P w K mg base A outer s H) (hl:vs.length=ps.length) (r:Vals vs us)
    (x:InCallC s s.heap.objs.size (bindL (envOfC qual scope s.heap.objs.size f cd).kindOf (ps.zip us) λ_=>none) (cellsFrom (s.heap.objs.size+1) scope.names []) (bindC (envOfC qual scope s.heap.objs.size f cd).kindOf (ps.zip us) λ_=>none) s1) {n:Nat} (ht:0<n) :
    Inv (jO CX P w K mg base N qual scope f cd A outer s H E) [] (start N vs) H {s1 with toks:=n}:=by
  have hpl:ps.length≤N.length:=by have:=congrArg List.length S.pre;rw [List.length_take] at this;nofun
  obtain ⟨h1,tk,rfl,hk⟩:=x.done
  have M5:∀ b:Addr,b∉(jO CX P w K mg base N qual scope f cd A outer s H E).ex:=λb z=>absurd (show b∈([]:List Addr) from z) (by simp)
  refine ⟨⟨e0.mod,S.kind,rfl,rfl,Nat.le_refl _,λy z c h1 h2=>?_,λy hy=>?_,λy c _ h=>?_,λ_=>hd,Around.frames_deeper e0.frames,.inr ⟨rfl,rfl⟩,λb z=>absurd z (M5 b),e0.bs,e0.MG,λb _ _=>M5 b,λb z=>absurd z (M5 b),e0.uY,e0.MP⟩,
    ⟨rfl,ht⟩,e0.bare,Un.kept hk,⟨_,x.toInCall.ns,λi y v h1 h2 h3=>?_⟩,λy c h=>⟨_,x.cell y c h⟩,e0.hok.fresh (Nat.le_refl _),λy c h=>?_,λp hp=>absurd (show p∈([]:List (Addr×Obj)) from hp) (by simp),e0.hok.kept hk,?_⟩
  · exact name_of_addr x.apart (PySem.mem_of_lookup h1) (PySem.mem_of_lookup h2)
  · have hy:scope.names.lookup y=some .cell∨scope.names.lookup y=some .free:=hy
    rcases hy with hy | hy
    · exact Dy hy
    · exact absurd rfl (S.Qv _ (PySem.mem_of_lookup hy))
  · exact Nat.le_of_lt (x.above y c (PySem.mem_of_lookup h))
  · have hi:i<vs.length:=by
      unfold start at h2
      by_cases hi:i<vs.length
      · exact hi
      · rw [List.getElem?_append_right (by simpa using hi)] at h2
        rw [List.getElem?_replicate] at h2
        split at h2<;>cases h2
    have ha:vs[i]?=some v:=by
      unfold start at h2
      rw [List.getElem?_append_left (by simpa using hi),List.getElem?_map] at h2
      cases e:vs[i]? with
      | none=>rw [e] at h2;cases h2
      | some a=>rw [e] at h2;cases h2;rfl
    obtain ⟨u,hu,rv⟩:=r.get ha
    have hp:ps[i]?=some y:=by
      rw [← S.pre,List.getElem?_take_of_lt (by nofun)];exact h1
    have Ww:ps.Nodup:=by rw [← S.pre];exact S.nd.sublist (List.take_sublist _ _)
    refine ⟨u,rv,?_⟩
    rcases S.par y (List.mem_of_getElem? hp) with k | k
    · exact .inl ⟨k,Bv Ww hp hu k⟩
    · obtain ⟨c,e⟩:=Dy (n:=s.heap.objs.size+1) k
      refine .inr ⟨.inl k,c,e,?_⟩
      have q:=x.cell y c e
      rw [Bw Ww hp hu (by show scope.names.lookup y≠_;rw [k];decide)] at q
      exact q
  · exact .inl (e0.hok.fresh (Nat.le_of_lt (x.above y c (PySem.mem_of_lookup h))))
  · unfold start
    show _=N.length
    rw [List.length_append,List.length_map,List.length_replicate]
    nofun
theorem TM {CX:yE} {P:Program} {w:World} {K:PySem.W.Frag} {mg:Str→Option Value} {base:Heap} {k:Nat} {f:Addr} {name qual:Str} {params:Arguments} {body:List Stmt} {scope:Scope} {dV kV doc pm cdv ct oc:Value} {an od:Option Addr}
    {osl:Array (Option Value)} {N ps:List Str} {sp:Sp} (lk:K.lookup f=some ⟨oc,od,.func (PySem.W.fnOf name qual params body scope dV kV doc pm an cdv ct),osl⟩) (hcd:PySem.W.codeIn K cdv qual=true) (S:cX N ps scope)
    (len:∀ vs H Q E,sp vs H Q E→vs.length=ps.length)
    (hbody:∀ (A:Around) (outer:List Env) (s:Shared) (H:Hp) (vs:List V) (Q:VK) (E:XK),iH k (A.deeper (envOfC qual scope s.heap.objs.size f cdv))→sp vs H Q E →
      ∃ t,Fg (jO CX P w K mg base N qual scope f cdv A outer s H E) body t∧t {nx:=λ_ H'=>Q .i9 H',rt:=Q} (start N vs) H) :
    bV P w K mg base CX (k+1) f (PySem.W.fnOf name qual params body scope dV kV doc pm an cdv ct) ps sp:=by
  refine ⟨len,λA outer s H args us vs Q E hr e0 htk hb r GS=>?_⟩
  have hl:=len _ _ _ _ GS
  have KX:K.In s.heap:=e0.mod.MM.keeps λb o e=>(e0.bs b o e).1
  have lim:s.heap.NoLimit:=e0.mod.nolimit.keeps λb o e=>(e0.bs b o e).1
  have hkind:∀ y∈ps.zip us,scope.names.lookup y.1=some .local∨(scope.names.lookup y.1=some .cell∧((cellsFrom (s.heap.objs.size+1) scope.names []).lookup y.1).isSome=true):=λ⟨n,v⟩ hy=>by
    rcases S.par n (List.of_mem_zip hy).1 with q | q
    · exact .inl q
    · exact .inr ⟨q,PySem.W.cellsFrom_some _ _ _ (.inl q)⟩
  refine codeAny_call_function hr.depth (KX _ _ lk) rfl S.co S.gen rfl (PySem.W.codeRec_of KX hcd) (hb _ _ _ _ ?_)
  refine nt htk (wpAny_newFunctionEnv_cells S.kind hkind λenv he s1 x=>λQw=>?_)
  subst he
  refine ⟨lim.keeps x.toInCall.keep,codeAny_func ?_⟩
  obtain ⟨t,ht,hq⟩:=hbody A outer s H vs Q E (hr.deeper _) GS
  have I:Inv (jO CX P w K mg base N qual scope f cdv A outer s H E) [] (start N vs) H s1:=Bx S hr.hd e0 hl r x (n:=s1.toks) Qw
  refine wpAny_mono (ht [] s1 (start N vs) H _ I hq) (λfl s' hs=>?_) λe s' hs=>hs
  have fin:∀ {σ':St} {H':Hp} {v:V} {u:Value},Inv (jO CX P w K mg base N qual scope f cdv A outer s H E) [] σ' H' s'→RelV v u→Q v H'→CE outer P w H s Q u s':=
    λ{σ' H' v u} J rv q=>⟨v,H',J.os,J.bare,J.base,J.hok,rv,q⟩
  cases fl with
  | ret u=>
    obtain ⟨v,σ',H',J,rv,q⟩:=hs
    exact fin J rv q
  | next=>
    obtain ⟨σ',H',J,q⟩:=hs
    exact fin (v:=V.i9) (u:=Value.none) J rfl q
  | brk=>
    obtain ⟨_,_,_,q⟩:=hs
    exact False.elim q
  | cont=>
    obtain ⟨_,_,_,q⟩:=hs
    exact False.elim q
section
variable {X:Cx} {x:Str} {p pos:Pos} {e:Expr} {es:List Expr} {t:TA} {id T:String} {r:List V→Hp→VK→Prop}
noncomputable def ZS (r:List V→Hp→VK→Prop) (t:TA):TE:=λσ H Q=>t σ H λvs H1=>r vs H1 Q
theorem J4 (hc:jb X (.builtin id) r) (hg:Gl X x) (hm:X.mg x=none) (hv:bootBuiltins x=some (.builtin id)) (ha:PA X (e::es) t) (hn:x≠"__name__":=by decide) (hdb:(x==("__debug__":Str))=false:=by decide)
    (he:starEach (e::es) X.env=(false,eval e X.env)::starEach es X.env:=by rfl) (hpl:(backTo pos (starEach es X.env)).any (·.1)=false:=by rfl):PE X (.Call (.Name x p) (e::es) [] pos) (ZS r t):=by
  intro pins s σ H Q I h
  refine wpAny_Call_Name_kw (iy I hg hm hv ?_ hn hdb)
  exact PyProof.Rows.callWith_builtin1 (gw (ha pos pins s σ H _ I h) λus s1 zz=>by obtain ⟨vs,H1,I1,r1,q1⟩:=zz;exact hc pins s1 σ H1 vs us Q I1 r1 q1) he hpl
theorem IE (hc:jb X (.type T) r) (hg:Gl X x) (hm:X.mg x=none) (hv:bootBuiltins x=some (.type T)) (ha:PA X (e::es) t) (hn:x≠"__name__":=by decide) (hdb:(x==("__debug__":Str))=false:=by decide)
    (he:starEach (e::es) X.env=(false,eval e X.env)::starEach es X.env:=by rfl) (hpl:(backTo pos (starEach es X.env)).any (·.1)=false:=by rfl):PE X (.Call (.Name x p) (e::es) [] pos) (ZS r t):=by
  intro pins s σ H Q I h
  refine wpAny_Call_Name_kw (iy I hg hm hv ?_ hn hdb)
  exact PyProof.Rows.callWith_type1 (gw (ha pos pins s σ H _ I h) λus s1 zz=>by obtain ⟨vs,H1,I1,r1,q1⟩:=zz;exact hc pins s1 σ H1 vs us Q I1 r1 q1) he hpl
end
end L2
namespace HT
open PySem PyProof.Rows
section
open PySem.SeqAt
open PySem.AutoSeq1 (wpAny_loadPart')
open PySem.MeetsSeq PySem.MeetsSeq2 PySem.MeetsSeq3
end
section
variable {prog:Program} {w:World} {A:Around} {E:Value→Shared→Prop} {s:Shared}
theorem M6 {t b:Addr} {vs ws:List Value} {Q:Value→Shared→Prop} (ht:IsTup s.heap t vs.toArray) (hb:IsTup s.heap b ws.toArray) (hv:vs≠[])
    (h1:ws=[]→Q (.ref t) s) (h2:ws≠[]→Q (.ref s.heap.objs.size) {s with heap:=s.heap.push {cls:=.type "tuple",data:=.seq (vs++ws).toArray}})
    (hsz:vs.length+ws.length≤sizeLine):wpAny (model prog w) A (binaryOp .Add (.ref t) (.ref b)) Q E s:=by
  obtain ⟨⟨cls,dd,data,sl⟩,ho,hc,n,hd⟩:=id ht
  obtain ⟨⟨Qx,dd2,data2,sl2⟩,ho2,hc2,n2,hd2⟩:=id hb
  simp only at hc hd hc2 hd2
  subst hc hd hc2 hd2
  have e:vs.toArray++ws.toArray=(vs++ws).toArray:=by simp
  by_cases hw:ws=[]
  · exact concat_meets ⟨_,ho,rfl⟩ ⟨_,ho2,rfl⟩ noFill_tuple_add seq_tuple_add PySem.F.slot_tuple_add PySem.F.entry_tuple_add (PySem.F.args_tuple_add_2 _ _)
      (tuple_addW1 t b vs.toArray ws.toArray n n2 dd dd2 sl sl2 (by simpa using hv) (by simp [hw])) ⟨ho,ho2,h1 hw⟩
  · refine concat_meets ⟨_,ho,rfl⟩ ⟨_,ho2,rfl⟩ noFill_tuple_add seq_tuple_add PySem.F.slot_tuple_add PySem.F.entry_tuple_add (PySem.F.args_tuple_add_2 _ _)
      (tuple_addW2 t b vs.toArray ws.toArray n n2 dd dd2 sl sl2 (by simpa using hv) (by simpa using hw) (by rw [List.size_toArray,List.size_toArray];exact hsz)) ⟨ho,ho2,?_⟩
    rw [e]
    exact h2 hw
noncomputable def ji (n d:Nat):Option Int→Nat
  | none=>d
  | some v=>if v<0 then (v+(n:Int)).toNat else min v.toNat n
theorem DA (n d:Nat):ji n d none=d:=rfl
theorem GU (n d k:Nat):ji n d (some (k:Int))=min k n:=by
  show (if (k:Int)<0 then ((k:Int)+(n:Int)).toNat else min (k:Int).toNat n)=min k n
  rw [if_neg (by nofun),Int.toNat_natCast]
theorem Qy (n d:Nat) (hd:d≤n) (o:Option Int):ji n d o≤n:=by
  cases o with
  | none=>exact hd
  | some v=>
    show (if v<0 then (v+(n:Int)).toNat else min v.toNat n)≤n
    by_cases hv:v<0
    · rw [if_pos hv];nofun
    · rw [if_neg hv];exact Nat.min_le_right _ _
theorem GV (v:Int) (n d:Nat):(if v<0 then max (v+(n:Int)) 0 else min v (n:Int))=((ji n d (some v):Nat):Int):=by
  show (if v<0 then max (v+(n:Int)) 0 else min v (n:Int))=(((if v<0 then (v+(n:Int)).toNat else min v.toNat n):Nat):Int)
  by_cases hv:v<0
  · simp only [if_pos hv];nofun
  · simp only [if_neg hv];nofun
theorem Fy (lo hi:Option Int) (n:Nat):Builtin.Slice.sliceAdjust lo hi 1 (n:Int)=(((ji n 0 lo:Nat):Int),((ji n n hi:Nat):Int)):=by
  have h1:¬ ((1:Int)<0):=by nofun
  unfold Builtin.Slice.sliceAdjust
  simp only [h1,if_false]
  refine Prod.ext ?_ ?_
  · cases lo with
    | none=>rfl
    | some v=>exact GV v n 0
  · cases hi with
    | none=>rfl
    | some v=>exact GV v n n
theorem Fz (i j:Nat):Builtin.Slice.slicePlaces (i:Int) (j:Int) 1=j - i:=by
  unfold Builtin.Slice.slicePlaces
  have h1:(1:Int) > 0:=by nofun
  simp only [h1,if_true,Int.ediv_one]
  split<;>nofun
theorem zq {v:Value} {o:Option Int} {Q:Option Int→Shared→Prop} (p:IsPart v o) (h:Q o s):wpAny (model prog w) A (Builtin.Slice.slicePartIndex v) Q E s:=by
  cases p with
  | none=>exact slicePart_none h
  | int i t=>exact slicePart_int h
theorem wY {sl:Addr} {vl vu:Value} {lo hi:Option Int} {n:Nat} {Q:Int×Int×Nat→Shared→Prop} (hs:s.heap.IsSliceOf sl vl vu .none) (pl:IsPart vl lo) (pu:IsPart vu hi)
    (h:Q (((ji n 0 lo:Nat):Int),1,ji n n hi - ji n 0 lo) s):wpAny (model prog w) A (Builtin.Slice.sliceApplied (.ref sl) (pure (n:Int))) Q E s:=by
  obtain ⟨os,hos,hcs,hds⟩:=id hs
  unfold Builtin.Slice.sliceApplied Builtin.Slice.sliceFields
  refine wpAny_bind (wpAny_bind (wpAny_field hos hds (x:=vl) rfl (wpAny_bind (wpAny_field hos hds (x:=vu) rfl (wpAny_bind (wpAny_field hos hds (x:=.none) rfl (wpAny_pure ?_)))))))
  refine wpAny_bind (slicePart_none ?_)
  show wpAny _ _ (if ((1:Int)==0)=true then _ else _) _ _ s
  rw [if_neg (by decide)]
  refine wpAny_bind (zq pl (wpAny_bind (zq pu (wpAny_bind (wpAny_pure ?_)))))
  show wpAny _ _ (match Builtin.Slice.sliceAdjust lo hi 1 (n:Int) with | (lo,hi)=>pure (lo,(1:Int),Builtin.Slice.slicePlaces lo hi 1)) _ _ s
  rw [Fy lo hi n]
  show wpAny _ _ (pure (((ji n 0 lo:Nat):Int),(1:Int),Builtin.Slice.slicePlaces ((ji n 0 lo:Nat):Int) ((ji n n hi:Nat):Int) 1)) _ _ s
  rw [Fz]
  exact wpAny_pure h
theorem J5 (xs:Array Value) (i k:Nat):((List.range k).filterMap λ(m:Nat)=>xs[((i:Int)+(m:Int)*1).toNat]?).toArray=((xs.toList.drop i).take k).toArray:=by
  have e:(λ(m:Nat)=>xs[((i:Int)+(m:Int)*1).toNat]?)=λm=>xs[i+m]?:=by
    funext m
    have:((i:Int)+(m:Int)*1).toNat=i+m:=by nofun
    rw [this]
  rw [e]
  have:=pick_run xs i k
  rw [List.filterMap_map] at this
  have e2:((λx=>xs[x]?)∘λx=>i+x)=λm=>xs[i+m]?:=rfl
  rw [e2] at this
  rw [this]
theorem u6 {t sl:Addr} {items:Array Value} {vl vu:Value} {lo hi:Option Int} {Q:Value→Shared→Prop} (ht:IsTup s.heap t items) (hs:s.heap.IsSliceOf sl vl vu .none) (pl:IsPart vl lo) (pu:IsPart vu hi)
    (hw:¬ (ji items.size 0 lo=0∧ji items.size items.size hi=items.size))
    (h:Q (.ref s.heap.objs.size) {s with heap:=s.heap.push {cls:=.type "tuple",data:=.seq ((items.toList.drop (ji items.size 0 lo)).take (ji items.size items.size hi - ji items.size 0 lo)).toArray}})
    (hsz:items.size≤sizeLine):wpAny (model prog w) A (getItem (.ref t) (.ref sl)) Q E s:=by
  have GW:sizeOk (.seq ((items.toList.drop (ji items.size 0 lo)).take (ji items.size items.size hi - ji items.size 0 lo)).toArray):=by
    show ((items.toList.drop (ji items.size 0 lo)).take (ji items.size items.size hi - ji items.size 0 lo)).toArray.size≤sizeLine
    rw [List.size_toArray,List.length_take,List.length_drop,Array.length_toList]
    nofun
  have hj:ji items.size items.size hi≤items.size:=Qy _ _ (Nat.le_refl _) hi
  obtain ⟨os,hos,hcs,hds⟩:=id hs
  have hTs:s.TypeIs (.ref sl) "slice":=⟨os,hos,hcs⟩
  unfold getItem
  try with_reducible refine wpAny_holding ?_
  first | refine wpAny_bind (wpAny_pure ?_) | skip
  refine wpAny_bind (wpAny_sequenceKey ht.typeIs (by decide) ?_)
  refine wpAny_bind (wpAny_callSpecial?_slot (name:=Str.ofString "__getitem__") ht.typeIs PyProof.Rows.slot_tuple_getitem
    (wpAny_call_entry PyProof.Rows.slot_tuple_getitem ht.typeIs entry_tuple_getitem ?_ (args_tuple_getitem _ _)))
  show wpAny _ _ (Builtin.Tuple.tupleItemsOf (.ref t) >>= _) _ _ s
  refine wpAny_bind (tupleItemsOf_ ht ?_)
  refine wpAny_bind (wpAny_typeOf hTs ?_)
  rw [if_pos (by decide)]
  refine wpAny_bind (wY hs pl pu ?_)
  have hno:¬ ((((ji items.size 0 lo:Nat):Int)==0&&(1:Int)==1&&(ji items.size items.size hi - ji items.size 0 lo)==items.size)=true):=by
    intro q
    rw [Bool.and_eq_true,Bool.and_eq_true] at q
    have q1:((ji items.size 0 lo:Nat):Int)=0:=eq_of_beq q.1.1
    have q2:ji items.size items.size hi - ji items.size 0 lo=items.size:=eq_of_beq q.2
    exact hw ⟨by nofun,by nofun⟩
  show wpAny _ _ (if (((ji items.size 0 lo:Nat):Int)==0&&(1:Int)==1&&(ji items.size items.size hi - ji items.size 0 lo)==items.size)=true then _ else _) _ _ s
  rw [if_neg hno,J5]
  first
    | exact wpAny_bind (m:=Builtin.Tuple.tupleExact _) (wpAny_newObj_type (wpAny_pure ⟨_,rfl,wpAny_pure h⟩) GW)
    | exact wpAny_bind (m:=Builtin.Tuple.tupleExact _) (wpAny_newObj_type (wpAny_bind (wpAny_pure (wpAny_pure ⟨_,rfl,wpAny_pure h⟩))) GW)
    | exact wpAny_bind (wpAny_bind (m:=Builtin.Tuple.tupleExact _) (wpAny_newObj_type (wpAny_pure (wpAny_pure ⟨_,rfl,wpAny_pure h⟩)) GW))
    | exact wpAny_bind (wpAny_bind (m:=Builtin.Tuple.tupleExact _) (wpAny_newObj_type (wpAny_pure ⟨_,rfl,wpAny_pure h⟩) GW))
end
end HT
namespace L2
open PySem PySem.Spec PyProof.Rows
variable {us its:List Value} {r:V→Option Int→Option Int→Hp→VK→Prop} {xs:List V} {pins:List (Addr×Obj)} {n j t':Nat} {i:Int} {s:Shared} {T:String} {v:Value} {α:Type}
noncomputable abbrev TO:=St→Hp→(Option Int→Hp→Prop)→Prop
noncomputable def PO (X:Cx) (e:Option Expr) (t:TO):Prop:=
  ∀ (pins:List (Addr×Obj)) (s:Shared) (σ:St) (H:Hp) (Q:Option Int→Hp→Prop),Inv X pins σ H s→t σ H Q →
    wpAny (model X.prog X.w) X.A (evalPart e X.env) (λu s'=>∃ o H',Inv X pins σ H' s'∧IsPart u o∧Q o H') X.xe s
noncomputable def M7:TO:=λ_ H Q=>Q none H
noncomputable def TN (t:TE):TO:=λσ H Q=>t σ H λx H1=>∃ i,x=.int i∧Q (some i) H1
section
variable {X:Cx} {e:Expr} {te:TE} {lo hi:Option Expr} {tl th:TO} {pos p2:Pos}
theorem M8:PO X none M7:=by
  intro pins s σ H Q I h
  rw [evalPart_none]
  exact wpAny_pure ⟨none,H,I,.none,h⟩
theorem M9 (h:PE X e te):PO X (some e) (TN te):=by
  intro pins s σ H Q I hw
  rw [evalPart_some]
  refine gw (h pins s σ H _ I hw) λu s1 zz=>?_
  obtain ⟨x,H1,I1,r1,q1⟩:=zz
  obtain ⟨i,rfl,q⟩:=q1
  obtain ⟨t,rfl⟩:=r1
  exact ⟨some i,H1,I1,.int i t,q⟩
noncomputable def Wx (X:Cx) (r:V→Option Int→Option Int→Hp→VK→Prop):Prop:=
  ∀ (pins:List (Addr×Obj)) (s:Shared) (σ:St) (H:Hp) (x:V) (v vl vu:Value) (lo hi:Option Int) (sl:Addr) (Q:VK),Inv X pins σ H s→RelV x v→s.heap.IsSliceOf sl vl vu .none→IsPart vl lo→IsPart vu hi→r x lo hi H Q →
    ∃ T id,typeLookup (.type T) "__getitem__"=pure (some (.builtin id))∧s.TypeIs v T∧wpAny (model X.prog X.w) X.A (getItem v (.ref sl)) (EP X pins σ Q) X.xe s
noncomputable def tSl (r:V→Option Int→Option Int→Hp→VK→Prop) (te:TE) (tl th:TO):TE:=λσ H Q=>te σ H λx H1=>tl σ H1 λl H2=>th σ H2 λu H3=>r x l u H3 Q
theorem J6 (hr:Wx X r) (he:PE X e te) (hl:PO X lo tl) (hu:PO X hi th):PE X (.Subscript e (.Slice lo hi none p2) pos) (tSl r te tl th):=by
  intro pins s σ H Q I h
  refine Subscript_ (gw (he pins s σ H _ I h) λv s1 zz=>?_)
  obtain ⟨x,H1,I1,r1,q1⟩:=zz
  refine wpAny_Slice (gw (hl pins s1 σ H1 _ I1 q1) λvl s2 ⟨l,H2,I2,pl,q2⟩=>gw (hu pins s2 σ H2 _ I2 q2) λvu s3 zz=>?_)
  obtain ⟨u,H3,I3,pu,q3⟩:=zz
  rw [evalPart_none]
  refine wpAny_pure ?_
  have I4:Inv X pins σ H3 {s3 with heap:=s3.heap.push {cls:=.type "slice",data:=.fields #[vl,vu,.none]}}:=I3.kept (t':=s3.toks) λb ob q=>Heap.get?_push_of_some _ q
  obtain ⟨T,id,hT,ht,hg⟩:=hr pins {s3 with heap:=s3.heap.push {cls:=.type "slice",data:=.fields #[vl,vu,.none]}} σ H3 x v vl vu l u s3.heap.objs.size Q I4 r1 (Heap.IsSliceOf.new ..) pl pu q3
  show wpAny (model X.prog X.w) X.A (subscriptTail e (.Slice lo hi none p2) v (.ref s3.heap.objs.size)) (EP X pins σ Q) X.xe {s3 with heap:=s3.heap.push {cls:=.type "slice",data:=.fields #[vl,vu,.none]}}
  exact tail_any (ops:=[.ref s3.heap.objs.size,v]) ht hT hg (by with_unfolding_all rfl)
noncomputable def DB (xs:List V) (lo hi:Option Int):List V:=(xs.drop (HT.ji xs.length 0 lo)).take (HT.ji xs.length xs.length hi - HT.ji xs.length 0 lo)
theorem x9 (xs:List V) (lo hi:Option Int):(DB xs lo hi).length≤xs.length:=by
  unfold DB
  rw [List.length_take,List.length_drop]
  nofun
noncomputable def XF (K:PySem.W.Frag):V→Option Int→Option Int→Hp→VK→Prop:=λx lo hi H Q=>∃ a xs,x=.ref a∧rG K H a xs ∧
  ¬ (HT.ji xs.length 0 lo=0∧HT.ji xs.length xs.length hi=xs.length)∧∀ p,H p=none→Q (.ref p) (upd H p (.tup (DB xs lo hi)))
theorem Qz:Wx X (XF X.K):=by
  intro pins s σ H x v vl vu lo hi sl Q I rx hs pl pu h
  obtain ⟨a,xs,rfl,hx,hw,q⟩:=h
  cases rx
  obtain ⟨its,r,ht,hz⟩:=I.tuple hx
  have hlen:its.toArray.size=xs.length:=by rw [List.size_toArray];exact r.length.symm
  refine ⟨"tuple",_,PyProof.Rows.slot_tuple_getitem.lookup,ht.typeIs,?_⟩
  refine HT.u6 ht hs pl pu (by rw [hlen];exact hw) ?_ (by rw [hlen];exact hz)
  rw [hlen]
  refine ⟨.ref s.heap.objs.size,_,I.laid (t':=s.toks) (o:=.tup (DB xs lo hi)) (λb ob q=>Heap.get?_push_of_some _ q) (Nat.le_refl _) ?_,rfl,q _ (I.hok.fresh (Nat.le_refl _))⟩
  exact ⟨Nat.le_trans (x9 xs lo hi) hz,_,(r.drop (HT.ji xs.length 0 lo)).take (HT.ji xs.length xs.length hi - HT.ji xs.length 0 lo),IsTup.new _ _⟩
noncomputable def TQ (K:PySem.W.Frag):R2:=λx y H Q=>∃ a b xs ys,x=.ref a∧y=.ref b∧rG K H a xs∧rG K H b ys∧xs≠[]∧xs.length+ys.length≤sizeLine ∧
  (ys=[]→Q (.ref a) H)∧(ys≠[]→∀ p,H p=none→Q (.ref p) (upd H p (.tup (xs++ys))))
theorem Vals.Ck (r:Vals xs us):us=[]↔xs=[]:=by
  cases r with
  | nil=>simp
  | cons _ _=>simp
theorem Na:nv X (binaryOp .Add) (TQ X.K):=by
  intro pins s σ H x y v u Q I rx ry h
  obtain ⟨a,b,xs,ys,rfl,rfl,ha,hb,hx,hz,q1,q2⟩:=h
  cases rx
  cases ry
  obtain ⟨its,r1,p1,_⟩:=I.tuple ha
  obtain ⟨its2,r2,p2,_⟩:=I.tuple hb
  refine HT.M6 p1 p2 (λz=>hx (r1.Ck.mp z)) (λz=>⟨.ref a,H,I,rfl,q1 (r2.Ck.mp z)⟩) (λz=>?_) (by rw [← r1.length,← r2.length];exact hz)
  refine ⟨.ref s.heap.objs.size,_,I.laid (t':=s.toks) (o:=.tup (xs++ys)) (λb ob q=>Heap.get?_push_of_some _ q) (Nat.le_refl _) ?_,rfl,q2 (λw=>z (r2.Ck.mpr w)) _ (I.hok.fresh (Nat.le_refl _))⟩
  exact ⟨by rw [List.length_append];exact hz,_,r1.append r2,IsTup.new _ _⟩
end
noncomputable def J7 (n:Nat) (i:Int):Option Nat:=if 0≤i then (if i<n then some i.toNat else none) else if -(n:Int)≤i then some (i+n).toNat else none
noncomputable def pX {α:Type} (xs:List α) (i:Int):Option α:=(J7 xs.length i).bind λj=>xs[j]?
theorem Nb (h:J7 n i=some j):seqIndex? i n=some j∧j<n∧-(n:Int)≤i∧i<n:=by
  unfold J7 at h
  by_cases h0:0≤i
  · rw [if_pos h0] at h
    by_cases h1:i<n
    · rw [if_pos h1] at h
      have e:i.toNat=j:=Option.some.inj h
      exact ⟨by rw [seqIndex_of h0 h1,e],by nofun,by nofun,h1⟩
    · rw [if_neg h1] at h;cases h
  · rw [if_neg h0] at h
    by_cases h1:-(n:Int)≤i
    · rw [if_pos h1] at h
      have e:(i+n).toNat=j:=Option.some.inj h
      exact ⟨by rw [seqIndex_neg (by nofun) h1,e],by nofun,h1,by nofun⟩
    · rw [if_neg h1] at h;cases h
theorem Cm {α:Type} {xs:List α} {v:α} (h:pX xs i=some v):∃ j,seqIndex? i xs.length=some j∧xs[j]?=some v∧j<xs.length∧-(xs.length:Int)≤i∧i<xs.length:=by
  unfold pX at h
  cases e:J7 xs.length i with
  | none=>rw [e] at h;cases h
  | some j=>
    rw [e] at h
    obtain ⟨h1,h2,h3,h4⟩:=Nb e
    exact ⟨j,h1,h,h2,h3,h4⟩
theorem yV {α:Type} {xs:List α} {v:α} (h:xs[j]?=some v):pX xs (j:Int)=some v:=by
  have hj:j<xs.length:=(List.getElem?_eq_some_iff.mp h).1
  have e:J7 xs.length (j:Int)=some j:=by
    unfold J7
    rw [if_pos (by nofun),if_pos (by nofun)];simp
  unfold pX;rw [e];exact h
noncomputable def yW (b:Expr):Prop:=∀ o i,subscripted b false o i=operate [o,i] (getItem o i)
noncomputable def Sw (X:Cx) (r:R2):Prop:=
  ∀ (value slice:Expr) (pins:List (Addr×Obj)) (s:Shared) (σ:St) (H:Hp) (x y:V) (v u:Value) (Q:VK),Inv X pins σ H s→RelV x v→RelV y u→r x y H Q →
    subscripted slice false v u=operate [v,u] (getItem v u)→wpAny (model X.prog X.w) X.A (subscriptTail value slice v u) (EP X pins σ Q) X.xe s
noncomputable def ON (X:Cx) (id:String) (r:V→List V→Hp→VK→Prop):Prop:=
  ∀ (pins:List (Addr×Obj)) (s:Shared) (σ:St) (H:Hp) (x:V) (xs:List V) (v:Value) (us:List Value) (Q:VK),Inv X pins σ H s→RelV x v→Vals xs us→r x xs H Q →
    wpAny (model X.prog X.w) X.A (call (.builtin id) (v::us)) (EP X pins σ Q) X.xe s
section
variable {X:Cx} {a b:Expr} {ta tb:TE} {pos:Pos}
theorem TR {r:R2} (hr:Sw X r) (ha:PE X a ta) (hb:PE X b tb) (hs:yW b):PE X (.Subscript a b pos) (Tq r ta tb):=by
  intro pins s σ H Q I h
  exact Subscript_ (Qc ha hb I h λv u s2 x y H2 I2 rx ry q=>hr a b pins s2 σ H2 x y v u Q I2 rx ry q (hs _ _))
noncomputable def XG (K:PySem.W.Frag):R2:=λx y H Q=>∃ p xs i v,x=.ref p∧y=.int i∧q8 K H p xs∧pX xs i=some v∧Q v H
noncomputable def XH (K:PySem.W.Frag):R2:=λx y H Q=>∃ p xs i v,x=.ref p∧y=.int i∧rG K H p xs∧pX xs i=some v∧Q v H
noncomputable def XI:R2:=λx y H Q=>∃ z i c,x=.str z∧y=.int i∧z.length≤sizeLine∧pX z.cps.toList i=some c∧Q (.str ⟨#[c]⟩) H
theorem Nc:Sw X (XG X.K):=by
  intro value slice pins s σ H x y v u Q I rx ry h hs
  obtain ⟨p,xs,i,z,rfl,rfl,hq,he,q⟩:=h
  cases rx
  obtain ⟨t,rfl⟩:=ry
  obtain ⟨its,r,pl,hz⟩:=I.list hq
  obtain ⟨j,h1,h2,h3,h4,h5⟩:=Cm he
  obtain ⟨w,ew,rw'⟩:=r.get h2
  have hl:=r.length
  have hn:=wW
  have fin:EP X pins σ Q w s:=⟨z,H,I,rw',q⟩
  by_cases h0:0≤i
  · have hj:i.toNat=j:=by
      rw [seqIndex_of h0 h5] at h1
      exact Option.some.inj h1
    exact item_listR pl.isList h0 (by nofun) (by rw [hj];simpa using ew) fin hs
  · have hj:(i+(its.toArray.size:Int)).toNat=j:=by
      rw [seqIndex_neg (by nofun) h4] at h1
      rw [List.size_toArray,← hl]
      exact Option.some.inj h1
    exact subscriptTail_builtinR (x:=w) pl.isList.typeIs slot_list_getitem.lookup
      (wpAny_getItem_list_neg (Q:=λr s'=>r=w∧EP X pins σ Q r s') pl.isList (by nofun) (by rw [List.size_toArray]<;>nofun) (by nofun) (by rw [hj];simpa using ew) ⟨rfl,fin⟩) hs
theorem QB:Sw X (XH X.K):=by
  intro value slice pins s σ H x y v u Q I rx ry h hs
  obtain ⟨p,xs,i,z,rfl,rfl,hq,he,q⟩:=h
  cases rx
  obtain ⟨t,rfl⟩:=ry
  obtain ⟨its,r,pl,hz⟩:=I.tuple hq
  obtain ⟨j,h1,h2,h3,h4,h5⟩:=Cm he
  obtain ⟨w,ew,rw'⟩:=r.get h2
  have hl:=r.length
  have hn:=wW
  have fin:EP X pins σ Q w s:=⟨z,H,I,rw',q⟩
  exact subscriptTail_builtinR (x:=w) pl.typeIs slot_tuple_getitem.lookup
    (getItem_tuple (j:=j) (Q:=λr s'=>r=w∧EP X pins σ Q r s') pl (by nofun) (by nofun) (by rw [List.size_toArray,← hl];exact h1) (by simpa using ew) ⟨rfl,fin⟩) hs
theorem QC:Sw X XI:=by
  intro value slice pins s σ H x y v u Q I rx ry h hs
  obtain ⟨z,i,c,rfl,rfl,hz,he,q⟩:=h
  obtain ⟨t,rfl⟩:=rx
  obtain ⟨t',rfl⟩:=ry
  obtain ⟨j,h1,h2,h3,h4,h5⟩:=Cm he
  have hl:z.cps.toList.length=z.length:=by simp [Str.length]
  rw [hl] at h1 h4 h5
  have hn:=wW
  exact tail_any (typeIs_str s z t) slot_str_getitem.lookup (getItem_str (c:=c) (by
    have e1:decide (i < -(2^63:Int))=false:=decide_eq_false (by nofun)
    have e2:decide (i ≥ 2^63)=false:=decide_eq_false (by nofun)
    rw [e1,e2,Bool.or_false]) (by rw [h1];simpa using h2) ⟨.str ⟨#[c]⟩,H,I.tok _,⟨_,rfl⟩,q⟩) hs
theorem Cn (lo hi:Option Int) (n:Nat):(sliceBounds lo hi none n).1=((HT.ji n 0 lo:Nat):Int)∧(sliceBounds lo hi none n).2.1=((HT.ji n n hi:Nat):Int)∧(sliceBounds lo hi none n).2.2=1:=by
  refine ⟨?_,?_,rfl⟩
  · cases lo with
    | none=>simp [sliceBounds,HT.ji]
    | some i=>
      simp only [sliceBounds,HT.ji,Option.getD_none,show (1:Int) > 0 by decide,if_true]
      by_cases h:i<0
      · simp only [h,if_true]<;>nofun
      · simp only [h,if_false]<;>nofun
  · cases hi with
    | none=>simp [sliceBounds,HT.ji]
    | some i=>
      simp only [sliceBounds,HT.ji,Option.getD_none,show (1:Int) > 0 by decide,if_true]
      by_cases h:i<0
      · simp only [h,if_true]<;>nofun
      · simp only [h,if_false]<;>nofun
theorem AO (its:List Value) (lo hi:Option Int):slicePick its.toArray lo hi none=((its.drop (HT.ji its.length 0 lo)).take (HT.ji its.length its.length hi - HT.ji its.length 0 lo)).toArray:=by
  obtain ⟨h1,h2,h3⟩:=Cn lo hi its.toArray.size
  unfold slicePick
  rw [h1,h2,h3]
  simp only [sliceRange_one,pick_run,List.size_toArray]<;>rfl
noncomputable def XJ (K:PySem.W.Frag):V→Option Int→Option Int→Hp→VK→Prop:=λx lo hi H Q=>∃ a xs,x=.ref a∧q8 K H a xs∧∀ p,H p=none→Q (.ref p) (upd H p (.lst (DB xs lo hi)))
theorem Nd:Wx X (XJ X.K):=by
  intro pins s σ H x v vl vu lo hi sl Q I rx hs pl pu h
  obtain ⟨a,xs,rfl,hx,q⟩:=h
  cases rx
  obtain ⟨its,r,ht,hz⟩:=I.list hx
  have hlen:=r.length
  refine ⟨"list",_,slot_list_getitem.lookup,ht.isList.typeIs,?_⟩
  refine wpAny_getItem_list_slice ht.isList hs pl pu .none (by simp) ?_ (by rw [List.size_toArray]<;>nofun)
  rw [AO,← hlen]
  refine ⟨.ref s.heap.objs.size,_,I.laid (t':=s.toks) (o:=.lst (DB xs lo hi)) (λb ob q=>Heap.get?_push_of_some _ q) (Nat.le_refl _) ?_,rfl,q _ (I.hok.fresh (Nat.le_refl _))⟩
  exact ⟨Nat.le_trans (x9 xs lo hi) hz,_,0,(r.drop (HT.ji xs.length 0 lo)).take (HT.ji xs.length xs.length hi - HT.ji xs.length 0 lo),Heap.get?_push_size _ rfl⟩
theorem u7:jb X (.builtin "len") (λxs H Q=>∃ p ys,xs=[.ref p]∧(q8 X.K H p ys∨rG X.K H p ys)∧Q (.int ys.length) H):=by
  intro pins s σ H xs us Q I r h
  obtain ⟨p,ys,rfl,hq,q⟩:=h
  obtain ⟨u,rfl,rx⟩:=vals1 r
  cases rx
  have hn:=wW
  rcases hq with hq | hq
  · obtain ⟨its,r',pl,hz⟩:=I.list hq
    have hlen:=r'.length
    exact Calls.call_len_list pl.isList (by simp only [List.size_toArray]<;>nofun) ⟨.int ys.length,H,I.tok _,⟨s.toks+1,by rw [List.size_toArray,hlen]⟩,q⟩
  · obtain ⟨its,r',pl,hz⟩:=I.tuple hq
    have hlen:=r'.length
    exact len_tuple pl (by simp only [List.size_toArray]<;>nofun) ⟨.int ys.length,H,I.tok _,⟨s.toks+1,by rw [List.size_toArray,hlen]⟩,q⟩
theorem Co:jb X (.builtin "len") (λxs H Q=>∃ z,xs=[.str z]∧z.length≤sizeLine∧Q (.int z.length) H):=by
  intro pins s σ H xs us Q I r h
  obtain ⟨z,rfl,hz,q⟩:=h
  obtain ⟨u,rfl,t,rfl⟩:=vals1 r
  have hn:=wW
  exact len_str (by nofun) ⟨.int z.length,H,I.tok _,⟨_,rfl⟩,q⟩
theorem u9:jb X (.type "list") (λxs H Q=>∃ p ys,xs=[.ref p]∧(q8 X.K H p ys∨rG X.K H p ys)∧∀ l,H l=none→Q (.ref l) (upd H l (.lst ys))):=by
  intro pins s σ H xs us Q I r h
  obtain ⟨p,ys,rfl,hq,q⟩:=h
  obtain ⟨u,rfl,rx⟩:=vals1 r
  cases rx
  have fin:∀ (its:List Value),Vals ys its→ys.length≤sizeLine→∀ (h':Heap) (c':Nat),(∀ b o',s.heap.get? b=some o'→h'.get? b=some o') →
      h'.get? s.heap.objs.size=some {cls:=.type "list",dict:=none,data:=.seq its.toArray c',slots:=#[]}→EP X pins σ Q (.ref s.heap.objs.size) {s with heap:=h'}:=λits r' hz h' c' kp e=>
    ⟨.ref s.heap.objs.size,_,I.laid (t':=s.toks) kp (Nat.le_refl _) (show ja X.prog X.w _ h' _ (.lst ys) from ⟨hz,its,c',r',e⟩),rfl,q _ (I.hok.fresh (Nat.le_refl _))⟩
  rcases hq with hq | hq
  · obtain ⟨its,r',pl,hz⟩:=I.list hq
    have hlen:=r'.length
    obtain ⟨o,ho,hc,n,hd⟩:=pl.isList
    exact call_list_seq p (.inl rfl) ho hc hd (λh' c' kp e=>fin its r' hz h' c' kp e) (by simp only [List.size_toArray]<;>nofun)
  · obtain ⟨its,r',pl,hz⟩:=I.tuple hq
    have hlen:=r'.length
    obtain ⟨o,ho,hc,n,hd⟩:=pl
    exact call_list_seq p (.inr rfl) ho hc hd (λh' c' kp e=>fin its r' hz h' c' kp e) (by simp only [List.size_toArray]<;>nofun)
theorem tP:jb X (.type "tuple") (λxs H Q=>∃ p ys,xs=[.ref p]∧((q8 X.K H p ys∧∀ l,H l=none→Q (.ref l) (upd H l (.tup ys)))∨(rG X.K H p ys∧Q (.ref p) H))):=by
  intro pins s σ H xs us Q I r h
  obtain ⟨p,ys,rfl,h⟩:=h
  obtain ⟨u,rfl,rx⟩:=vals1 r
  cases rx
  rcases h with ⟨hq,q⟩ | ⟨hq,q⟩
  · obtain ⟨its,r',pl,hz⟩:=I.list hq
    have hlen:=r'.length
    refine call_tuple_list pl.isList (λh' kp=>?_) (by simp only [List.size_toArray]<;>nofun)
    have I1:Inv X pins σ H {s with heap:=h'}:=I.kept (t':=s.toks) kp
    have I2:Inv X pins σ (upd H h'.objs.size (.tup ys)) {s with heap:=h'.push {cls:=.type "tuple",data:=.seq its.toArray}}:=
      I1.laid (t':=s.toks) (λb o e=>Heap.get?_push_of_some _ e) (Nat.le_refl _) (show ja X.prog X.w _ _ _ (.tup ys) from ⟨hz,its,r',IsTup.new _ _⟩)
    exact ⟨.ref h'.objs.size,_,I2,rfl,q _ (I1.hok.fresh (Nat.le_refl _))⟩
  · obtain ⟨its,r',pl,hz⟩:=I.tuple hq
    exact call_tuple_same pl ⟨.ref p,H,I,rfl,q⟩
noncomputable def Wz (K:PySem.W.Frag) (T:String) (x:V) (H:Hp):Prop:=match x with
  | .str _=>T="str"
  | .int _=>T="int"
  | .ref p=>(T="list"∧∃ xs,q8 K H p xs)∨(T="tuple"∧∃ o,K.lookup p=some o∧o.cls=.type "tuple"∧o.dict=none) ∨
      (T="dict"∧((∃ kvs,H p=some (.dK kvs))∨∃ kvs,H p=some (.dT kvs)))∨(T="set"∧∃ S n,H p=some (.set S n))
  | _=>False
theorem J8 {σ:St} {H:Hp} {x:V} (I:Inv X pins σ H s) (r:RelV x v) (ty:Wz X.K T x H) :
    s.TypeIs v T∧∀ a,v=.ref a→∃ ob,s.heap.get? a=some ob∧ob.dict=none:=by
  cases x with
  | str z=>
    obtain ⟨t,rfl⟩:=r
    cases (show T="str" from ty)
    exact ⟨typeIs_str s z t,λ_ e=>nomatch e⟩
  | int i=>
    obtain ⟨t,rfl⟩:=r
    cases (show T="int" from ty)
    exact ⟨typeIs_int s i t,λ_ e=>nomatch e⟩
  | ref p=>
    cases r
    rcases ty with ⟨rfl,xs,hq⟩ | ⟨rfl,o,hk,hc,hd⟩ | ⟨rfl,hk⟩ | ⟨rfl,S,n,hk⟩
    · obtain ⟨its,_,pl,_⟩:=I.list hq
      refine ⟨pl.isList.typeIs,λa e=>?_⟩
      cases e
      obtain ⟨o,n,e,c,hd,_⟩:=pl
      exact ⟨o,e,hd⟩
    · refine ⟨⟨o,I.Ff p o hk,hc⟩,λa e=>?_⟩
      cases e
      exact ⟨o,I.Ff _ o hk,hd⟩
    · have z:∃ o,s.heap.get? p=some o∧o.ExactDict:=by
        rcases hk with ⟨kvs,hk⟩ | ⟨kvs,hk⟩
        · obtain ⟨_,_,_,_,o,_,_,e,ex,_⟩:=I.hok p _ hk
          exact ⟨o,e,ex⟩
        · obtain ⟨_,_,_,_,o,_,_,e,ex,_⟩:=I.hok p _ hk
          exact ⟨o,e,ex⟩
      obtain ⟨o,e,ex⟩:=z
      refine ⟨⟨o,e,ex.1⟩,λa e2=>?_⟩
      cases e2
      exact ⟨o,e,ex.2.1⟩
    · obtain ⟨o,_,_,_,e,ex,_⟩:=I.hok p _ hk
      refine ⟨⟨o,e,ex.1⟩,λa e2=>?_⟩
      cases e2
      exact ⟨o,e,ex.2.1⟩
  | _=>exact False.elim ty
noncomputable def XM (K:PySem.W.Frag) (T:String) (r:V→List V→Hp→VK→Prop) (to:TE):TE:=λσ H Q=>to σ H λx H1=>Wz K T x H1∧r x [] H1 Q
noncomputable def tBM (K:PySem.W.Frag) (T:String) (r:V→List V→Hp→VK→Prop) (to:TE) (t:TA):TE:=λσ H Q=>to σ H λx H1=>Wz K T x H1∧t σ H1 λxs H2=>r x xs H2 Q
variable {o e:Expr} {es:List Expr} {to:TE} {t:TA} {name:Str} {apos cpos:Pos} {T id:String} {r:V→List V→Hp→VK→Prop}
theorem QD (pa:PlainAttrs T) (slot:Slot T name id) (hty:typeOf (.builtin id)=pure (.type "method_descriptor")) (hm:ON X id r) (ho:PE X o to)
    (hbase:attributeBase o name X.env (eval o X.env)=eval o X.env:=by rfl) (hline:(apos.endLine==cpos.line)=true:=by rfl):PE X (.Call (.Attribute o name apos) [] [] cpos) (XM X.K T r to):=by
  intro pins s σ H Q I h
  refine wpAny_Call_method0_late hbase hline (gw (ho pins s σ H _ I h) λv s1 zz=>?_)
  obtain ⟨x,H1,I1,r1,ty,q1⟩:=zz
  obtain ⟨h1,h2⟩:=J8 I1 r1 ty
  exact ⟨T,id,pa,slot,hty,h1,h2,Calls.callWith_builtin rfl (PySem.evalArgs_none (hm pins s1 σ H1 x [] v [] Q I1 r1 .nil q1))⟩
theorem TU (pa:PlainAttrs T) (slot:Slot T name id) (hty:typeOf (.builtin id)=pure (.type "method_descriptor")) (hm:ON X id r) (ho:PE X o to) (ha:PA X (e::es) t)
    (hbase:attributeBase o name X.env (eval o X.env)=eval o X.env:=by rfl)
    (hfew:((backTo cpos (starEach (e::es) X.env)).all (λx=>!x.1)&&(backToKw cpos (keywordEach [] X.env)).all (λx=>x.1.isSome)
      && decide ((e::es).length+([]:List Keyword).length+(if ([]:List Keyword).isEmpty then 0 else 1)<30))=true:=by rfl)
    (hline:(apos.endLine==cpos.line)=true:=by rfl) (hs:starEach (e::es) X.env=(false,eval e X.env)::starEach es X.env:=by rfl) (hplain:(backTo cpos (starEach es X.env)).any (·.1)=false:=by rfl) :
    PE X (.Call (.Attribute o name apos) (e::es) [] cpos) (tBM X.K T r to t):=by
  intro pins s σ H Q I h
  refine wpAny_Call_method_late hbase hfew hline rfl (gw (ho pins s σ H _ I h) λv s1 zz=>?_)
  obtain ⟨x,H1,I1,r1,ty,q1⟩:=zz
  obtain ⟨h1,h2⟩:=J8 I1 r1 ty
  refine ⟨T,id,pa,slot,hty,h1,h2,?_⟩
  have hA:=ha cpos pins s1 σ H1 _ I1 q1
  rw [hs] at hA ⊢
  refine Calls.callWith_builtin (by show (false||(backTo cpos (starEach es X.env)).any (·.1))=false;rw [hplain]<;>rfl) (Calls.evalArgs_plain ?_)
  exact gw hA λus s2 zz=>by obtain ⟨vs,H2,I2,r2,q2⟩:=zz;exact hm pins s2 σ H2 x vs v us Q I2 r1 r2 q2
end
noncomputable def ZT (X:Cx) (id:String) (r:V→List V→Hp→VK→Prop):Prop:=
  ∀ (pins:List (Addr×Obj)) (s:Shared) (σ:St) (H:Hp) (x:V) (xs:List V) (v:Value) (us:List Value) (Q:VK),Inv X pins σ H s→RelV x v→Vals xs us→r x xs H Q →
    wpAny (model X.prog X.w) X.A (call (.builtin id) (v::us)) (EP X pins σ Q) X.xe s
theorem Vals.one:∀ {x:V} {us:List Value},Vals [x] us→∃ u,us=[u]∧RelV x u
  | _,_,.cons r .nil=>⟨_,rfl,r⟩
theorem Vals.zero:∀ {us:List Value},Vals [] us→us=[]
  | _,.nil=>rfl
theorem Vals.dropLast (h:Vals xs us):Vals xs.dropLast us.dropLast:=by
  induction h with
  | nil=>exact .nil
  | cons r t ih=>
    cases t with
    | nil=>exact .nil
    | cons q t'=>exact .cons r ih
theorem Vals.eraseIdx:∀ {xs:List V} {us:List Value} (i:Nat),Vals xs us→Vals (xs.eraseIdx i) (us.eraseIdx i)
  | _,_,_,.nil=>.nil
  | _,_,0,.cons _ t=>t
  | _,_,i+1,.cons r t=>.cons r (Vals.eraseIdx i t)
theorem Vals.reverse (h:Vals xs us):Vals xs.reverse us.reverse:=by
  induction h with
  | nil=>exact .nil
  | cons r t ih=>rw [List.reverse_cons,List.reverse_cons];exact Vals.append ih (.cons r .nil)
theorem FA (l:List α):l.eraseIdx (l.length - 1)=l.dropLast:=by
  induction l with
  | nil=>rfl
  | cons a r ih=>
    cases r with
    | nil=>rfl
    | cons b r=>
      have e:(a::b::r).length - 1=((b::r).length - 1)+1:=by
        have h1:(a::b::r).length=r.length+2:=rfl
        have h2:(b::r).length=r.length+1:=rfl
        nofun
      rw [e,List.eraseIdx_cons_succ,ih]
      all_goals rfl
section
variable {X:Cx} {pins:List (Addr×Obj)} {σ:St} {H:Hp} {s:Shared} {l b:Addr} {xs ys zs:List V}
theorem Inv.Nf {its its':List Value} {n:Nat} {f:Array Value→Array Value} {t':Nat} (I:Inv X pins σ H s) (hH:H l=some (.lst xs))
    (e:s.heap.get? l=some {cls:=.type "list",data:=.seq its.toArray n}) (hf:f its.toArray=its'.toArray) (hv:Vals ys its') (hz:ys.length≤sizeLine) (ht:0<t':=by first | exact Nat.succ_pos _ | exact (Inv.os (by assumption)).2 | assumption | nofun) :
    Inv X pins σ (upd H l (.lst ys)) {s with heap:=s.heap.update l (Obj.mapSeq f),toks:=t'}:=by
  have q:=PySem.IsL.update e f
  rw [hf] at q
  refine I.write (x:=l) (e:=l) (by rw [hH];exact trivial) (.inl rfl) (λb' u hb hu=>(Heap.get?_update_other s.heap (Obj.mapSeq f) (Ne.symm hb)).trans hu) ⟨_,q⟩ ?_
  exact ⟨hz,its',_,hv,q⟩
theorem Inv.XN (I:Inv X pins σ H s) (hv:Vals ys its) (hz:ys.length≤sizeLine) (ht:0<t':=by first | exact Nat.succ_pos _ | exact (Inv.os (by assumption)).2 | assumption | nofun) :
    Inv X pins σ (upd H s.heap.objs.size (.lst ys)) {s with heap:=s.heap.push {cls:=.type "list",data:=.seq its.toArray},toks:=t'}:=
  I.laid (λ_ _ q=>Heap.get?_push_of_some _ q) (Nat.le_refl _) ⟨hz,its,0,hv,Heap.get?_push_size _ rfl⟩
theorem Inv.fresh (I:Inv X pins σ H s):H s.heap.objs.size=none:=I.hok.fresh (Nat.le_refl _)
theorem Inv.Ng (I:Inv X pins σ H s) (hH:H l=some (.lst xs)):xs.length≤sizeLine∧∃ (its:List Value) (n:Nat),Vals xs its∧xs.length=its.length∧s.heap.get? l=some {cls:=.type "list",data:=.seq its.toArray n}:=by
  obtain ⟨z,its,n,r,e⟩:=I.hok l _ hH
  exact ⟨z,its,n,r,r.length,e⟩
theorem J9 (h:n≤sizeLine):Builtin.List.listTooLong n=false:=by
  unfold Builtin.List.listTooLong
  exact decide_eq_false (by nofun)
end
section
variable {X:Cx}
noncomputable def Nh:V→List V→Hp→VK→Prop:=λx vs H Q=>∃ l xs y,x=.ref l∧vs=[y]∧H l=some (.lst xs)∧xs.length<sizeLine∧Q .i9 (upd H l (.lst (xs++[y])))
theorem By:ZT X "list.append" Nh:=by
  intro pins s σ H x vs v us Q I rx rv h
  obtain ⟨l,xs,y,rfl,rfl,hH,hz,q⟩:=h
  cases rx
  obtain ⟨u,rfl,ru⟩:=rv.one
  obtain ⟨z,its,n,r,hl,e⟩:=I.Ng hH
  refine call_meets F.slot_list_append ⟨_,e,rfl⟩ F.entry_list_append (F.args_list_append_2 _ _) (PySem.list_append l its.toArray n u (by rw [List.size_toArray];nofun)) ⟨e,?_⟩
  refine ⟨.i9,_,I.Nf (its':=its++[u]) hH e (by simp) (r.append (.cons ru .nil)) ?_,rfl,q⟩
  rw [List.length_append,List.length_singleton]
  nofun
noncomputable def XO:V→List V→Hp→VK→Prop:=λx vs H Q=>∃ l xs y,x=.ref l∧vs=[]∧H l=some (.lst xs)∧xs[xs.length - 1]?=some y∧Q y (upd H l (.lst xs.dropLast))
theorem QF:ZT X "list.pop" XO:=by
  intro pins s σ H x vs v us Q I rx rv h
  obtain ⟨l,xs,y,rfl,rfl,hH,hy,q⟩:=h
  cases rx
  have yF:=rv.zero
  subst yF
  obtain ⟨z,its,n,r,hl,e⟩:=I.Ng hH
  obtain ⟨u,hu,ru⟩:=r.get hy
  have hy':its.toArray[its.toArray.size - 1]?=some u:=by
    show its.toArray[its.length - 1]?=some u
    rw [← Array.getElem?_toList,← hl]
    exact hu
  refine call_meets F.slot_list_pop ⟨_,e,rfl⟩ F.entry_list_pop (F.args_list_pop_1 _) (MeetsSeq.list_pop_last l its.toArray n u hy' (by rw [List.size_toArray];nofun)) ⟨e,?_⟩
  refine ⟨y,_,I.Nf (its':=its.dropLast) hH e ?_ r.dropLast ?_,ru,q⟩
  · show its.toArray.eraseIdxIfInBounds (its.toArray.size - 1)=its.dropLast.toArray
    rw [List.size_toArray,List.eraseIdxIfInBounds_toArray,FA]
  · rw [List.length_dropLast]
    nofun
end
end L2
namespace ZU
open PySem PySem.W PySem.Calls PyProof.Rows
theorem yG {P:Params} {h:Heap}:∀ (ns:List Int) (vs:List Value),WellAll P h vs (ns.map WData.int)→IntsAre vs ns:=by
  intro ns
  induction ns with
  | nil=>
    intro vs w
    rw [List.map_nil] at w
    cases w
    exact .nil
  | cons n ns ih=>
    intro vs w
    rw [List.map_cons] at w
    cases w with
    | cons a b=>
      cases a
      exact .cons _ _ (ih _ b)
theorem IF {l:OpenLaw} {n:Nat} (hn:l.most=some n) {P:Params} {h:Heap} {args:List WData} {vals:List Value}
    (hpre:l.row.toRowW.claim.pre args=true) (hwl:WellAll P h vals args) :
    ∃ a vs ns,vals=[Value.ref a]∧args=[WData.list (ns.map WData.int)]∧h.get? a=some {cls:=.type "list",data:=.seq vs.toArray}∧IntsAre vs ns∧ns.length≤n:=by
  have hsh:WShape.hasAll [] args [.list .int]=true:=(pre_splitW hpre).1
  have hc:l.pre.holds [] {args:=args}=true:=(pre_splitW hpre).2
  obtain ⟨d,r,rfl,h1,h2⟩:=hasAllW_cons hsh
  obtain rfl:=hasAllW_nil h2
  obtain ⟨xs,rfl,h3⟩:=hasW_list h1
  obtain ⟨ns,rfl⟩:=items_int h3
  have hlen:ns.length≤n:=by
    unfold OpenLaw.pre at hc
    have h4:(WTm.not (.lt (.lit (.int (n:Int))) (.len (.arg 0)))).holds [] {args:=[.list (ns.map .int)]}=true:=by
      have h4:=(holds_andW hc).1
      rw [hn] at h4
      exact h4
    have h5:=condW_of h4 (w_not (w_lt w_lit (w_len_list (w_arg rfl))))
    rw [List.length_map] at h5
    refine Nat.le_of_not_lt λq=>?_
    have q':(n:Int)<((ns.length:Nat):Int):=by nofun
    first
      | (rw [decide_eq_true q'] at h5;exact absurd h5 (by decide))
      | (simp at h5;nofun)
  cases hwl with
  | cons w1 w2=>
    cases w2
    cases w1 with
    | list ho hall=>exact ⟨_,_,ns,rfl,rfl,ho,yG ns _ hall,hlen⟩
theorem IG (l:OpenLaw) (args:List WData):l.row.toRowW.claim.post args (.bool true) args=true:=
  postW_of (r:=l.row.toRowW) (X:=(true==true))
    (show WShape.has [] (.bool true) .bool=true by first | rfl | decide | simp [WShape.has,WShape.arms,WShape.armsAll])
    (show (WTm.eq .res (.lit (.bool true))).value [] {args:=args,res:=some (.bool true),after:=args}=some (.bool (true==true)) from w_eq_bool (w_res rfl) w_lit) rfl
theorem DC {l:OpenLaw} {n:Nat} {q:Program} {loose:List Str} {XP:(Str→Option Value)→Heap→Prop} {YP:World→Heap→Prop} {d:DefRec}
    (hn:l.most=some n) (hdf:d.params.defaults=[])
    (call:∀ (w:World) (s₀ s₁:Shared) (mg mb:Str→Option Value) (fa:Addr) (o:Obj) (pm cd doc:Value) (a:Addr) (vs:List Value) (ns:List Int),
      Ground q loose [] XP w s₀ mg mb s₁.heap→YP w s₁.heap →
      s₁.heap.get? fa=some o→o.data=.func (docDef d.name d.params d.body d.scope pm cd doc)→s₁.heap.CodeRec cd d.name→mg d.name=some (.ref fa) →
      s₁.heap.get? a=some {cls:=.type "list",data:=.seq vs.toArray}→IntsAre vs ns→ns.length≤n→s₁.gens=#[] →
      codeAny (model l.prog w) callerA (.call (.ref fa) ⟨[.ref a],[]⟩) (λr s'=>r=.ok (.ret (.bool true))∧OldK s₁.heap s'.heap∧s'.os=s₁.os∧AllBare s'.gens) s₁) :
    WalkO q loose XP YP l.row.toRowW d [] (λf vs=>PySem.call f vs):=by
  intro w s₀ s₁ mg mb G Y fa o pm cd doc dV kV ho hd hcd hD hmg hg args vals as hpre hlay hrd hwl hlo
  obtain rfl:dV=.none:=Dflts.none hD hdf
  obtain rfl:kV=.none:=Dflts.noKw hD
  obtain ⟨a,vs,ns,rfl,rfl,hobj,hints,hlen⟩:=IF hn hpre hwl
  refine enter_call (codeAny_mono (call w s₀ s₁ mg mb fa o pm cd doc a vs ns G Y ho (fd_plain hd) hcd hmg hobj hints hlen hg) λr s' hq=>?_)
  obtain ⟨rfl,h2,h3,h4⟩:=hq
  exact ⟨.inl ⟨.bool true,.bool true,[],rfl,λ_=>rfl,.bool true,IG l _,λ_=>⟨List.Pairwise.nil,λ_ hm=>(nomatch hm)⟩⟩,h2,h3,h4⟩
end ZU
namespace L2
open PySem PySem.Spec PyProof.Rows
variable {kvs:List (List Key×V)} {xs:List (List Key×Addr×Value)} {Q:Value→Shared→Prop} {H H':Hp} {o:Option V} {P:Program} {Nl:List (TE×TE)} {u:Option Value} {w:World} {X:Cx} {pos:Pos} {a f b:Addr} {osl:Array (Option Value)} {ks:List (Option Expr)} {qual x:Str} {vs:List (Key×Value)} {h':Heap} {pins:List (Addr×Obj)} {od an:Option Addr} {values:List Expr} {fd:FuncData} {s:Shared} {pm oc doc d' ct cdv:Value} {v:Expr} {t':Nat}
theorem BA:∀ {vs:List Value} {ns:List Int},IntsAre vs ns→Vals (ns.map V.int) vs
  | _,_,.nil=>.nil
  | _,_,.cons n t h=>.cons ⟨t,rfl⟩ (BA h)
noncomputable abbrev KOf {K:PySem.W.Frag} {h:Heap} (_:K.In h):PySem.W.Frag:=K
noncomputable def aL (s:Stmt):Arguments:=match s with
  | .FunctionDef _ a _ _ _ _ _ _ _ _=>a
  | _=>{posonlyargs:=[],args:=[],vararg:=none,kwonlyargs:=[],kw_defaults:=[],kwarg:=none,defaults:=[]}
noncomputable def aD (s:Stmt):List Stmt:=match s with
  | .FunctionDef _ _ b _ _ _ _ _ _ _=>b
  | _=>[]
noncomputable def aa (s:Stmt):Scope:=match s with
  | .FunctionDef _ _ _ _ _ _ sc _ _ _=>sc
  | _=>{kind:=.function,names:=[],isGenerator:=false,isCoroutine:=false}
structure vc (K:PySem.W.Frag) (x qual:Str) (st:Stmt) (f:Addr) (fd:FuncData):Prop where
  ex:∃ (oc:Value) (od:Option Addr) (kV doc pm:Value) (an:Option Addr) (cdv ct:Value) (osl:Array (Option Value)),
    fd=PySem.W.fnOf x qual (aL st) (aD st) (aa st) .none kV doc pm an cdv ct∧K.lookup f=some ⟨oc,od,.func fd,osl⟩∧PySem.W.codeIn K cdv qual=true
  kp:PySem.W.keepIn K (.ref f)=true
section
variable {P:Program} {w:World} {K:PySem.W.Frag} {mg:Str→Option Value} {base:Heap}
theorem vc.binds {st:Stmt} {ps:List Str} (F:vc K x qual st f fd)
    (h:∀ (kV doc pm:Value) (an:Option Addr) (cdv ct:Value) (us:List Value),us.length=ps.length→bindArgs (PySem.W.fnOf x qual (aL st) (aD st) (aa st) .none kV doc pm an cdv ct) ⟨us,[]⟩=pure (ps.zip us)):Binds K fd ps []:=by
  obtain ⟨oc,od,kV,doc,pm,an,cdv,ct,osl,rfl,lk,hcd⟩:=F.ex
  exact .all (h kV doc pm an cdv ct)
theorem gi {st:Stmt} {kV:Value} (l:K.lookup f=some ⟨oc,od,.func (PySem.W.fnOf x qual (aL st) (aD st) (aa st) .none kV doc pm an cdv ct),osl⟩)
    (c:PySem.W.codeIn K cdv qual=true) (k:PySem.W.keepIn K (.ref f)=true):vc K x qual st f (PySem.W.fnOf x qual (aL st) (aD st) (aa st) .none kV doc pm an cdv ct):=⟨⟨oc,od,kV,doc,pm,an,cdv,ct,osl,rfl,l,c⟩,k⟩
end
noncomputable def TV (H H':Hp):Prop:=∀ b o,H b=some o→H' b=some o
theorem TV.free (e:TV H H') {l:Addr} (h:H' l=Option.none):H l=Option.none:=by
  cases q:H l with
  | none=>rfl
  | some o=>
    rw [e l o q] at h
    cases h
section
variable {κ:Type} [DecidableEq κ]
noncomputable def rR (kvs:List (κ×V)) (k:κ):Option V:=(kvs.find? λkv=>decide (kv.1=k)).map (·.2)
noncomputable def putK (kvs:List (κ×V)) (k:κ) (v:V):List (κ×V):=
  if (kvs.any λkv=>decide (kv.1=k))=true then kvs.map (λkv=>if kv.1=k then (kv.1,v) else kv) else kvs++[(k,v)]
theorem zu {p:κ×V} {r:List (κ×V)} {k:κ} (e:p.1=k):rR (p::r) k=some p.2:=by simp [rR,List.find?_cons,e]
theorem ve {p:κ×V} {r:List (κ×V)} {k:κ} (e:¬ p.1=k):rR (p::r) k=rR r k:=by simp [rR,List.find?_cons,e]
theorem DE (k:κ):∀ kvs:List (κ×V),(kvs.any λkv=>decide (kv.1=k))=(rR kvs k).isSome
  | []=>rfl
  | p::r=>by
    rw [List.any_cons]
    by_cases e:p.1=k
    · simp only [zu e,decide_eq_true e,Bool.true_or,Option.isSome_some]
    · rw [ve e,decide_eq_false e,Bool.false_or];exact DE k r
theorem rT (kvs:List (κ×V)) (k:κ) (v:V):(putK kvs k v).length≤kvs.length+1:=by
  unfold putK
  split
  · rw [List.length_map];nofun
  · rw [List.length_append,List.length_cons,List.length_nil];nofun
theorem yC.wZ (r:yC o u):o.isSome=u.isSome:=by
  cases o with
  | none=>cases u with
    | none=>rfl
    | some _=>exact (show False from r).elim
  | some _=>cases u with
    | none=>exact (show False from r).elim
    | some _=>rfl
theorem yC.getD {d:V} (r:yC o u) (rd:RelV d d'):RelV (o.getD d) (u.getD d'):=by
  cases o with
  | none=>cases u with
    | none=>exact rd
    | some _=>exact (show False from r).elim
  | some _=>cases u with
    | none=>exact (show False from r).elim
    | some _=>exact r
theorem KV.val {kvs:List (κ×V)} {vs:List (κ×Value)} (r:KV kvs vs) (k:κ):yC (rR kvs k) (valueAt vs k):=by
  unfold KV at r
  induction r with
  | nil=>exact True.intro
  | @cons p q ps qs h t ih=>
    obtain ⟨h1,h2⟩:=h
    by_cases e:p.1=k
    · have e':q.1=k:=h1.symm.trans e
      have b:valueAt (q::qs) k=some q.2:=by simp [valueAt,List.find?_cons,e']
      rw [zu e,b];exact h2
    · have e':¬ q.1=k:=λz=>e (h1.trans z)
      have b:valueAt (q::qs) k=valueAt qs k:=by simp [valueAt,List.find?_cons,e']
      rw [ve e,b];exact ih
theorem KV.any {kvs:List (κ×V)} {vs:List (κ×Value)} (r:KV kvs vs) (k:κ):(kvs.any λkv=>decide (kv.1=k))=vs.any λkv=>decide (kv.1=k):=by
  unfold KV at r
  induction r with
  | nil=>rfl
  | cons h t ih=>rw [List.any_cons,List.any_cons,ih,h.1]
theorem KV.repl {kvs:List (κ×V)} {vs:List (κ×Value)} (r:KV kvs vs) (k:κ) {y:V} {u:Value} (ry:RelV y u) :
    KV (kvs.map λkv=>if kv.1=k then (kv.1,y) else kv) (vs.map λkv=>if kv.1=k then (kv.1,u) else kv):=by
  unfold KV at r ⊢
  induction r with
  | nil=>exact .nil
  | @cons p q ps qs h t ih=>
    rw [List.map_cons,List.map_cons]
    refine .cons ?_ ih
    obtain ⟨h1,h2⟩:=h
    by_cases e:p.1=k
    · rw [if_pos e,if_pos (h1.symm.trans e)];exact ⟨h1,ry⟩
    · rw [if_neg e,if_neg (λz=>e (h1.trans z))];exact ⟨h1,h2⟩
theorem KV.put {kvs:List (κ×V)} {vs:List (κ×Value)} (r:KV kvs vs) (k:κ) {y:V} {u:Value} (ry:RelV y u):KV (putK kvs k y) (stored vs k u):=by
  unfold putK stored
  rw [r.any k]
  by_cases e:(vs.any λkv=>decide (kv.1=k))=true
  · rw [if_pos e,if_pos e];exact r.repl k ry
  · rw [if_neg e,if_neg e];exact Paired.snoc r ⟨rfl,ry⟩
theorem KV.keys {kvs:List (κ×V)} {vs:List (κ×Value)} (r:KV kvs vs):kvs.map (·.1)=vs.map (·.1):=by
  unfold KV at r
  induction r with
  | nil=>rfl
  | cons h t ih=>rw [List.map_cons,List.map_cons,ih,h.1]
theorem KV.length {kvs:List (κ×V)} {vs:List (κ×Value)} (r:KV kvs vs):kvs.length=vs.length:=Paired.length r
end
theorem DF {k:Key} {u:Value} (r:RelV (kV k) u):(gE P w).is k u=true:=by
  cases k with
  | inl i=>obtain ⟨t,e⟩:=(show ∃ t,u=Value.int i t from r);subst e;exact Dq P w i t
  | inr x=>obtain ⟨t,e⟩:=(show ∃ t,u=Value.str x t from r);subst e;exact Dr P w x t
theorem BB {P:Program} {w:World}:∀ {ks:List Key} {us:List Value},Vals (ks.map kV) us→ItemsAre (gE P w) ks us
  | [],_,r=>by rw [List.map_nil] at r;cases r;exact .nil
  | k::ks,_,r=>by
    rw [List.map_cons] at r
    cases r with
    | cons h t=>exact .cons (DF h) (BB t)
noncomputable abbrev KT (H:Hp):List (List Key×V)→List (List Key×Addr×Value)→Prop:=Paired λp q=>p.1=q.1∧H q.2.1=some (.tup (p.1.map kV))∧RelV p.2 q.2.2
theorem KT.val (r:KT H kvs xs) (k:List Key):yC (rR kvs k) ((atKey xs k).map (·.2)):=by
  induction r with
  | nil=>exact True.intro
  | @cons p q ps qs h t ih=>
    obtain ⟨h1,_,h2⟩:=h
    by_cases e:p.1=k
    · have e':q.1=k:=h1.symm.trans e
      have b:atKey (q::qs) k=some q.2:=by simp [atKey,List.find?_cons,e']
      rw [zu e,b];exact h2
    · have e':¬ q.1=k:=λz=>e (h1.trans z)
      have b:atKey (q::qs) k=atKey qs k:=by simp [atKey,List.find?_cons,e']
      rw [ve e,b];exact ih
theorem KT.repl (r:KT H kvs xs) (k:List Key) {y:V} {u:Value} (ry:RelV y u) :
    KT H (kvs.map λkv=>if kv.1=k then (kv.1,y) else kv) (xs.map (putAt k u)):=by
  induction r with
  | nil=>exact .nil
  | @cons p q ps qs h t ih=>
    rw [List.map_cons,List.map_cons]
    refine .cons ?_ ih
    obtain ⟨h1,h2,h3⟩:=h
    unfold putAt
    by_cases e:p.1=k
    · rw [if_pos e,if_pos (h1.symm.trans e)];exact ⟨h1,h2,ry⟩
    · rw [if_neg e,if_neg (λz=>e (h1.trans z))];exact ⟨h1,h2,h3⟩
theorem KT.put (r:KT H kvs xs) (k:List Key) {b:Addr} {y:V} {u:Value} (hb:H b=some (.tup (k.map kV))) (ry:RelV y u) :
    KT H (putK kvs k y) (storedH xs k b u):=by
  have e:(kvs.any λkv=>decide (kv.1=k))=(atKey xs k).isSome:=by
    rw [DE,(r.val k).wZ,Option.isSome_map]
  unfold putK storedH
  rw [e]
  by_cases q:(atKey xs k).isSome=true
  · rw [if_pos q,if_pos q];exact r.repl k ry
  · rw [if_neg q,if_neg q];exact Paired.snoc r ⟨rfl,hb,ry⟩
theorem KT.keeps (r:KT H kvs xs) (ht:∀ b ys,H b=some (.tup ys)→H' b=some (.tup ys)):KT H' kvs xs:=
  Paired.PM r λ_ _ z=>⟨z.1,ht _ _ z.2.1,z.2.2⟩
section
variable {P:Program} {w:World} {H:Hp} {h:Heap} {a:Addr}
theorem OO {u:HO} (ok:pV P w H h) (e:Rd H a u):ja P w H h a u:=e.ok ok
theorem DG {kvs:List (Key×V)} (ok:pV P w H h) (e:Rd H a (.dK kvs)):kvs.length≤sizeLine∧(a==sysModules)=false∧∃ vs,KV kvs vs∧h.DictOf (gE P w) a vs:=
  show ja P w H h a (.dK kvs) from OO ok e
theorem OP {kvs:List (Key×V)} (ok:pV P w H h) (e:H a=some (.dK kvs)):kvs.length≤sizeLine∧(a==sysModules)=false∧∃ vs,KV kvs vs∧h.DictOf (gE P w) a vs:=DG ok (.inl e)
theorem Cp {ks:List Key} (ok:pV P w H h) (e:H a=some (.tup (ks.map kV))):(tupleKind (gE P w)).is h ks a:=by
  obtain ⟨_,its,r,o,h1,h2,n,h3⟩:=(show ja P w H h a (.tup (ks.map kV)) from ok a _ e)
  exact ⟨o,its.toArray,n,h1,h2,h3,by simpa using BB r⟩
theorem GX (ok:pV P w H h) (e:Rd H a (.dT kvs)):kvs.length≤sizeLine∧(a==sysModules)=false ∧
    ∃ xs,KT H kvs xs∧h.DictOfH (tupleKind (gE P w)) a xs:=by
  obtain ⟨z,y,xs,r,o,es,ep,h1,h2,h3,h4,h5⟩:=(show ja P w H h a (.dT kvs) from OO ok e)
  refine ⟨z,y,xs,r,o,es,ep,h1,h2,h3,h4,λx hx=>?_,h5⟩
  have all:∀ {l:List (List Key×V)} {m:List (List Key×Addr×Value)},KT H l m→∀ x∈m,(tupleKind (gE P w)).is h x.1 x.2.1:=by
    intro l m q
    induction q with
    | nil=>intro x hx;exact nomatch hx
    | @cons p q ps qs hq t ih=>
      intro x hx
      rcases List.mem_cons.mp hx with e | hx
      · subst e
        exact Cp ok (by rw [← hq.1];exact hq.2.1)
      · exact ih x hx
  exact all r x hx
theorem TX (ok:pV P w H h) (e:H a=some (.dT kvs)):kvs.length≤sizeLine∧(a==sysModules)=false ∧
    ∃ xs,KT H kvs xs∧h.DictOfH (tupleKind (gE P w)) a xs:=GX ok (.inl e)
end
noncomputable def AQ (H:Hp) (a:Addr) (y:V) (r:Option V):Prop:=
  (∃ kvs k,Rd H a (.dK kvs)∧y=kV k∧r=rR kvs k)∨∃ kvs k b,Rd H a (.dT kvs)∧y=.ref b∧H b=some (.tup (k.map kV))∧r=rR kvs k
noncomputable def FD (H:Hp) (a:Addr) (y v:V) (H':Hp):Prop:=
  (∃ kvs k,H a=some (.dK kvs)∧y=kV k∧kvs.length<sizeLine∧H'=upd H a (.dK (putK kvs k v))) ∨
  ∃ kvs k b,H a=some (.dT kvs)∧y=.ref b∧H b=some (.tup (k.map kV))∧kvs.length<sizeLine∧H'=upd H a (.dT (putK kvs k v))
theorem AQ.k {H:Hp} {a:Addr} {kvs:List (Key×V)} {k:Key} (e:H a=some (.dK kvs)):AQ H a (kV k) (rR kvs k):=.inl ⟨kvs,k,.inl e,rfl,rfl⟩
theorem AQ.t {k:List Key} (e:H a=some (.dT kvs)) (eb:H b=some (.tup (k.map kV))):AQ H a (.ref b) (rR kvs k):=.inr ⟨kvs,k,b,.inl e,rfl,eb,rfl⟩
theorem FD.k {H:Hp} {a:Addr} {kvs:List (Key×V)} {k:Key} {v:V} (e:H a=some (.dK kvs)) (hl:kvs.length<sizeLine):FD H a (kV k) v (upd H a (.dK (putK kvs k v))):=.inl ⟨kvs,k,e,rfl,hl,rfl⟩
theorem FD.t {k:List Key} {v:V} (e:H a=some (.dT kvs)) (eb:H b=some (.tup (k.map kV))) (hl:kvs.length<sizeLine) :
    FD H a (.ref b) v (upd H a (.dT (putK kvs k v))):=.inr ⟨kvs,k,b,e,rfl,eb,hl,rfl⟩
section
variable {X:Cx} {pins:List (Addr×Obj)} {σ:St} {H:Hp} {s:Shared} {a:Addr} {y v:V} {u r:Value} {o:Option V} {A:Around} {E:Value→Shared→Prop}
theorem Inv.big (I:Inv X pins σ H s):sysModules<s.heap.objs.size:=by
  have h:mainGlobals<s.heap.objs.size:=(I.mod.glob.keeps I.bk).lt
  exact Nat.lt_trans (by decide) h
theorem II (hu:A.units+1<cLine) (I:Inv X pins σ H s) (g:AQ H a y (some v)) (ry:RelV y u) (h:∀ w' s',Inv X pins σ H s'→RelV v w'→Q w' s') :
    wpAny (model X.prog X.w) A (getItem (.ref a) u) Q E s:=by
  rcases g with ⟨kvs,k,e,ey,l⟩ | ⟨kvs,k,b,e,ey,eb,l⟩
  · subst ey
    obtain ⟨z,hd,vs,rel,dd⟩:=DG I.hok e
    obtain ⟨w',hw,rw'⟩:=yC.some_of (v:=v) (o:=valueAt vs k) (by rw [l];exact rel.val k)
    exact wpAny_getItem_of (DF ry) dd.mapOf hw (h w' _ (I.tok _) rw')
  · subst ey
    cases (show u=Value.ref b from ry)
    obtain ⟨z,hd,xs,rel,dd⟩:=GX I.hok e
    obtain ⟨w',hw,rw'⟩:=yC.some_of (v:=v) (o:=(atKey xs k).map (·.2)) (by rw [l];exact rel.val k)
    obtain ⟨p,hp,hp2⟩:=Option.map_eq_some_iff.mp hw
    refine wpAny_getItem_heap (tupleKind_room_in1 hu) (Cp I.hok eb) dd hp ?_
    rw [hp2]
    exact h w' _ (I.tok _) rw'
theorem XQ (hu:A.units+1<cLine) (I:Inv X pins σ H s) (g:AQ H a y o) (ry:RelV y u) (h:∀ s',Inv X pins σ H s'→Q (.bool o.isSome) s') :
    wpAny (model X.prog X.w) A (compareOp .In u (.ref a)) Q E s:=by
  rcases g with ⟨kvs,k,e,ey,l⟩ | ⟨kvs,k,b,e,ey,eb,l⟩
  · subst ey
    obtain ⟨z,hd,vs,rel,dd⟩:=DG I.hok e
    refine wpAny_in_of (DF ry) hd dd.mapOf ?_
    rw [← (rel.val k).wZ,← l]
    exact h _ (I.tok _)
  · subst ey
    cases (show u=Value.ref b from ry)
    obtain ⟨z,hd,xs,rel,dd⟩:=GX I.hok e
    refine wpAny_in_heap (tupleKind_room_in1 hu) (Cp I.hok eb) hd dd ?_
    have q:=(rel.val k).wZ
    rw [Option.isSome_map] at q
    rw [← q,← l]
    exact h _ (I.tok _)
theorem Cq {ob:HO} (I:Inv X pins σ H s) (mu:S5 (H a)) (hs:Heap.SameBut a s.heap h') (he:∃ q,h'.get? a=some q) (new:ja X.prog X.w (upd H a ob) h' a ob) (ht:0<t':=by first | exact Nat.succ_pos _ | exact (Inv.os (by assumption)).2 | assumption | nofun) :
    Inv X pins σ (upd H a ob) {s with heap:=h',toks:=t'}:=
  I.write (x:=a) (e:=a) mu (.inl rfl) (λb q hb z=>(hs.2 b hb).trans z) he new
theorem Ka {kvs:List (Key×V)} (z:kvs.length≤sizeLine) (hd:(a==sysModules)=false) (rel:KV kvs vs) (dd:h'.DictOf (gE P w) a vs) :
    ja P w H' h' a (.dK kvs):=⟨z,hd,vs,rel,dd⟩
theorem IJ {Q:Unit→Shared→Prop} (hu:A.units+1<cLine) (I:Inv X pins σ H s) (g:FD H a y v H') (ry:RelV y u) (rv:RelV v r) (h:∀ s',Inv X pins σ H' s'→Q () s') :
    wpAny (model X.prog X.w) A (setItem (.ref a) u r) Q E s:=by
  rcases g with ⟨kvs,k,e,ey,l,eH⟩ | ⟨kvs,k,b,e,ey,eb,l,eH⟩
  · subst ey eH
    obtain ⟨z,hd,vs,rel,dd⟩:=OP I.hok e
    have hz:vs.length≤sizeLine:=by rw [← rel.length];exact z
    have hl:(putK kvs k v).length≤sizeLine:=by have:=rT kvs k v;nofun
    refine wpAny_setItem_pairs (hsz:=hz) (DF ry) dd λh' QH hs=>h _ ?_
    have he:∃ q,h'.get? a=some q:=let ⟨q,_,_,hq,_⟩:=QH;⟨q,hq⟩
    exact Cq I (by rw [e];exact True.intro) hs he (Ka hl hd (rel.put k rv) QH)
  · subst ey eH
    cases (show u=Value.ref b from ry)
    obtain ⟨z,hd,xs,rel,dd⟩:=TX I.hok e
    have hz:xs.length≤sizeLine:=by rw [← Paired.length rel];exact z
    have hl:(putK kvs k v).length≤sizeLine:=by have:=rT kvs k v;nofun
    refine wpAny_setItem_heap (hsz:=hz) (tupleKind_room_in1 hu) (Cp I.hok eb) dd λh' QH hs=>h _ ?_
    obtain ⟨q,es,ep,hq,h2,h3,h4,_,h5⟩:=QH
    refine Cq I (by rw [e];exact True.intro) hs ⟨q,hq⟩ ⟨hl,hd,_,(rel.put k eb rv).keeps λc ys ec=>?_,q,es,ep,hq,h2,h3,h4,h5⟩
    rw [aI (kC ec e (λz=>nomatch z))]
    exact ec
end
section
variable {X:Cx} {pins:List (Addr×Obj)} {σ:St} {H:Hp} {s:Shared} {a:Addr} {kvs:List (Key×V)} {k:Key} {u:Value} {A:Around} {E:Value→Shared→Prop}
theorem TY (I:Inv X pins σ H s) (e:Rd H a (.dK kvs)) (h:∀ t s',Inv X pins σ H s'→Q (.int kvs.length t) s'):wpAny (model X.prog X.w) A (call (.builtin "len") [.ref a]) Q E s:=by
  obtain ⟨z,hd,vs,rel,dd⟩:=DG I.hok e
  refine call_len_dict hd dd (by rw [← rel.length];rw [sizeLine_eq] at z;nofun) ?_
  rw [← rel.length]
  exact h _ _ (I.tok _)
end
noncomputable def QJ (i:Expr):Prop:=∀ ov iv,subscripted i false ov iv=operate [ov,iv] (getItem ov iv)
theorem Ni {prog:Program} {w:World} {A:Around} {E:Value→Shared→Prop} {s:Shared} {env:Env} {value slice:Expr} {pos:Pos} {T id:String} {Q:Value→Shared→Prop}
    (hl:typeLookup (.type T) "__getitem__"=pure (some (.builtin id))) (hs:QJ slice)
    (h:wpAny (model prog w) A (eval value env) (λo s₁=>wpAny (model prog w) A (eval slice env) (λi s₂=>s₂.TypeIs o T∧wpAny (model prog w) A (getItem o i) Q E s₂) E s₁) E s) :
    wpAny (model prog w) A (eval (.Subscript value slice pos) env) Q E s:=by
  refine Subscript_ (wpAny_mono h (λo s₁ h₁=>wpAny_mono h₁ (λi s₂ h₂=>?_) λ_ _ x=>x) λ_ _ x=>x)
  obtain ⟨hT,h₂⟩:=h₂
  unfold subscriptTail
  refine wpAny_bind ?_
  rw [getitemInPython_of_ne hT.not_modules]
  refine wpAny_bind (wpAny_specialOf hT hl ?_)
  have fin:wpAny (model prog w) A (subscripted slice false o i) (λr s₃=>wpAny (model prog w) A (letTemporaryGo value o r >>= λ_=>pure r) Q E s₃) E s₂:=by
    rw [hs o i]
    exact wpAny_operating (wpAny_mono h₂ (λr s₃ h₃=>wpAny_bind (wpAny_letTemporaryGo (wpAny_pure h₃))) λ_ _ x=>x)
  first
    | exact wpAny_pure (wpAny_bind fin)
    | exact wpAny_bind (wpAny_pure (wpAny_bind fin))
    | exact wpAny_bind fin
theorem DI {σ:St} {y:V} (I:Inv X pins σ H s) (g:AQ H a y o):s.TypeIs (.ref a) "dict":=by
  rcases g with ⟨kvs,k,e,_,_⟩ | ⟨kvs,k,b,e,_,_,_⟩
  · obtain ⟨_,_,vs,_,dd⟩:=DG I.hok e
    exact dd.typeIs
  · obtain ⟨_,_,xs,_,dd⟩:=GX I.hok e
    exact dd.typeIs
noncomputable def TZ (td ty:TE):TE:=λσ H Q=>td σ H λx H1=>ty σ H1 λy H2=>∃ a v,x=.ref a∧AQ H2 a y (some v)∧Q v H2
noncomputable def ya (td ty tv:TE):TS:=λD σ H=>tv σ H λv H1=>td σ H1 λx H2=>ty σ H2 λy H3=>∃ a H4,x=.ref a∧FD H3 a y v H4∧D.nx σ H4
section
variable {X:Cx} {o i e value:Expr} {pos pos' tpos:Pos} {td ty tv:TE}
theorem Nj (hu:X.A.units+1<cLine) (ho:PE X o td) (hi:PE X i ty) (hs:QJ i):PE X (.Subscript o i pos) (TZ td ty):=by
  intro pins s σ H Q I h
  refine Ni PySem.F.slot_dict_getitem.lookup hs (gw (ho pins s σ H _ I h) λu s1 ⟨x,H1,I1,rx,q1⟩=>gw (hi pins s1 σ H1 _ I1 q1) λiv s2 zz=>?_)
  obtain ⟨y,H2,I2,ry,a,v,ex,g,q2⟩:=zz
  subst ex
  obtain rfl:u=Value.ref a:=rx
  exact ⟨DI I2 g,II hu I2 g ry λw' s3 I3 rw'=>⟨v,H2,I3,rw',q2⟩⟩
theorem Nk (hu:X.A.units+1<cLine) (ho:PE X o td) (hi:PE X i ty) (hv:PE X value tv) (hs:swapsWith value (some (.Subscript o i pos')) pos.line X.env=pure false) :
    PS X (.Assign [.Subscript o i pos'] value pos) (ya td ty tv):=by
  intro pins s σ H D I h
  refine wpAny_Assign_Subscript (gw (hv pins s σ H _ I h) λr s1 ⟨v,H1,I1,rv,q1⟩=>gw (ho pins s1 σ H1 _ I1 q1) λu s2 ⟨x,H2,I2,rx,q2⟩=>gw (hi pins s2 σ H2 _ I2 q2) λiv s3 zz=>?_) hs
  obtain ⟨y,H3,I3,ry,a,H4,ex,g,q3⟩:=zz
  subst ex
  obtain rfl:u=Value.ref a:=rx
  exact IJ hu I3 g ry rv λs4 I4=>⟨σ,H4,I4,q3⟩
end
theorem DJ (h:Heap) (hb:sysModules<h.objs.size):ja P w H (h.push {cls:=.type "dict",data:=.dict #[]}) h.objs.size (.dK []):=
  ⟨Nat.zero_le _,beq_eq_false_iff_ne.mpr (Ne.symm (Nat.ne_of_lt hb)),[],.nil,Heap.DictOf.new h⟩
noncomputable def QK:TE:=λ_ H Q=>∀ p,H p=none→Q (.ref p) (upd H p (.dK []))
section
variable {X:Cx} {pos:Pos}
theorem Kc:PE X (.Dict [] [] pos) QK:=λpins s σ H Q I h=>
  wpAny_Dict_empty ⟨.ref s.heap.objs.size,_,I.laid (a:=s.heap.objs.size) (o:=.dK []) (t':=s.toks) (λ_ _ q=>Heap.get?_push_of_some _ q) (Nat.le_refl _) (DJ s.heap I.big),rfl,h _ (I.hok.fresh (Nat.le_refl _))⟩
end
noncomputable def Cr:List (TE×TE)→St→Hp→(List (V×V)→Hp→Prop)→Prop
  | [],_,H,Q=>Q [] H
  | (tk,tv)::r,σ,H,Q=>tk σ H λx H1=>tv σ H1 λy H2=>Cr r σ H2 λps H3=>Q ((x,y)::ps) H3
noncomputable abbrev VV:List (V×V)→List (Value×Value)→Prop:=Paired λp q=>RelV p.1 q.1∧RelV p.2 q.2
noncomputable def QL (X:Cx) (pos:Pos) (keys:List (Option Expr)) (values:List Expr) (Nl:List (TE×TE)):Prop:=
  ∀ (pins:List (Addr×Obj)) (s:Shared) (σ:St) (H:Hp) (Q:List (V×V)→Hp→Prop),Inv X pins σ H s→Cr Nl σ H Q →
    wpAny (model X.prog X.w) X.A (evalPairs (pairTrees keys values X.env pos)) (λvs s'=>∃ ps H',Inv X pins σ H' s'∧VV ps vs∧Q ps H') X.xe s
theorem Nm:QL X pos [] [] []:=λpins s σ H Q I h=>pairTrees_nil_walk ⟨[],H,I,.nil,h⟩
theorem Kd {k:Expr} {vs:List Expr} {tk tv:TE} (hk:PE X k tk) (hv:PE X v tv) (hr:QL X pos ks vs Nl) :
    QL X pos (some k::ks) (v::vs) ((tk,tv)::Nl):=λpins s σ H Q I h=>
  pairTrees_cons_walk (gw (hk pins s σ H _ I h) λu s1 ⟨x,H1,I1,rx,q1⟩=>gw (hv pins s1 σ H1 _ I1 q1) λw2 s2 ⟨y,H2,I2,ry,q2⟩=>
    gw (hr pins s2 σ H2 _ I2 q2) λws s3 zz=>by obtain ⟨ps,H3,I3,rel,q3⟩:=zz;exact ⟨(x,y)::ps,H3,I3,.cons ⟨rx,ry⟩ rel,q3⟩)
noncomputable def rV (kvs more:List (Key×V)):List (Key×V):=more.foldl (λacc kv=>putK acc kv.1 kv.2) kvs
theorem KV.merge:∀ {more:List (Key×V)} {rs:List (Key×Value)} {kvs:List (Key×V)} {vs:List (Key×Value)},KV more rs→KV kvs vs→KV (rV kvs more) (merged vs rs):=by
  intro more rs kvs vs r
  unfold KV at r
  induction r generalizing kvs vs with
  | nil=>intro q;exact q
  | @cons p q ps qs h t ih=>
    intro r0
    have e:KV (putK kvs p.1 p.2) (stored vs q.1 q.2):=by
      have:=r0.put p.1 h.2
      rw [← h.1];exact this
    exact ih e
theorem tQ:∀ (more kvs:List (Key×V)),(rV kvs more).length≤kvs.length+more.length
  | [],kvs=>by show kvs.length≤kvs.length+0;nofun
  | p::r,kvs=>by
    have h1:=tQ r (putK kvs p.1 p.2)
    have h2:=rT kvs p.1 p.2
    show (rV (putK kvs p.1 p.2) r).length≤_
    rw [List.length_cons];nofun
theorem zv {P:Program} {w:World}:∀ {kvs:List (Key×V)} {ws:List (Value×Value)},VV (kvs.map λkv=>(kV kv.1,kv.2)) ws→∃ rs,Carries (gE P w) ws rs∧KV kvs rs
  | [],_,r=>by rw [List.map_nil] at r;cases r;exact ⟨[],True.intro,.nil⟩
  | p::kvs,_,r=>by
    rw [List.map_cons] at r
    cases r with
    | @cons a b as bs h t=>
      obtain ⟨rs,c,q⟩:=zv (P:=P) (w:=w) t
      obtain ⟨b1,b2⟩:=b
      exact ⟨(p.1,b2)::rs,⟨DF h.1,rfl,c⟩,.cons ⟨rfl,h.2⟩ q⟩
noncomputable def T3 (Nl:List (TE×TE)):TE:=λσ H Q=>∀ p,H p=none→Cr Nl σ (upd H p (.dK [])) λps H2=>H2 p=some (.dK [])∧∃ kvs:List (Key×V),ps=kvs.map (λkv=>(kV kv.1,kv.2))∧kvs.length≤15∧Q (.ref p) (upd H2 p (.dK (rV [] kvs)))
theorem Nn {keys:List (Option Expr)} (h:QL X pos keys values Nl) (hall:keys.all (·.isSome)=true) (hl:keys.length=values.length) (h0:keys≠[])
    (XR:keys.length≤15):PE X (.Dict keys values pos) (T3 Nl):=by
  intro pins s σ H Q I q
  have hn:=I.hok.fresh (Nat.le_refl s.heap.objs.size)
  have I1:=I.laid (a:=s.heap.objs.size) (o:=.dK []) (h':=s.heap.push {cls:=.type "dict",data:=.dict #[]}) (t':=s.toks) (λ_ _ q=>Heap.get?_push_of_some _ q) (Nat.le_refl _) (DJ s.heap I.big)
  refine wpAny_Dict_walk (knd:=gE X.prog X.w) hall hl h0 XR (gw (h pins _ σ _ _ I1 (q _ hn)) λws s2 zz=>?_)
  obtain ⟨ps,H2,I2,rel,e,kvs,ep,lk,q2⟩:=zz
  subst ep
  obtain ⟨rs,c,rk⟩:=zv (P:=X.prog) (w:=X.w) rel
  obtain ⟨z,hd,WA,r0,dd⟩:=OP I2.hok e
  cases r0
  refine ⟨rs,c,dd,λh' QH hs=>⟨.ref s.heap.objs.size,_,?_,rfl,q2⟩⟩
  have hz:(rV [] kvs).length≤sizeLine:=by
    have h1:=tQ kvs []
    rw [List.length_nil] at h1
    rw [sizeLine_eq];nofun
  have he:∃ q,h'.get? s.heap.objs.size=some q:=let ⟨q,_,_,hq,_⟩:=QH;⟨q,hq⟩
  exact Cq I2 (by rw [e];exact True.intro) hs he (Ka hz hd (rk.merge .nil) QH) (Nat.lt_of_lt_of_le I2.os.2 (Nat.le_add_right _ _))
structure M1 (X:Cx) (o:Expr) (m:Str) (apos:Pos) (e:Expr) (cpos:Pos):Prop where
  base:attributeBase o m X.env (eval o X.env)=eval o X.env
  few:((backTo cpos (starEach [e] X.env)).all (λx=>!x.1)&&(backToKw cpos (keywordEach [] X.env)).all (λx=>x.1.isSome)
    && decide (([e]:List Expr).length+([]:List Keyword).length+(if ([]:List Keyword).isEmpty then 0 else 1)<30))=true
  line:(apos.endLine==cpos.line)=true
  trees:backTo cpos (starEach [e] X.env)=[(false,eval e X.env)]
structure M2 (X:Cx) (o:Expr) (m:Str) (apos:Pos) (e f:Expr) (cpos:Pos):Prop where
  base:attributeBase o m X.env (eval o X.env)=eval o X.env
  few:((backTo cpos (starEach [e,f] X.env)).all (λx=>!x.1)&&(backToKw cpos (keywordEach [] X.env)).all (λx=>x.1.isSome)
    && decide (([e,f]:List Expr).length+([]:List Keyword).length+(if ([]:List Keyword).isEmpty then 0 else 1)<30))=true
  line:(apos.endLine==cpos.line)=true
  trees:backTo cpos (starEach [e,f] X.env)=[(false,eval e X.env),(false,eval f X.env)]
end L2
set_option genInjectivity true
namespace L3
open PySem PySem.Spec L2
variable {K:PySem.W.Frag} {mg:Str→Option Value} {ρ ρ0 fp ρ' ch:List Addr} {H H0 H':Hp} {es values:List Expr} {Q E E':Value→Shared→Prop} {e tg:Expr} {pins mS:List (Addr×Obj)} {s s0 s1:Shared} {items xs ys ps' ws its:Array Value} {n i nn j t' tk c0:Nat} {σ σ0:L2.St} {l it a z p l2 l1 i2 i1 c c' Pt S:Addr} {w:World} {x y qual name y0:Str} {P prog Pg:Program} {vs Ga:List V} {ks:List Bool} {body els:List Stmt} {A A':Around} {h h' B base:Heap} {t1 t2 tp bb:Bool} {cl:List (Str×Addr)} {o oc fo:Obj} {N ns loose:List Str} {Dd D':Ends} {fd:FuncData} {id T:String} {op op':CmpOp} {X:Cx} {js:List Nat} {C:Int→Int→Bool} {b f0 u2 u1 res o1 a0:Value} {pos py px spos pos' p2:Pos} {gv:Int→Int→V} {lo:Int} {u:List (Key×V)} {XP:(Str→Option Value)→Heap→Prop} {qs:List PyData} {v:V} {env env':Env} {scope WE:Scope} {R:Result→Shared→Prop} {YP:World→Heap→Prop} {sl o4:Array (Option Value)} {gens:List Comprehension} {Q':Bool→Hp→Prop} {own:List (Option V)} {od o2:Option Addr} {dy:DefRec} {M':Model} {α:Type} {tz:Tok}
structure oO where
 name:Str
 qual:Str
 params:Arguments
 body:FuncBody
 scope:Scope
 pos:Pos
 names:List Str
variable {JQ:oO}
noncomputable def freeNames (sc:Scope):List Str:=((sc.names.filter λq=>q.2==.free).map (·.1)).reverse
noncomputable def rW (q:Str):List Stmt→Option oO
 | .FunctionDef name params body _ _ _ scope _ _ pos::_=>some ⟨name,q++".<locals>."++name,params,.stmts body,scope,pos,freeNames scope⟩
 | .Assign [_] (.Call _ es _ _) _::r=>match es.getLast? with
  | some (.Lambda params body scope pos)=>some ⟨"<lambda>",q++".<locals>."++"<lambda>",params,.expr body,scope,pos,freeNames scope⟩
  | _=>rW q r
 | _::r=>rW q r
 | []=>none
noncomputable def zw (K:PySem.W.Frag) (mg:Str→Option Value) (y:Str):Option oO:=match mg y with
 | some (.ref f)=>(match K.lookup f with
  | some ⟨_,_,.func fd,_⟩=>(match fd.body with
   | .stmts b=>rW fd.qualname b
   | _=>none)
  | _=>none)
 | _=>none
inductive D where
 | i9 | bl (b:Bool) | int (i:Int) | str (x:Str) | tup (xs:List D) | con (xs:List D) | obj (n:Nat) | fn (x:Str) | DK (cls:Str) (args:List D) | pY (y:Str) (caps:List D)
variable {ds os acc zs ds' caps:List D} {gO:D→Option (List D)} {d:D} {Iu:List D→Option (List D)} {kvs:List (Key×D)}
inductive DO where
 | lst (xs:List D)
 | dead
 | dct (kvs:List (Key×D))
 | tab (y:Str)
noncomputable abbrev DH:=List DO
variable {G G0 G':DH}
noncomputable abbrev DS:=List (Option D)
variable {τ:DS}
inductive XD where
 | mk (cls:Str) (args:List D)
inductive Out (α:Type) where
 | stuck
 | ok (a:α) (G:DH)
 | dU (c:XD) (G:DH)
noncomputable abbrev M (α:Type):=DH→Out α
variable {m te mo me:DS→M D} {f:D→D→M D} {r:DS→M (List D)} {tt:DS→M Bool} {mf m0:List D→M D} {Pr:Str→Nat→(List D→M D)→Prop} {uX:Str→Option (List D→M D)} {ml mh hi:DS→M (Option Int)} {q:D→M Bool}
noncomputable def M.bind {α β:Type} (m:M α) (k:α→M β):M β:=λG=>match m G with
 | .stuck=>.stuck
 | .ok a G'=>k a G'
 | .dU c G'=>.dU c G'
noncomputable def M.ret {α:Type} (a:α):M α:=λG=>.ok a G
noncomputable def M.stop {α:Type}:M α:=λ_=>.stuck
noncomputable def Np (K:PySem.W.Frag) (H:Hp) (a:Addr) (xs:List V):Prop:=
 (∃ o,H a=some (.iU o (.lst xs))) ∨
  ∃ (o:Obj) (its:Array Value) (n:Nat),K.lookup a=some o∧o.cls=.type "list"∧o.dict=none∧o.data=.seq its n∧its.size≤sizeLine∧Vals xs its.toList
theorem Np.seq {xs:List V} (h:Np K H a xs):q8 K H a xs:=by
 rcases h with ⟨o,h⟩ | h
 ·exact .inl (.inr ⟨o,h⟩)
 ·exact .inr h
noncomputable def T4 (a:Addr) (cv:Value):Heap→Prop:=λh=>∃ o,h.get? a=some o∧o.cls=cv
noncomputable abbrev DL (k:oO) (cs:List Addr) (doc pm:Value) (c:Addr) (ctv:Value):FuncData:=
 {name:=k.name,qualname:=k.qual,params:=k.params,body:=k.body,scope:=k.scope,globals:=mainGlobals,closure:=k.names.zip cs,defaults:=.none,kwdefaults:=.none,doc,pyModule:=pm,annotations:=none,code:=.ref c,closureTuple:=ctv,builtins:=builtinsNs}
noncomputable abbrev kI (k:oO) (cs:List Addr) (doc pm:Value) (c:Addr) (ctv:Value):Obj:={cls:=.type "function",data:=.func (DL k cs doc pm c ctv)}
noncomputable def DM (H:Hp) (a:Addr) (o:Obj):Prop:=H a=some (.iU o (.own 0))
noncomputable def w6 (H:Hp) (c:Addr) (qual:Str):Prop:=∃ (oc:Obj) (vs:Array Value) (t:Tok),DM H c oc∧oc.data=.fields vs∧vs[1]?=some (.str qual t)
noncomputable def yb (H:Hp) (k:oO) (a:Addr) (cs:List Addr):Prop:=cs.length=k.names.length∧cs.Nodup∧∃ (doc pm ctv:Value) (c:Addr),DM H a (kI k cs doc pm c ctv)∧w6 H c k.qual
noncomputable def gU (H:Hp):List Addr→List V→Prop
 | [],xs=>xs=[]
 | c::cs,xs=>∃ (x:V) (r:List V) (o:Obj) (u:Value),xs=x::r∧DM H c o∧o.data=.cell (some u)∧RelV x u∧gU H cs r
mutual
noncomputable def Rep (K:PySem.W.Frag) (mg:Str→Option Value) (ρ:List Addr) (H:Hp):D→V→Prop
 | .i9,v=>v=.i9
 | .bl b,v=>v=.bl b
 | .int i,v=>v=.int i
 | .str x,v=>v=.str x
 | .tup ds,v=>∃ a xs,v=.ref a∧rG K H a xs∧aC K mg ρ H ds xs
 | .con ds,v=>∃ a xs,v=.ref a∧Np K H a xs∧aC K mg ρ H ds xs
 | .obj n,v=>∃ a,v=.ref a∧ρ[n]?=some a
 | .fn x,v=>∃ a,v=.ref a∧mg x=some (.ref a)
 | .DK c _,v=>∃ a cv,v=.ref a∧mg c=some cv∧H a=some (.ext (T4 a cv))
 | .pY y ds,v=>∃ k a cs xs,v=.ref a∧zw K mg y=some k∧yb H k a cs∧gU H cs xs∧aC K mg ρ H ds xs
noncomputable def aC (K:PySem.W.Frag) (mg:Str→Option Value) (ρ:List Addr) (H:Hp):List D→List V→Prop
 | [],vs=>vs=[]
 | d::ds,vs=>∃ v r,vs=v::r∧Rep K mg ρ H d v∧aC K mg ρ H ds r
end
theorem w6.mono {q:Str} (h:w6 H c q) (f:∀ a o u,H a=some (.iU o u)→H' a=some (.iU o u)):w6 H' c q:=
 let ⟨oc,vs,t,e,r⟩:=h;⟨oc,vs,t,f _ _ _ e,r⟩
theorem yb.mono {k:oO} {cs:List Addr} (h:yb H k a cs) (f:∀ a o u,H a=some (.iU o u)→H' a=some (.iU o u)):yb H' k a cs:=
 let ⟨l,n,doc,pm,ctv,c,e,r⟩:=h;⟨l,n,doc,pm,ctv,c,f _ _ _ e,r.mono f⟩
theorem gU.mono (f:∀ a o u,H a=some (.iU o u)→H' a=some (.iU o u)):∀ {cs:List Addr} {xs:List V},gU H cs xs→gU H' cs xs
 | [],xs,h=>h
 | c::cs,xs,⟨x,r,o,u,e,h1,h2,h3,h4⟩=>⟨x,r,o,u,e,f _ _ _ h1,h2,h3,h4.mono f⟩
structure fh (K:PySem.W.Frag) (H H':Hp) (ρ ρ':List Addr):Prop where
 tup:∀ a xs,rG K H a xs→rG K H' a xs
 iU:∀ a o u,H a=some (.iU o u)→H' a=some (.iU o u)
 pre:∃ r,ρ'=ρ++r
 ext:∀ a φ,H a=some (.ext φ)→H' a=some (.ext φ)
section
variable {K:PySem.W.Frag} {mg:Str→Option Value} {H H' H1 H2:Hp} {ρ ρ' ρ1 ρ2:List Addr}
theorem fh.con (f:fh K H H' ρ ρ') (a:Addr) (xs:List V) (h:Np K H a xs):Np K H' a xs:=by
 rcases h with ⟨o,h⟩ | h
 ·exact .inl ⟨o,f.iU _ _ _ h⟩
 ·exact .inr h
theorem fh.refl:fh K H H ρ ρ:=⟨λ_ _ h=>h,λ_ _ _ h=>h,⟨[],by simp⟩,λ_ _ h=>h⟩
theorem fh.trans (a:fh K H H1 ρ ρ1) (b:fh K H1 H2 ρ1 ρ2):fh K H H2 ρ ρ2:=by
 obtain ⟨r1,e1⟩:=a.pre
 obtain ⟨r2,e2⟩:=b.pre
 exact ⟨λx xs h=>b.tup x xs (a.tup x xs h),λx o u h=>b.iU x o u (a.iU x o u h),⟨r1++r2,by rw [e2,e1,List.append_assoc]⟩,λx φ h=>b.ext x φ (a.ext x φ h)⟩
theorem fh.get (f:fh K H H' ρ ρ') {n:Nat} {a:Addr} (h:ρ[n]?=some a):ρ'[n]?=some a:=by
 obtain ⟨r,e⟩:=f.pre
 rw [e,List.getElem?_append_left (List.getElem?_eq_some_iff.mp h).1];exact h
mutual
theorem Rep.mono (f:fh K H H' ρ ρ'):∀ (d:D) (v:V),Rep K mg ρ H d v→Rep K mg ρ' H' d v
 | .i9,v,h=>by unfold Rep at h ⊢;exact h
 | .bl b,v,h=>by unfold Rep at h ⊢;exact h
 | .int i,v,h=>by unfold Rep at h ⊢;exact h
 | .str x,v,h=>by unfold Rep at h ⊢;exact h
 | .tup ds,v,h=>by
  unfold Rep at h ⊢
  obtain ⟨a,xs,e,s,r⟩:=h
  exact ⟨a,xs,e,f.tup _ _ s,aC.mono f ds xs r⟩
 | .con ds,v,h=>by
  unfold Rep at h ⊢
  obtain ⟨a,xs,e,s,r⟩:=h
  exact ⟨a,xs,e,f.con _ _ s,aC.mono f ds xs r⟩
 | .obj n,v,h=>by
  unfold Rep at h ⊢
  obtain ⟨a,e,r⟩:=h
  exact ⟨a,e,f.get r⟩
 | .fn x,v,h=>by unfold Rep at h ⊢;exact h
 | .DK c as,v,h=>by
  unfold Rep at h ⊢
  obtain ⟨a,cv,e,m,r⟩:=h
  exact ⟨a,cv,e,m,f.ext _ _ r⟩
 | .pY k ds,v,h=>by
  unfold Rep at h ⊢
  obtain ⟨k,a,cs,xs,e,h0,h1,h2,h3⟩:=h
  exact ⟨k,a,cs,xs,e,h0,h1.mono f.iU,h2.mono f.iU,aC.mono f ds xs h3⟩
theorem aC.mono (f:fh K H H' ρ ρ'):∀ (ds:List D) (vs:List V),aC K mg ρ H ds vs→aC K mg ρ' H' ds vs
 | [],vs,h=>by unfold aC at h ⊢;exact h
 | d::ds,vs,h=>by
  unfold aC at h ⊢
  obtain ⟨v,r,e,h1,h2⟩:=h
  exact ⟨v,r,e,Rep.mono f d v h1,aC.mono f ds r h2⟩
end
theorem aC.length:∀ {ds:List D} {vs:List V},aC K mg ρ H ds vs→ds.length=vs.length
 | [],vs,h=>by unfold aC at h;subst h;rfl
 | d::ds,vs,h=>by
  unfold aC at h
  obtain ⟨v,r,rfl,_,h2⟩:=h
  simp [aC.length h2]
theorem aC.nil:aC K mg ρ H [] []:=by unfold aC;rfl
theorem aC.cons {d:D} {v:V} {ds:List D} {vs:List V} (h:Rep K mg ρ H d v) (t:aC K mg ρ H ds vs):aC K mg ρ H (d::ds) (v::vs):=by
 unfold aC;exact ⟨v,vs,rfl,h,t⟩
theorem aC.get:∀ {ds:List D} {vs:List V} {i:Nat} {d:D},aC K mg ρ H ds vs→ds[i]?=some d→∃ v,vs[i]?=some v∧Rep K mg ρ H d v
 | [],vs,i,d,h,e=>by simp at e
 | x::ds,vs,0,d,h,e=>by
  unfold aC at h
  obtain ⟨v,r,rfl,h1,_⟩:=h
  simp at e;subst e
  exact ⟨v,rfl,h1⟩
 | x::ds,vs,i+1,d,h,e=>by
  unfold aC at h
  obtain ⟨v,r,rfl,_,h2⟩:=h
  obtain ⟨u,e1,e2⟩:=aC.get (i:=i) (d:=d) h2 (by simpa using e)
  exact ⟨u,by simpa using e1,e2⟩
theorem aC.append:∀ {ds es:List D} {vs us:List V},aC K mg ρ H ds vs→aC K mg ρ H es us→aC K mg ρ H (ds++es) (vs++us)
 | [],es,vs,us,h,h'=>by unfold aC at h;subst h;exact h'
 | d::ds,es,vs,us,h,h'=>by
  unfold aC at h
  obtain ⟨v,r,rfl,h1,h2⟩:=h
  exact .cons h1 (aC.append h2 h')
theorem aC.take:∀ (n:Nat) {ds:List D} {vs:List V},aC K mg ρ H ds vs→aC K mg ρ H (ds.take n) (vs.take n)
 | 0,_,_,_=>by simpa using aC.nil
 | n+1,[],vs,h=>by unfold aC at h;subst h;simpa using aC.nil
 | n+1,d::ds,vs,h=>by
  unfold aC at h
  obtain ⟨v,r,rfl,h1,h2⟩:=h
  exact .cons h1 (aC.take n h2)
theorem aC.drop:∀ (n:Nat) {ds:List D} {vs:List V},aC K mg ρ H ds vs→aC K mg ρ H (ds.drop n) (vs.drop n)
 | 0,_,_,h=>by simpa using h
 | n+1,[],vs,h=>by unfold aC at h;subst h;simpa using aC.nil
 | n+1,d::ds,vs,h=>by
  unfold aC at h
  obtain ⟨v,r,rfl,h1,h2⟩:=h
  simpa using aC.drop n h2
theorem aC.ints:∀ (ns:List Int),aC K mg ρ H (ns.map D.int) (ns.map V.int)
 | []=>.nil
 | n::ns=>.cons (by unfold Rep;rfl) (aC.ints ns)
end
noncomputable def Nq (K:PySem.W.Frag) (mg:Str→Option Value) (ρ:List Addr) (H:Hp) (a:Addr):DO→Prop
 | .lst ds=>∃ xs,H a=some (.lst xs)∧aC K mg ρ H ds xs
 | .dead=>∃ o,H a=some o
 | .dct kvs=>∃ xs,H a=some (.dK ((kvs.map (·.1)).zip xs))∧aC K mg ρ H (kvs.map (·.2)) xs
 | .tab y=>∃ (ps:Array Value) (c:Addr) (k:oO),H a=some (.uX ps)∧PySem.W.tabIn K y=some (c,a)∧zw K mg y=some k∧(ps=#[]∨∃ c',ps=#[PySem.rawInt k.pos.line,PySem.rawInt k.pos.col,.ref c']∧w6 H c' k.qual)
structure jR (K:PySem.W.Frag) (mg:Str→Option Value) (H:Hp) (ρ:List Addr) (G:DH):Prop where
 hl:ρ.length=G.length
 nd:ρ.Nodup
 ob:∀ (n:Nat) (o:DO),G[n]?=some o→∃ a,ρ[n]?=some a∧Nq K mg ρ H a o
noncomputable def zx (K:PySem.W.Frag) (mg:Str→Option Value) (H:Hp) (ρ:List Addr) (σ:St) (τ:DS):Prop:=
 σ.length=τ.length∧∀ (i:Nat) (d:D),τ[i]?=some (some d)→∃ v,σ[i]?=some (some v)∧Rep K mg ρ H d v
structure Ab (K:PySem.W.Frag) (mg:Str→Option Value) (σ:St) (H:Hp) (τ:DS) (ρ:List Addr) (G:DH):Prop where
 st:zx K mg H ρ σ τ
 hp:jR K mg H ρ G
section
variable {K:PySem.W.Frag} {mg:Str→Option Value} {H H' H1 H2:Hp} {ρ ρ' ρ1 ρ2:List Addr} {G G':DH} {σ:L2.St} {τ:DS}
theorem zx.mono (f:fh K H H' ρ ρ') (h:zx K mg H ρ σ τ):zx K mg H' ρ' σ τ:=⟨h.1,λi d e=>by
 obtain ⟨v,e1,r⟩:=h.2 i d e
 exact ⟨v,e1,r.mono f⟩⟩
theorem zx.set (h:zx K mg H ρ σ τ) (r:Rep K mg ρ H d v):zx K mg H ρ (σ.set i (some v)) (τ.set i (some d)):=by
 refine ⟨by simp [h.1],λj e he=>?_⟩
 by_cases hj:i=j
 ·subst hj
  rw [List.getElem?_set] at he
  by_cases hi:i<τ.length
  ·rw [if_pos rfl,if_pos hi] at he
   cases he
   exact ⟨v,by rw [List.getElem?_set,if_pos rfl,if_pos (by rw [h.1];exact hi)],r⟩
  ·rw [if_pos rfl,if_neg hi] at he
   cases he
 ·rw [List.getElem?_set_ne hj] at he
  obtain ⟨u,e1,r1⟩:=h.2 j e he
  exact ⟨u,by rw [List.getElem?_set_ne hj];exact e1,r1⟩
theorem Ab.fut (ab:Ab K mg σ H τ ρ G) (f:fh K H H' ρ ρ') (hp:jR K mg H' ρ' G'):Ab K mg σ H' τ ρ' G':=⟨ab.st.mono f,hp⟩
theorem jR.lst (h:jR K mg H ρ G) (e:G[n]?=some (.lst ds)):∃ a xs,ρ[n]?=some a∧H a=some (.lst xs)∧aC K mg ρ H ds xs:=by
 obtain ⟨a,e1,xs,e2,r⟩:=h.ob n _ e
 exact ⟨a,xs,e1,e2,r⟩
theorem jR.there (h:jR K mg H ρ G) (e:ρ[n]?=some a):∃ o,H a=some o:=by
 have hn:n<G.length:=by rw [← h.hl];exact (List.getElem?_eq_some_iff.mp e).1
 obtain ⟨a',e1,r⟩:=h.ob n G[n] (List.getElem?_eq_getElem hn)
 rw [e] at e1;cases e1
 cases hg:G[n] with
 | lst xs=>rw [hg] at r;obtain ⟨ys,e2,_⟩:=r;exact ⟨_,e2⟩
 | dead=>rw [hg] at r;exact r
 | dct kv=>rw [hg] at r;obtain ⟨ys,e2,_⟩:=r;exact ⟨_,e2⟩
 | tab t=>rw [hg] at r;obtain ⟨ps,c,k,e2,_⟩:=r;exact ⟨_,e2⟩
theorem jR.not_mem (h:jR K mg H ρ G) (hp:H p=none):p∉ρ:=λhm=>by
 obtain ⟨n,hn,e⟩:=List.getElem_of_mem hm
 obtain ⟨o,q⟩:=h.there (n:=n) (a:=p) (by rw [List.getElem?_eq_getElem hn,e])
 rw [hp] at q;cases q
theorem Nq.mono {o:DO} (f:fh K H H' ρ ρ') (he:∀ u,H a=some u→H' a=some u) (h:Nq K mg ρ H a o):Nq K mg ρ' H' a o:=by
 cases o with
 | lst ds=>
  obtain ⟨xs,e,r⟩:=h
  exact ⟨xs,he _ e,r.mono f⟩
 | dead=>
  obtain ⟨o,e⟩:=h
  exact ⟨o,he _ e⟩
 | dct kv=>
  obtain ⟨xs,e,r⟩:=h
  exact ⟨xs,he _ e,r.mono f⟩
 | tab t=>
  obtain ⟨ps,c,k,e,q,q2,r⟩:=h
  exact ⟨ps,c,k,he _ e,q,q2,r.imp id λzz=>by obtain ⟨c',e,z⟩:=zz;exact ⟨c',e,z.mono f.iU⟩⟩
theorem fX {o:HO} (hp:H p=none) (ρ:List Addr):fh K H (upd H p o) ρ ρ:=by
 refine ⟨λa xs h=>?_,λa q u h=>by rw [aI (eZ h hp)];exact h,⟨[],by simp⟩,λa φ h=>by rw [aI (eZ h hp)];exact h⟩
 ·rcases h with (h | ⟨q,h⟩) | h
  ·exact .inl (.inl (by rw [aI (eZ h hp)];exact h))
  ·exact .inl (.inr ⟨q,by rw [aI (eZ h hp)];exact h⟩)
  ·exact .inr h
theorem yX {xs ys:List V} (hp:H p=some (.lst xs)) (ρ:List Addr):fh K H (upd H p (.lst ys)) ρ ρ:=by
 refine ⟨λa zs h=>?_,λa q u h=>by rw [aI (kC h hp (by intro z;cases z))];exact h,⟨[],by simp⟩,λa φ h=>by rw [aI (kC h hp (by intro z;cases z))];exact h⟩
 ·rcases h with (h | ⟨q,h⟩) | h
  ·exact .inl (.inl (by rw [aI (kC h hp (by intro z;cases z))];exact h))
  ·exact .inl (.inr ⟨q,by rw [aI (kC h hp (by intro z;cases z))];exact h⟩)
  ·exact .inr h
theorem jR.new {o:HO} (h:jR K mg H ρ G) (hp:H p=none):jR K mg (upd H p o) ρ G:=
 ⟨h.hl,h.nd,λn ob e=>by
  obtain ⟨a,e1,r⟩:=h.ob n ob e
  exact ⟨a,e1,r.mono (fX hp ρ) λu q=>by rw [aI (eZ q hp)];exact q⟩⟩
theorem aY (l:List α) (a:α):(l++[a])[l.length]?=some a:=by simp
theorem jk (ρ:List Addr) (p:Addr):fh K H H ρ (ρ++[p]):=⟨λ_ _ h=>h,λ_ _ _ h=>h,⟨[p],rfl⟩,λ_ _ h=>h⟩
theorem jR.more {xs:List V} (h:jR K mg H ρ G) (hp:H p=none) (r:aC K mg ρ H ds xs):jR K mg (upd H p (.lst xs)) (ρ++[p]) (G++[.lst ds]):=by
 have f:fh K H (upd H p (.lst xs)) ρ (ρ++[p]):=(fX hp ρ).trans (jk ρ p)
 refine ⟨by simp [h.hl],?_,λn ob e=>?_⟩
 ·rw [List.nodup_append]
  refine ⟨h.nd,by simp,λa ha b hb=>?_⟩
  have e:b=p:=by simpa using hb
  subst e
  rintro rfl
  exact h.not_mem hp ha
 ·by_cases hn:n<G.length
  ·rw [List.getElem?_append_left hn] at e
   obtain ⟨a,e1,r'⟩:=h.ob n ob e
   exact ⟨a,f.get e1,r'.mono f λu q=>by rw [aI (eZ q hp)];exact q⟩
  ·have hl:n<(G++[DO.lst ds]).length:=(List.getElem?_eq_some_iff.mp e).1
   have hn':n=G.length:=by simp at hl;nofun
   subst hn'
   rw [aY] at e
   cases e
   refine ⟨p,by rw [← h.hl,aY],xs,ck,r.mono f⟩
theorem jR.put {ds es:List D} {xs ys:List V} (h:jR K mg H ρ G) (hn:ρ[n]?=some a) (ha:H a=some (.lst xs)) (r:aC K mg ρ H es ys):jR K mg (upd H a (.lst ys)) ρ (G.set n (.lst es)):=by
 have f:fh K H (upd H a (.lst ys)) ρ ρ:=yX ha ρ
 refine ⟨by simp [h.hl],h.nd,λm ob e=>?_⟩
 by_cases hm:n=m
 ·subst hm
  rw [List.getElem?_set,if_pos rfl] at e
  split at e
  ·cases e
   exact ⟨a,hn,ys,ck,r.mono f⟩
  ·cases e
 ·rw [List.getElem?_set_ne hm] at e
  obtain ⟨b,e1,r'⟩:=h.ob m ob e
  have hb:b≠a:=by
   rintro rfl
   obtain ⟨h1,JI⟩:=List.getElem?_eq_some_iff.mp hn
   obtain ⟨h2,JJ⟩:=List.getElem?_eq_some_iff.mp e1
   exact hm ((List.getElem_inj h.nd).mp (JI.trans JJ.symm))
  exact ⟨b,e1,r'.mono f λu q=>by rw [aI hb];exact q⟩
end
noncomputable abbrev gA:=XD→St→Hp→Prop
variable {EE:gA}
section
variable (K:PySem.W.Frag) (mg:Str→Option Value) (EE:gA)
noncomputable def pA (H:Hp) (σ:St) (τ:DS) (ρ:List Addr):Out D→VK→Prop
 | .stuck,_=>False
 | .ok d G',Q=>∀ v H' ρ',fh K H H' ρ ρ'→Ab K mg σ H' τ ρ' G'→Rep K mg ρ' H' d v→Q v H'
 | .dU c G',_=>∀ H' ρ',fh K H H' ρ ρ'→Ab K mg σ H' τ ρ' G'→EE c σ H'
noncomputable def Nr (H:Hp) (σ:St) (τ:DS) (ρ:List Addr):Out Bool→(Bool→Hp→Prop)→Prop
 | .stuck,_=>False
 | .ok b G',Q=>∀ H' ρ',fh K H H' ρ ρ'→Ab K mg σ H' τ ρ' G'→Q b H'
 | .dU c G',_=>∀ H' ρ',fh K H H' ρ ρ'→Ab K mg σ H' τ ρ' G'→EE c σ H'
noncomputable def T5 (H:Hp) (σ:St) (τ:DS) (ρ:List Addr):Out (List D)→(List V→Hp→Prop)→Prop
 | .stuck,_=>False
 | .ok ds G',Q=>∀ vs H' ρ',fh K H H' ρ ρ'→Ab K mg σ H' τ ρ' G'→aC K mg ρ' H' ds vs→Q vs H'
 | .dU c G',_=>∀ H' ρ',fh K H H' ρ ρ'→Ab K mg σ H' τ ρ' G'→EE c σ H'
noncomputable def cS (m:DS→M D):TE:=λσ H Q=>∃ τ ρ G,Ab K mg σ H τ ρ G∧pA K mg EE H σ τ ρ (m τ G) Q
noncomputable def liftT (m:DS→M Bool):TT:=λσ H Q=>∃ τ ρ G,Ab K mg σ H τ ρ G∧Nr K mg EE H σ τ ρ (m τ G) Q
noncomputable def ny (m:DS→M (List D)):TA:=λσ H Q=>∃ τ ρ G,Ab K mg σ H τ ρ G∧T5 K mg EE H σ τ ρ (m τ G) Q
inductive Res where
 | stuck
 | nx (τ:DS) (G:DH)
 | rt (d:D) (G:DH)
 | bk (τ:DS) (G:DH)
 | ct (τ:DS) (G:DH)
 | xn (c:XD) (τ:DS) (G:DH)
noncomputable def AR (H:Hp) (ρ:List Addr) (Dd:Ends):Res→Prop
 | .stuck=>False
 | .nx τ G=>∀ σ' H' ρ',fh K H H' ρ ρ'→Ab K mg σ' H' τ ρ' G→Dd.nx σ' H'
 | .bk τ G=>∀ σ' H' ρ',fh K H H' ρ ρ'→Ab K mg σ' H' τ ρ' G→Dd.bk σ' H'
 | .ct τ G=>∀ σ' H' ρ',fh K H H' ρ ρ'→Ab K mg σ' H' τ ρ' G→Dd.ct σ' H'
 | .rt d G=>∀ v H' ρ',fh K H H' ρ ρ'→jR K mg H' ρ' G→Rep K mg ρ' H' d v→Dd.rt v H'
 | .xn c τ G=>∀ σ' H' ρ',fh K H H' ρ ρ'→Ab K mg σ' H' τ ρ' G→EE c σ' H'
noncomputable abbrev MS:=DS→DH→Res
noncomputable def jl (m:MS):TS:=λDd σ H=>∃ τ ρ G,Ab K mg σ H τ ρ G∧AR K mg EE H ρ Dd (m τ G)
end
variable {ms:MS}
section
variable {K:PySem.W.Frag} {mg:Str→Option Value} {EE:gA} {H H1:Hp} {σ:L2.St} {τ:DS} {ρ ρ1:List Addr}
theorem pA.fut {r:Out D} {Q:VK} (f:fh K H H1 ρ ρ1) (h:pA K mg EE H σ τ ρ r Q):pA K mg EE H1 σ τ ρ1 r Q:=by
 cases r with
 | stuck=>exact h
 | ok d G'=>exact λv H' ρ' f'=>h v H' ρ' (f.trans f')
 | dU c G'=>exact λH' ρ' f'=>h H' ρ' (f.trans f')
theorem Nr.fut {r:Out Bool} {Q:Bool→Hp→Prop} (f:fh K H H1 ρ ρ1) (h:Nr K mg EE H σ τ ρ r Q):Nr K mg EE H1 σ τ ρ1 r Q:=by
 cases r with
 | stuck=>exact h
 | ok d G'=>exact λH' ρ' f'=>h H' ρ' (f.trans f')
 | dU c G'=>exact λH' ρ' f'=>h H' ρ' (f.trans f')
theorem T5.fut {r:Out (List D)} {Q:List V→Hp→Prop} (f:fh K H H1 ρ ρ1) (h:T5 K mg EE H σ τ ρ r Q):T5 K mg EE H1 σ τ ρ1 r Q:=by
 cases r with
 | stuck=>exact h
 | ok d G'=>exact λv H' ρ' f'=>h v H' ρ' (f.trans f')
 | dU c G'=>exact λH' ρ' f'=>h H' ρ' (f.trans f')
theorem AR.fut {r:Res} (f:fh K H H1 ρ ρ1) (h:AR K mg EE H ρ Dd r):AR K mg EE H1 ρ1 Dd r:=by
 cases r with
 | stuck=>exact h
 | nx τ G=>exact λs H' ρ' f'=>h s H' ρ' (f.trans f')
 | bk τ G=>exact λs H' ρ' f'=>h s H' ρ' (f.trans f')
 | ct τ G=>exact λs H' ρ' f'=>h s H' ρ' (f.trans f')
 | rt d G=>exact λs H' ρ' f'=>h s H' ρ' (f.trans f')
 | xn c τ G=>exact λs H' ρ' f'=>h s H' ρ' (f.trans f')
theorem rX {k:DS→D→M D} {Q:VK} (h:cS K mg EE (λτ=>(m τ).bind (k τ)) σ H Q) :
  cS K mg EE m σ H λx H1=>∃ τ ρ G d,Ab K mg σ H1 τ ρ G∧Rep K mg ρ H1 d x∧pA K mg EE H1 σ τ ρ (k τ d G) Q:=by
 obtain ⟨τ,ρ,G,ab,ok⟩:=h
 refine ⟨τ,ρ,G,ab,?_⟩
 dsimp only [M.bind] at ok
 cases e:m τ G with
 | stuck=>rw [e] at ok;exact ok
 | dU c G'=>rw [e] at ok;exact ok
 | ok d G'=>rw [e] at ok;exact λv H' ρ' f di r=>⟨τ,ρ',G',d,di,r,ok.fut f⟩
theorem Ke {k:DS→D→M Bool} {Q:Bool→Hp→Prop} (h:liftT K mg EE (λτ=>(m τ).bind (k τ)) σ H Q) :
  cS K mg EE m σ H λx H1=>∃ τ ρ G d,Ab K mg σ H1 τ ρ G∧Rep K mg ρ H1 d x∧Nr K mg EE H1 σ τ ρ (k τ d G) Q:=by
 obtain ⟨τ,ρ,G,ab,ok⟩:=h
 refine ⟨τ,ρ,G,ab,?_⟩
 dsimp only [M.bind] at ok
 cases e:m τ G with
 | stuck=>rw [e] at ok;exact ok
 | dU c G'=>rw [e] at ok;exact ok
 | ok d G'=>rw [e] at ok;exact λv H' ρ' f di r=>⟨τ,ρ',G',d,di,r,ok.fut f⟩
theorem FE {m:DS→M Bool} {k:DS→Bool→M Bool} {Q:Bool→Hp→Prop} (h:liftT K mg EE (λτ=>(m τ).bind (k τ)) σ H Q) :
  liftT K mg EE m σ H λb H1=>∃ τ ρ G,Ab K mg σ H1 τ ρ G∧Nr K mg EE H1 σ τ ρ (k τ b G) Q:=by
 obtain ⟨τ,ρ,G,ab,ok⟩:=h
 refine ⟨τ,ρ,G,ab,?_⟩
 dsimp only [M.bind] at ok
 cases e:m τ G with
 | stuck=>rw [e] at ok;exact ok
 | dU c G'=>rw [e] at ok;exact ok
 | ok d G'=>rw [e] at ok;exact λH' ρ' f di=>⟨τ,ρ',G',di,ok.fut f⟩
theorem Kf {k:DS→D→M (List D)} {Q:List V→Hp→Prop} (h:ny K mg EE (λτ=>(m τ).bind (k τ)) σ H Q) :
  cS K mg EE m σ H λx H1=>∃ τ ρ G d,Ab K mg σ H1 τ ρ G∧Rep K mg ρ H1 d x∧T5 K mg EE H1 σ τ ρ (k τ d G) Q:=by
 obtain ⟨τ,ρ,G,ab,ok⟩:=h
 refine ⟨τ,ρ,G,ab,?_⟩
 dsimp only [M.bind] at ok
 cases e:m τ G with
 | stuck=>rw [e] at ok;exact ok
 | dU c G'=>rw [e] at ok;exact ok
 | ok d G'=>rw [e] at ok;exact λv H' ρ' f di r=>⟨τ,ρ',G',d,di,r,ok.fut f⟩
theorem pZ {m:DS→M (List D)} {k:DS→List D→M D} {Q:VK} (h:cS K mg EE (λτ=>(m τ).bind (k τ)) σ H Q) :
  ny K mg EE m σ H λx H1=>∃ τ ρ G d,Ab K mg σ H1 τ ρ G∧aC K mg ρ H1 d x∧pA K mg EE H1 σ τ ρ (k τ d G) Q:=by
 obtain ⟨τ,ρ,G,ab,ok⟩:=h
 refine ⟨τ,ρ,G,ab,?_⟩
 dsimp only [M.bind] at ok
 cases e:m τ G with
 | stuck=>rw [e] at ok;exact ok
 | dU c G'=>rw [e] at ok;exact ok
 | ok d G'=>rw [e] at ok;exact λv H' ρ' f di r=>⟨τ,ρ',G',d,di,r,ok.fut f⟩
noncomputable def fM {α:Type} (m:M α) (k:α→DH→Res) (x:XD→DH→Res):DH→Res:=λG=>match m G with
 | .stuck=>.stuck
 | .ok a G'=>k a G'
 | .dU c G'=>x c G'
theorem zy {k:DS→D→DH→Res} (h:jl K mg EE (λτ=>fM (m τ) (k τ) λc G=>.xn c τ G) Dd σ H) :
  cS K mg EE m σ H λx H1=>∃ τ ρ G d,Ab K mg σ H1 τ ρ G∧Rep K mg ρ H1 d x∧AR K mg EE H1 ρ Dd (k τ d G):=by
 obtain ⟨τ,ρ,G,ab,ok⟩:=h
 refine ⟨τ,ρ,G,ab,?_⟩
 dsimp only [fM] at ok
 cases e:m τ G with
 | stuck=>rw [e] at ok;exact ok
 | dU c G'=>rw [e] at ok;exact λH' ρ' f di=>ok σ H' ρ' f di
 | ok d G'=>rw [e] at ok;exact λv H' ρ' f di r=>⟨τ,ρ',G',d,di,r,ok.fut f⟩
theorem Kg {m:DS→M Bool} {k:DS→Bool→DH→Res} (h:jl K mg EE (λτ=>fM (m τ) (k τ) λc G=>.xn c τ G) Dd σ H) :
  liftT K mg EE m σ H λb H1=>∃ τ ρ G,Ab K mg σ H1 τ ρ G∧AR K mg EE H1 ρ Dd (k τ b G):=by
 obtain ⟨τ,ρ,G,ab,ok⟩:=h
 refine ⟨τ,ρ,G,ab,?_⟩
 dsimp only [fM] at ok
 cases e:m τ G with
 | stuck=>rw [e] at ok;exact ok
 | dU c G'=>rw [e] at ok;exact λH' ρ' f di=>ok σ H' ρ' f di
 | ok d G'=>rw [e] at ok;exact λH' ρ' f di=>⟨τ,ρ',G',di,ok.fut f⟩
end
noncomputable def QE (X:Cx) (EE:gA) (e:Expr) (m:DS→M D):Prop:=PE X e (cS X.K X.mg EE m)
noncomputable def QT (X:Cx) (EE:gA) (e:Expr) (m:DS→M Bool):Prop:=PT X e (liftT X.K X.mg EE m)
noncomputable def QW (X:Cx) (EE:gA) (e:Expr) (m:DS→M Bool):Prop:=PW X e (liftT X.K X.mg EE m)
noncomputable def QA (X:Cx) (EE:gA) (es:List Expr) (m:DS→M (List D)):Prop:=PA X es (ny X.K X.mg EE m)
noncomputable def QS (X:Cx) (EE:gA) (st:Stmt) (m:MS):Prop:=PS X st (jl X.K X.mg EE m)
noncomputable def FF (X:Cx) (EE:gA) (st:List Stmt) (m:MS):Prop:=Fg X st (jl X.K X.mg EE m)
section
variable {X:Cx}
theorem PE.mono {t t':TE} (h:PE X e t) (i:∀ σ H Q,t' σ H Q→t σ H Q):PE X e t':=λpins s σ H Q I q=>h pins s σ H Q I (i _ _ _ q)
theorem PT.mono {t t':TT} (h:PT X e t) (i:∀ σ H Q,t' σ H Q→t σ H Q):PT X e t':=λpins s σ H Q I q=>h pins s σ H Q I (i _ _ _ q)
theorem PA.mono {e:List Expr} {t t':TA} (h:PA X e t) (i:∀ σ H Q,t' σ H Q→t σ H Q):PA X e t':=λpos pins s σ H Q I q=>h pos pins s σ H Q I (i _ _ _ q)
theorem PS.mono {e:Stmt} {t t':TS} (h:PS X e t) (i:∀ D σ H,t' D σ H→t D σ H):PS X e t':=λpins s σ H D I q=>h pins s σ H D I (i _ _ _ q)
theorem Fg.mono {e:List Stmt} {t t':TS} (h:Fg X e t) (i:∀ D σ H,t' D σ H→t D σ H):Fg X e t':=λpins s σ H D I q=>h pins s σ H D I (i _ _ _ q)
end
section
variable {X:Cx} {EE:gA} {a b c:Expr} {ma mb mc:DS→M D} {pos:Pos}
noncomputable def ai (i:Nat):DS→M D:=λτ G=>match τ[i]? with
 | some (some d)=>.ok d G
 | _=>.stuck
noncomputable def eC (d:D):DS→M D:=λ_=>M.ret d
theorem QM (i:Nat) {x:Str} {pos:Pos} (hN:X.N[i]?=some x:=by rfl) (hv:OI X.env.scope x:=by first | exact Or.inl rfl | exact Or.inr (Or.inl rfl) | exact Or.inr (Or.inr rfl)) (hd:(x==("__debug__":Str))=false:=by decide)
  (hcd:(x==("__classdict__":Str))=false:=by decide):QE X EE (.Name x pos) (ai i):=PE.mono (Fi hN hv hd hcd) λσ H Q ⟨τ,ρ,G,ab,ok⟩=>by
 unfold ai at ok
 cases e:τ[i]? with
 | none=>rw [e] at ok;exact ok.elim
 | some o=>
  cases o with
  | none=>rw [e] at ok;exact ok.elim
  | some d=>
   rw [e] at ok
   obtain ⟨v,e1,r⟩:=ab.st.2 i d e
   exact ⟨v,e1,ok v H ρ .refl ab r⟩
theorem Kh (h:PE X e (tC v)) (r:∀ ρ H,Rep X.K X.mg ρ H d v):QE X EE e (eC d):=PE.mono h λσ H Q zz=>by obtain ⟨τ,ρ,G,ab,ok⟩:=zz;exact ok v H ρ .refl ab (r ρ H)
theorem ak {i:Int} {j pos}:QE X EE (.Constant (.int i) j pos) (eC (.int i)):=Kh PN λ_ _=>by unfold Rep;rfl
theorem vf {i:Bool} {j pos}:QE X EE (.Constant (.bool i) j pos) (eC (.bl i)):=Kh Td λ_ _=>by unfold Rep;rfl
theorem Kl {j pos}:QE X EE (.Constant .none j pos) (eC .i9):=Kh PR λ_ _=>by unfold Rep;rfl
theorem jd {x j pos}:QE X EE (.Constant (.str x) j pos) (eC (.str x)):=Kh PU λ_ _=>by unfold Rep;rfl
noncomputable def aE (f:D→D→M D) (ma mb:DS→M D):DS→M D:=λτ=>(ma τ).bind λx=>(mb τ).bind λy=>f x y
noncomputable def Nt (X:Cx) (EE:gA) (r:R2) (f:D→D→M D):Prop:=∀ (σ:L2.St) (H:Hp) (τ:DS) (ρ:List Addr) (G:DH) (x y:V) (d e:D) (Q:VK),
 Ab X.K X.mg σ H τ ρ G→Rep X.K X.mg ρ H d x→Rep X.K X.mg ρ H e y→pA X.K X.mg EE H σ τ ρ (f d e G) Q→r x y H Q
theorem yY {r:R2} (hd:Nt X EE r f) {σ:L2.St} {H:Hp} {Q:VK} (h:cS X.K X.mg EE (aE f ma mb) σ H Q) :
  Tq r (cS X.K X.mg EE ma) (cS X.K X.mg EE mb) σ H Q:=by
 obtain ⟨τ,ρ,G,ab,ok⟩:=rX (k:=λτ x=>(mb τ).bind λy=>f x y) h
 refine ⟨τ,ρ,G,ab,?_⟩
 cases e:ma τ G with
 | stuck=>rw [e] at ok;exact ok
 | dU c G'=>rw [e] at ok;exact ok
 | ok d G'=>
  rw [e] at ok
  intro v H' ρ' f' di r'
  obtain ⟨τ2,ρ2,G2,d2,dW,r2,bD⟩:=ok v H' ρ' f' di r'
  refine ⟨τ2,ρ2,G2,dW,?_⟩
  dsimp only [M.bind] at bD
  cases e2:mb τ2 G2 with
  | stuck=>rw [e2] at bD;exact bD
  | dU c G'=>rw [e2] at bD;exact bD
  | ok d3 G3=>
   rw [e2] at bD
   exact λv3 H3 ρ3 f3 yZ r3=>hd σ H3 τ2 ρ3 G3 v v3 d2 d3 Q yZ (r2.mono f3) r3 (bD.fut f3)
theorem tR {op:Operator} {r:R2} (ho:nv X (binaryOp op) r) (hd:Nt X EE r f) (ha:QE X EE a ma) (hb:QE X EE b mb):QE X EE (.BinOp a op b pos) (aE f ma mb):=
 PE.mono (Tr ho ha hb) λ_ _ _ h=>yY hd h
theorem FG {r:R2} (ho:nv X (compareOp op) r) (hd:Nt X EE r f) (ha:QE X EE a ma) (hb:QE X EE b mb) (hm:behindInMarks op b=false):QE X EE (.Compare a [op] [b] pos) (aE f ma mb):=
 PE.mono (M0 ho ha hb hm) λ_ _ _ h=>yY hd h
theorem T6 {r:R2} (ho:Sw X r) (hd:Nt X EE r f) (ha:QE X EE a ma) (hb:QE X EE b mb) (hs:yW b:=by intro _ _;rfl):QE X EE (.Subscript a b pos) (aE f ma mb):=
 PE.mono (TR ho ha hb hs) λ_ _ _ h=>yY hd h
noncomputable def jc (C:Int→Int→Bool) (g:Int→Int→D):D→D→M D
 | .int i,.int j=>if C i j then M.ret (g i j) else M.stop
 | _,_=>M.stop
theorem GY {g:Int→Int→D} {e:D} {Q:VK} (ok:pA X.K X.mg EE H σ τ ρ (jc C g d e G) Q) :
  ∃ i j,d=.int i∧e=.int j∧C i j=true∧pA X.K X.mg EE H σ τ ρ (.ok (g i j) G) Q:=by
 cases d<;>cases e<;>try exact ok.elim
 rename_i i j
 dsimp only [jc] at ok
 cases hc:C i j with
 | false=>rw [hc] at ok;exact ok.elim
 | true=>rw [hc] at ok;exact ⟨i,j,rfl,rfl,hc,ok⟩
theorem vg {P:Int→Int→Prop} {g:Int→Int→D} (hC:∀ i j,C i j=true→P i j) (hg:∀ i j ρ H,Rep X.K X.mg ρ H (g i j) (gv i j)):Nt X EE (rI P gv) (jc C g):=
 λσ H τ ρ G x y d e Q ab r1 r2 ok=>by
  obtain ⟨i,j,rfl,rfl,hc,ok⟩:=GY ok
  unfold Rep at r1 r2
  exact ⟨i,j,r1,r2,hC i j hc,ok _ H ρ .refl ab (hg i j ρ H)⟩
theorem jS {g:Int→Int→D} (hg:∀ i j ρ H,Rep X.K X.mg ρ H (g i j) (gv i j)):Nt X EE (JH gv) (jc (λ_ _=>true) g):=
 λσ H τ ρ G x y d e Q ab r1 r2 ok=>by
  obtain ⟨i,j,rfl,rfl,hc,ok⟩:=GY ok
  unfold Rep at r1 r2
  exact ⟨i,j,r1,r2,ok _ H ρ .refl ab (hg i j ρ H)⟩
noncomputable abbrev yH:=jc (λ_ _=>true) λi j=>.int (i - j)
noncomputable abbrev IK:=jc (λi j=>(decide (-(2^64)<i)&&decide (i<2^64))||(decide (-(2^64)<j)&&decide (j<2^64))) λi j=>.int (i*j)
noncomputable abbrev Km:=jc (λ_ j=>decide (0<j)&&decide (j<1073741824)) λi j=>.int (i / j)
noncomputable abbrev lM:=jc (λ_ j=>decide (0<j)) λi j=>.int (i % j)
noncomputable abbrev Nu:=jc (λi j=>decide (0≤j)&&(decide (j≤1000000)&&decide (i.natAbs<2^64))) λi j=>.int (i^j.toNat)
noncomputable abbrev JK:=jc (λ_ _=>true) λi j=>.bl (decide (i<j))
noncomputable abbrev XS:=jc (λ_ _=>true) λi j=>.bl (decide (i≤j))
noncomputable abbrev DP:=jc (λ_ _=>true) λi j=>.bl (decide (j<i))
noncomputable abbrev WB:=jc (λ_ _=>true) λi j=>.bl (decide (j≤i))
theorem ux (ha:QE X EE a ma) (hb:QE X EE b mb):QE X EE (.BinOp a .Sub b pos) (aE yH ma mb):=tR Qf (jS λ_ _ _ _=>by unfold Rep;rfl) ha hb
theorem zz (ha:QE X EE a ma) (hb:QE X EE b mb):QE X EE (.BinOp a .Mult b pos) (aE IK ma mb):=tR Qg (vg (λi j h=>by
 simp only [Bool.or_eq_true,Bool.and_eq_true,decide_eq_true_eq] at h;exact h) λ_ _ _ _=>by unfold Rep;rfl) ha hb
theorem G5 (ha:QE X EE a ma) (hb:QE X EE b mb):QE X EE (.BinOp a .FloorDiv b pos) (aE Km ma mb):=tR MZ (vg (λi j h=>by
 simp only [Bool.and_eq_true,decide_eq_true_eq] at h;exact h) λ_ _ _ _=>by unfold Rep;rfl) ha hb
theorem iz (ha:QE X EE a ma) (hb:QE X EE b mb):QE X EE (.BinOp a .Mod b pos) (aE lM ma mb):=tR Qh (vg (λi j h=>of_decide_eq_true h) λ_ _ _ _=>by unfold Rep;rfl) ha hb
theorem QN (ha:QE X EE a ma) (hb:QE X EE b mb):QE X EE (.BinOp a .Pow b pos) (aE Nu ma mb):=tR Qi (vg (λi j h=>by
 simp only [Bool.and_eq_true,decide_eq_true_eq] at h;exact h) λ_ _ _ _=>by unfold Rep;rfl) ha hb
theorem T7 (ha:QE X EE a ma) (hb:QE X EE b mb):QE X EE (.Compare a [.Gt] [b] pos) (aE DP ma mb):=FG OM (jS λ_ _ _ _=>by unfold Rep;rfl) ha hb (Fp _)
noncomputable def bU (ds:List D):M D:=λG=>if ds.length≤sizeLine then .ok (.obj G.length) (G++[.lst ds]) else .stuck
noncomputable def gx (ds:List D):M D:=λG=>if ds.length≤sizeLine then .ok (.tup ds) G else .stuck
theorem w9 {Q:VK} (ab:Ab X.K X.mg σ H τ ρ G) (r:aC X.K X.mg ρ H ds vs) (ok:pA X.K X.mg EE H σ τ ρ (bU ds G) Q) :
  vs.length≤sizeLine∧∀ p,H p=none→Q (.ref p) (upd H p (.lst vs)):=by
 unfold bU at ok
 split at ok
 ·rename_i hl
  rw [r.length] at hl
  refine ⟨hl,λp hp=>?_⟩
  have f:fh X.K H (upd H p (.lst vs)) ρ (ρ++[p]):=(fX hp ρ).trans (jk ρ p)
  refine ok (.ref p) _ (ρ++[p]) f (ab.fut f (ab.hp.more hp r)) ?_
  unfold Rep
  exact ⟨p,rfl,by rw [← ab.hp.hl,aY]⟩
 ·exact ok.elim
theorem zA {Q:VK} (ab:Ab X.K X.mg σ H τ ρ G) (r:aC X.K X.mg ρ H ds vs) (ok:pA X.K X.mg EE H σ τ ρ (gx ds G) Q) :
  vs.length≤sizeLine∧∀ p,H p=none→Q (.ref p) (upd H p (.tup vs)):=by
 unfold gx at ok
 split at ok
 ·rename_i hl
  rw [r.length] at hl
  refine ⟨hl,λp hp=>?_⟩
  have f:fh X.K H (upd H p (.tup vs)) ρ ρ:=fX hp ρ
  refine ok (.ref p) _ ρ f (ab.fut f (ab.hp.new hp)) ?_
  unfold Rep
  exact ⟨p,vs,rfl,.of ck,r.mono f⟩
 ·exact ok.elim
noncomputable def aq:DS→M (List D):=λ_=>M.ret []
noncomputable def af (m:DS→M D) (r:DS→M (List D)):DS→M (List D):=λτ=>(m τ).bind λx=>(r τ).bind λxs=>M.ret (x::xs)
theorem aj:QA X EE [] aq:=PA.mono Fx λσ H Q zz=>by obtain ⟨τ,ρ,G,ab,ok⟩:=zz;exact ok [] H ρ .refl ab .nil
theorem Nv (ha:QE X EE e m) (hr:QA X EE es r) (hs:starEach (e::es) X.env=(false,eval e X.env)::starEach es X.env:=by rfl):QA X EE (e::es) (af m r):=
 PA.mono (Cj ha hr hs) λσ H Q h=>by
  obtain ⟨τ,ρ,G,ab,ok⟩:=Kf (k:=λτ x=>(r τ).bind λxs=>M.ret (x::xs)) h
  refine ⟨τ,ρ,G,ab,?_⟩
  cases e:m τ G with
  | stuck=>rw [e] at ok;exact ok
  | dU c G'=>rw [e] at ok;exact ok
  | ok d G'=>
   rw [e] at ok
   intro v H' ρ' f' di r'
   obtain ⟨τ2,ρ2,G2,d2,dW,r2,bD⟩:=ok v H' ρ' f' di r'
   refine ⟨τ2,ρ2,G2,dW,?_⟩
   dsimp only [M.bind] at bD
   cases e2:r τ2 G2 with
   | stuck=>rw [e2] at bD;exact bD
   | dU c G'=>rw [e2] at bD;exact bD
   | ok d3 G3=>
    rw [e2] at bD
    exact λv3 H3 ρ3 f3 yZ r3=>bD (v::v3) H3 ρ3 f3 yZ (.cons (r2.mono f3) r3)
noncomputable def au (f:List D→M D) (m:DS→M (List D)):DS→M D:=λτ=>(m τ).bind f
theorem sV {m:DS→M (List D)} {f:List D→M D} {r:List V→Hp→VK→Prop} {σ:L2.St} {H:Hp} {Q:VK}
  (hd:∀ (H:Hp) (τ:DS) (ρ:List Addr) (G:DH) (xs:List V) (ds:List D),Ab X.K X.mg σ H τ ρ G→aC X.K X.mg ρ H ds xs→pA X.K X.mg EE H σ τ ρ (f ds G) Q→r xs H Q)
  (h:cS X.K X.mg EE (au f m) σ H Q):ny X.K X.mg EE m σ H λxs H1=>r xs H1 Q:=by
 obtain ⟨τ,ρ,G,ab,ok⟩:=pZ (k:=λ_=>f) h
 refine ⟨τ,ρ,G,ab,?_⟩
 cases e:m τ G with
 | stuck=>rw [e] at ok;exact ok
 | dU c G'=>rw [e] at ok;exact ok
 | ok d G'=>
  rw [e] at ok
  intro v H' ρ' f' di r'
  obtain ⟨τ2,ρ2,G2,d2,dW,r2,bD⟩:=ok v H' ρ' f' di r'
  exact hd H' τ2 ρ2 G2 v d2 dW r2 bD
theorem fT {m:DS→M (List D)} {x1} (h:QA X EE es m):QE X EE (.Tuple es x1 pos) (au gx m):=
 PE.mono (Qs h) λσ H Q h=>sV (r:=λxs H1 Q=>xs.length≤sizeLine∧∀ p,H1 p=none→Q (.ref p) (upd H1 p (.tup xs))) (λH τ ρ G xs ds ab r ok=>zA ab r ok) h
theorem fD {m:DS→M (List D)} (h:QA X EE es m):QE X EE (.List es pos) (au bU m):=
 PE.mono (Qu h) λσ H Q h=>sV (r:=λxs H1 Q=>xs.length≤sizeLine∧∀ p,H1 p=none→Q (.ref p) (upd H1 p (.lst xs))) (λH τ ρ G xs ds ab r ok=>w9 ab r ok) h
noncomputable def CallD (X:Cx) (EE:gA) (r:List V→Hp→VK→Prop) (f:List D→M D):Prop:=∀ (σ:L2.St) (H:Hp) (τ:DS) (ρ:List Addr) (G:DH) (xs:List V) (ds:List D) (Q:VK),
 Ab X.K X.mg σ H τ ρ G→aC X.K X.mg ρ H ds xs→pA X.K X.mg EE H σ τ ρ (f ds G) Q→r xs H Q
theorem Kn {p:Pos} {m:DS→M (List D)} {r:List V→Hp→VK→Prop} {f:List D→M D} (hc:jb X (.builtin id) r) (hd:CallD X EE r f) (hm:X.mg x=none) (ha:QA X EE (e::es) m)
  (hg:Gl X x:=by rfl) (hv:bootBuiltins x=some (.builtin id):=by first | rfl | decide) (hn:x≠"__name__":=by decide) (hdb:(x==("__debug__":Str))=false:=by decide)
  (he:starEach (e::es) X.env=(false,eval e X.env)::starEach es X.env:=by rfl) (hpl:(backTo pos (starEach es X.env)).any (·.1)=false:=by rfl):QE X EE (.Call (.Name x p) (e::es) [] pos) (au f m):=
 PE.mono (J4 hc hg hm hv ha hn hdb he hpl) λσ H Q h=>sV (r:=r) (λH τ ρ G xs ds ab r ok=>hd σ H τ ρ G xs ds Q ab r ok) h
theorem IL {p:Pos} {m:DS→M (List D)} {r:List V→Hp→VK→Prop} {f:List D→M D} (hc:jb X (.type T) r) (hd:CallD X EE r f) (hm:X.mg x=none) (ha:QA X EE (e::es) m)
  (hg:Gl X x:=by rfl) (hv:bootBuiltins x=some (.type T):=by first | rfl | decide) (hn:x≠"__name__":=by decide) (hdb:(x==("__debug__":Str))=false:=by decide)
  (he:starEach (e::es) X.env=(false,eval e X.env)::starEach es X.env:=by rfl) (hpl:(backTo pos (starEach es X.env)).any (·.1)=false:=by rfl):QE X EE (.Call (.Name x p) (e::es) [] pos) (au f m):=
 PE.mono (IE hc hg hm hv ha hn hdb he hpl) λσ H Q h=>sV (r:=r) (λH τ ρ G xs ds ab r ok=>hd σ H τ ρ G xs ds Q ab r ok) h
noncomputable def mj (f:D→M Bool) (m:DS→M D):DS→M Bool:=λτ=>(m τ).bind f
noncomputable def tH:D→M Bool
 | .i9=>M.ret false
 | .bl b=>M.ret b
 | .int i=>M.ret (i != 0)
 | .str y=>if y.length≤sizeLine then M.ret ((y.length:Int) != 0) else M.stop
 | .tup xs=>M.ret (!xs.isEmpty)
 | .con xs=>M.ret (!xs.isEmpty)
 | .obj n=>λG=>match G[n]? with
  | some (.lst xs)=>.ok (!xs.isEmpty) G
  | _=>.stuck
 | .fn _=>M.stop
 | .DK _ _=>M.stop
 | .pY _ _=>M.stop
theorem p5 (r:aC K mg ρ H ds vs):(!vs.isEmpty)=!ds.isEmpty:=by
 have:=r.length
 cases ds<;>cases vs<;>first | rfl | (simp at this)
theorem Ko {Q:Bool→Hp→Prop} (h:liftT X.K X.mg EE (mj tH m) σ H Q) :
  cS X.K X.mg EE m σ H λx H1=>∃ k,Qp X.K x H1 k∧Q k H1:=by
 obtain ⟨τ,ρ,G,ab,ok⟩:=Ke (k:=λ_=>tH) h
 refine ⟨τ,ρ,G,ab,?_⟩
 cases e:m τ G with
 | stuck=>rw [e] at ok;exact ok
 | dU c G'=>rw [e] at ok;exact ok
 | ok d G'=>
  rw [e] at ok
  intro v H' ρ' f' di r'
  obtain ⟨τ2,ρ2,G2,d2,dW,r2,bD⟩:=ok v H' ρ' f' di r'
  cases d2 with
  | i9=>unfold Rep at r2;subst r2;exact ⟨false,rfl,bD H' ρ2 .refl dW⟩
  | bl b=>unfold Rep at r2;subst r2;exact ⟨b,rfl,bD H' ρ2 .refl dW⟩
  | int i=>unfold Rep at r2;subst r2;exact ⟨_,rfl,bD H' ρ2 .refl dW⟩
  | str y=>
   unfold Rep at r2;subst r2
   dsimp only [tH] at bD
   split at bD
   ·rename_i hl;exact ⟨_,⟨hl,rfl⟩,bD H' ρ2 .refl dW⟩
   ·exact bD.elim
  | tup xs=>
   unfold Rep at r2
   obtain ⟨p,vs,rfl,sq,rs⟩:=r2
   exact ⟨!vs.isEmpty,.inr (.inl ⟨vs,sq,rfl⟩),by rw [p5 rs];exact bD H' ρ2 .refl dW⟩
  | con xs=>
   unfold Rep at r2
   obtain ⟨p,vs,rfl,sq,rs⟩:=r2
   exact ⟨!vs.isEmpty,.inl ⟨vs,sq.seq,rfl⟩,by rw [p5 rs];exact bD H' ρ2 .refl dW⟩
  | obj n=>
   unfold Rep at r2
   obtain ⟨p,rfl,e1⟩:=r2
   dsimp only [tH] at bD
   cases q:G2[n]? with
   | none=>rw [q] at bD;exact bD.elim
   | some o=>
    cases o with
    | lst xs=>
     rw [q] at bD
     obtain ⟨p',vs,e2,hp,rs⟩:=dW.hp.lst q
     rw [e1] at e2;cases e2
     exact ⟨!vs.isEmpty,.inl ⟨vs,.of hp,rfl⟩,by rw [p5 rs];exact bD H' ρ2 .refl dW⟩
    | _=>first | (rw [q] at ok;exact ok.elim) | (rw [q] at bD;exact bD.elim) | (rw [q] at e;cases e;done) | (rw [g] at ok;exact ok.elim) | (rw [g] at q;cases q;done) | (rw [g] at h;cases h;done) | (rw [g2] at ok;exact ok.elim) | (rw [g1,g2] at ok;exact ok.elim) | (rw [q1] at ok;exact ok.elim) | exact ok.elim
  | fn x=>exact bD.elim
  | DK c as=>exact bD.elim
  | pY y0 c0=>exact bD.elim
theorem QU (ha:QE X EE a ma) (he:∀ whole,isTrue a X.env whole=(do let v ← whole;standAt a.pos;holding [v] (truthy v)):=by intro _;rfl):QT X EE a (mj tH ma):=
 PT.mono (J3 ha he) λσ H Q h=>Ko h
end
noncomputable def gH {α β:Type} (f:α→Option β):List α→Option (List β)
 | []=>some []
 | a::r=>match f a,gH f r with
  | some b,some bs=>some (b::bs)
  | _,_=>none
noncomputable def rO (G:DH):Nat→D→Option PyData
 | 0,_=>none
 | _+1,.i9=>some .none
 | _+1,.bl b=>some (.bool b)
 | _+1,.int i=>some (.int i)
 | _+1,.str x=>some (.str x)
 | n+1,.tup ds=>(gH (rO G n) ds).map .tuple
 | n+1,.con ds=>(gH (rO G n) ds).map .list
 | n+1,.obj k=>match G[k]? with
  | some (.lst ds)=>(gH (rO G n) ds).map .list
  | _=>none
 | _+1,.fn _=>none
 | _+1,.DK _ _=>none
 | _+1,.pY _ _=>none
section
variable {X:Cx} {EE:gA} {pins:List (Addr×Obj)} {σ:L2.St} {H:Hp} {s:Shared} {ρ:List Addr} {G:DH}
theorem readsAll {f:D→Option PyData} (hf:∀ (d:D) (x:V) (u:Value) (p:PyData),Rep X.K X.mg ρ H d x→RelV x u→f d=some p→∃ as,Reads s.heap u p as) :
  ∀ (ds:List D) (xs:List V) (us:List Value) (ps:List PyData),aC X.K X.mg ρ H ds xs→Vals xs us→gH f ds=some ps→∃ as,ReadsAll s.heap us ps as
 | [],xs,us,ps,r,v,e=>by
  unfold aC at r;subst r
  cases v;cases e
  exact ⟨[],.nil⟩
 | d::ds,xs,us,ps,r,v,e=>by
  unfold aC at r
  obtain ⟨x,r',rfl,h1,h2⟩:=r
  cases v with
  | cons v1 v2=>
  unfold gH at e
  cases e1:f d with
  | none=>rw [e1] at e;cases e
  | some p=>
   cases e2:gH f ds with
   | none=>rw [e1,e2] at e;cases e
   | some qs=>
    rw [e1,e2] at e
    cases e
    obtain ⟨as,a1⟩:=hf d x _ p h1 v1 e1
    obtain ⟨bs,a2⟩:=readsAll hf ds r' _ qs h2 v2 e2
    exact ⟨as++bs,.cons a1 a2⟩
theorem iJ (I:Inv X pins σ H s) (hp:jR X.K X.mg H ρ G):∀ (n:Nat) (d:D) (x:V) (u:Value) (p:PyData),Rep X.K X.mg ρ H d x→RelV x u→rO G n d=some p→∃ as,Reads s.heap u p as
 | 0,_,_,_,_,_,_,e=>nomatch e
 | n+1,.i9,x,u,p,r,v,e=>by unfold Rep at r;subst r;cases v;cases e;exact ⟨_,.none⟩
 | n+1,.bl b,x,u,p,r,v,e=>by unfold Rep at r;subst r;cases v;cases e;exact ⟨_,.bool b⟩
 | n+1,.int i,x,u,p,r,v,e=>by unfold Rep at r;subst r;obtain ⟨t,rfl⟩:=v;cases e;exact ⟨_,.int i t⟩
 | n+1,.str y,x,u,p,r,v,e=>by unfold Rep at r;subst r;obtain ⟨t,rfl⟩:=v;cases e;exact ⟨_,.str y t⟩
 | n+1,.tup ds,x,u,p,r,v,e=>by
  unfold Rep at r
  obtain ⟨a,xs,rfl,sq,rs⟩:=r
  cases v
  obtain ⟨its,vs,⟨o,e1,e2,k,e3⟩,_⟩:=I.tuple sq
  unfold rO at e
  cases q:gH (rO G n) ds with
  | none=>rw [q] at e;cases e
  | some ps=>
   rw [q] at e;cases e
   obtain ⟨as,ra⟩:=readsAll (λd x u p=>iJ I hp n d x u p) ds xs its ps rs vs q
   exact ⟨as,.tuple e1 e2 e3 (by simpa using ra)⟩
 | n+1,.con ds,x,u,p,r,v,e=>by
  unfold Rep at r
  obtain ⟨a,xs,rfl,sq,rs⟩:=r
  cases v
  obtain ⟨its,vs,⟨o,k,e1,e2,e3,e4⟩,_⟩:=I.list sq.seq
  unfold rO at e
  cases q:gH (rO G n) ds with
  | none=>rw [q] at e;cases e
  | some ps=>
   rw [q] at e;cases e
   obtain ⟨as,ra⟩:=readsAll (λd x u p=>iJ I hp n d x u p) ds xs its ps rs vs q
   exact ⟨_,.list e1 e2 e4 (by simpa using ra)⟩
 | n+1,.obj k,x,u,p,r,v,e=>by
  unfold Rep at r
  obtain ⟨a,rfl,e0⟩:=r
  cases v
  dsimp only [rO] at e
  cases q:G[k]? with
  | none=>rw [q] at e;cases e
  | some o=>
   cases o with
   | lst ds=>
    rw [q] at e
    obtain ⟨a',xs,e1,e2,rs⟩:=hp.lst q
    rw [e0] at e1;cases e1
    obtain ⟨its,vs,⟨o,k,e1,e2,e3,e4⟩,_⟩:=I.list (.of e2)
    dsimp only at e
    cases q:gH (rO G n) ds with
    | none=>rw [q] at e;cases e
    | some ps=>
     rw [q] at e;cases e
     obtain ⟨as,ra⟩:=readsAll (λd x u p=>iJ I hp n d x u p) ds xs its ps rs vs q
     exact ⟨_,.list e1 e2 e4 (by simpa using ra)⟩
   | _=>first | (rw [q] at ok;exact ok.elim) | (rw [q] at bD;exact bD.elim) | (rw [q] at e;cases e;done) | (rw [g] at ok;exact ok.elim) | (rw [g] at q;cases q;done) | (rw [g] at h;cases h;done) | (rw [g2] at ok;exact ok.elim) | (rw [g1,g2] at ok;exact ok.elim) | (rw [q1] at ok;exact ok.elim) | exact ok.elim
 | n+1,.fn y,x,u,p,r,v,e=>nomatch e
 | n+1,.DK y _,x,u,p,r,v,e=>nomatch e
 | n+1,.pY y _,x,u,p,r,v,e=>nomatch e
end
section
variable {X:Cx} {EE:gA} {a b c:Expr} {ma mb mc:DS→M D} {pos:Pos}
noncomputable def rD (X:Cx) (EE:gA) (f:D→D→M D):R2:=λx y H Q=>∃ σ τ ρ G d e,Ab X.K X.mg σ H τ ρ G∧Rep X.K X.mg ρ H d x∧Rep X.K X.mg ρ H e y∧pA X.K X.mg EE H σ τ ρ (f d e G) Q
theorem vh:Nt X EE (rD X EE f) f:=λσ H τ ρ G x y d e Q ab r1 r2 ok=>⟨σ,τ,ρ,G,d,e,ab,r1,r2,ok⟩
theorem T8 {r:R2} (h:Nt X EE r f) {x y:V} {H:Hp} {Q:VK} (q:rD X EE f x y H Q):r x y H Q:=by
 obtain ⟨σ,τ,ρ,G,d,e,ab,r1,r2,ok⟩:=q
 exact h σ H τ ρ G x y d e Q ab r1 r2 ok
noncomputable abbrev deep:Nat:=600
noncomputable def IM (d e:D) (G:DH):Option Bool:=match rO G deep d,rO G deep e with
 | some p,some q=>if p.canLay0&&(q.canLay0&&decide (min p.depth q.depth≤580)) then some (PyData.eqv p q) else none
 | _,_=>none
noncomputable def mq (neg:Bool) (d e:D):M D:=λG=>match IM d e G with
 | some b=>.ok (.bl (neg ^^ b)) G
 | none=>.stuck
theorem kJ (hu:X.A.units+600<cLine):nv X (compareOp .Eq) (rD X EE (mq false)):=by
 intro pins s σ0 H x y v u Q I rx ry ⟨σ,τ,ρ,G,d,e,ab,r1,r2,ok⟩
 dsimp only [mq,IM] at ok
 cases e1:rO G deep d with
 | none=>rw [e1] at ok;exact ok.elim
 | some p=>
  cases e2:rO G deep e with
  | none=>rw [e1,e2] at ok;exact ok.elim
  | some q=>
   rw [e1,e2] at ok
   dsimp only at ok
   by_cases hc:(p.canLay0&&(q.canLay0&&decide (min p.depth q.depth≤580)))=true
   ·rw [if_pos hc] at ok
    simp only [Bool.and_eq_true,decide_eq_true_eq] at hc
    obtain ⟨as,ra⟩:=iJ I ab.hp deep d x v p r1 rx e1
    obtain ⟨bs,rb⟩:=iJ I ab.hp deep e y u q r2 ry e2
    refine SeqAt.compareEq_reads ra rb hc.1 hc.2.1 (by nofun) ⟨.bl _,H,I,rfl,?_⟩
    have:=ok (.bl _) H ρ .refl ab (by unfold Rep;rfl)
    simpa using this
   ·rw [if_neg hc] at ok;exact ok.elim
theorem xg (hu:X.A.units+600<cLine):nv X (compareOp .NotEq) (rD X EE (mq true)):=by
 intro pins s σ0 H x y v u Q I rx ry ⟨σ,τ,ρ,G,d,e,ab,r1,r2,ok⟩
 dsimp only [mq,IM] at ok
 cases e1:rO G deep d with
 | none=>rw [e1] at ok;exact ok.elim
 | some p=>
  cases e2:rO G deep e with
  | none=>rw [e1,e2] at ok;exact ok.elim
  | some q=>
   rw [e1,e2] at ok
   dsimp only at ok
   by_cases hc:(p.canLay0&&(q.canLay0&&decide (min p.depth q.depth≤580)))=true
   ·rw [if_pos hc] at ok
    simp only [Bool.and_eq_true,decide_eq_true_eq] at hc
    obtain ⟨as,ra⟩:=iJ I ab.hp deep d x v p r1 rx e1
    obtain ⟨bs,rb⟩:=iJ I ab.hp deep e y u q r2 ry e2
    refine SeqAt.compareNe_reads ra rb hc.1 hc.2.1 (by nofun) ⟨.bl _,H,I,rfl,?_⟩
    have:=ok (.bl _) H ρ .refl ab (by unfold Rep;rfl)
    simpa using this
   ·rw [if_neg hc] at ok;exact ok.elim
theorem zB (hu:X.A.units+600<cLine) (ha:QE X EE a ma) (hb:QE X EE b mb):QE X EE (.Compare a [.Eq] [b] pos) (aE (mq false) ma mb):=FG (kJ hu) vh ha hb (Fp _)
inductive T9 where
 | lst (xs:List D) | tup (xs:List D) | str (x:Str)
noncomputable def bw (G:DH):D→Option T9
 | .tup xs=>some (.tup xs)
 | .con xs=>some (.lst xs)
 | .obj n=>match G[n]? with
  | some (.lst xs)=>some (.lst xs)
  | _=>none
 | .str x=>some (.str x)
 | _=>none
noncomputable def OQ (d:D) (ds:List D) (G:DH):Option Bool:=match rO G deep d,gH (rO G deep) ds with
 | some p,some qs=>if p.canLay0&&(PyData.canLayAll0 qs&&decide (min (PyData.depthAll qs) p.depth≤580)) then some (qs.any λy=>PyData.eqv y p) else none
 | _,_=>none
noncomputable def BC (neg:Bool) (d e:D):M D:=λG=>match bw G e with
 | some (.lst ds)=>match OQ d ds G with
  | some b=>.ok (.bl (neg ^^ b)) G
  | none=>.stuck
 | some (.tup ds)=>match OQ d ds G with
  | some b=>.ok (.bl (neg ^^ b)) G
  | none=>.stuck
 | some (.str j)=>match d with
  | .str i=>.ok (.bl (neg ^^ !(Builtin.Str.occurrences j i 0 j.length 1).isEmpty)) G
  | _=>.stuck
 | none=>.stuck
theorem dm {pins:List (Addr×Obj)} {σ0:L2.St} {s:Shared} {x:V} (h:jR X.K X.mg H ρ G) (r:Rep X.K X.mg ρ H d x) (e:bw G d=some (.lst ds)) :
  ∃ p xs,x=.ref p∧q8 X.K H p xs∧aC X.K X.mg ρ H ds xs:=by
 cases d with
 | con xs=>
  cases e
  unfold Rep at r
  obtain ⟨a,xs,rfl,sq,rs⟩:=r
  exact ⟨a,xs,rfl,sq.seq,rs⟩
 | obj n=>
  unfold Rep at r
  obtain ⟨a,rfl,e0⟩:=r
  dsimp only [bw] at e
  cases q:G[n]? with
  | none=>rw [q] at e;cases e
  | some o=>
   cases o with
   | lst ys=>
    rw [q] at e;cases e
    obtain ⟨a',xs,e1,e2,rs⟩:=h.lst q
    rw [e0] at e1;cases e1
    exact ⟨a,xs,rfl,.of e2,rs⟩
   | _=>first | (rw [q] at ok;exact ok.elim) | (rw [q] at bD;exact bD.elim) | (rw [q] at e;cases e;done) | (rw [g] at ok;exact ok.elim) | (rw [g] at q;cases q;done) | (rw [g] at h;cases h;done) | (rw [g2] at ok;exact ok.elim) | (rw [g1,g2] at ok;exact ok.elim) | (rw [q1] at ok;exact ok.elim) | exact ok.elim
 | _=>cases e
theorem iV {x:V} (r:Rep X.K X.mg ρ H d x) (e:bw G d=some (.tup ds)) :
  ∃ p xs,x=.ref p∧rG X.K H p xs∧aC X.K X.mg ρ H ds xs:=by
 cases d with
 | tup xs=>
  cases e
  unfold Rep at r
  obtain ⟨a,xs,rfl,sq,rs⟩:=r
  exact ⟨a,xs,rfl,sq,rs⟩
 | obj n=>
  dsimp only [bw] at e
  cases q:G[n]? with
  | none=>rw [q] at e;cases e
  | some o=>cases o<;>(rw [q] at e;cases e)
 | _=>cases e
theorem sW {x:V} (r:Rep X.K X.mg ρ H d x) (e:bw G d=some (.str y)):d=.str y∧x=.str y:=by
 cases d with
 | str z=>cases e;unfold Rep at r;exact ⟨rfl,r⟩
 | obj n=>
  dsimp only [bw] at e
  cases q:G[n]? with
  | none=>rw [q] at e;cases e
  | some o=>cases o<;>(rw [q] at e;cases e)
 | _=>cases e
theorem QV {xs:List V} (I:Inv X pins σ0 H s) (hp:jR X.K X.mg H ρ G) (sq:q8 X.K H p xs) (rs:aC X.K X.mg ρ H ds xs)
  (e:gH (rO G deep) ds=some qs):∃ as,Reads s.heap (.ref p) (.list qs) as:=by
 obtain ⟨its,vs,⟨o,k,e1,e2,e3,e4⟩,_⟩:=I.list sq
 obtain ⟨as,ra⟩:=readsAll (λd x u p=>iJ I hp deep d x u p) ds xs its qs rs vs e
 exact ⟨_,.list e1 e2 e4 (by simpa using ra)⟩
theorem QX {xs:List V} (I:Inv X pins σ0 H s) (hp:jR X.K X.mg H ρ G) (sq:rG X.K H p xs) (rs:aC X.K X.mg ρ H ds xs)
  (e:gH (rO G deep) ds=some qs):∃ as,Reads s.heap (.ref p) (.tuple qs) as:=by
 obtain ⟨its,vs,⟨o,e1,e2,k,e3⟩,_⟩:=I.tuple sq
 obtain ⟨as,ra⟩:=readsAll (λd x u p=>iJ I hp deep d x u p) ds xs its qs rs vs e
 exact ⟨_,.tuple e1 e2 e3 (by simpa using ra)⟩
theorem DQ {b:Bool} (h:OQ d ds G=some b):∃ p qs,rO G deep d=some p∧gH (rO G deep) ds=some qs∧p.canLay0=true∧PyData.canLayAll0 qs=true∧min (PyData.depthAll qs) p.depth≤580∧b=qs.any λy=>PyData.eqv y p:=by
 unfold OQ at h
 cases e1:rO G deep d with
 | none=>rw [e1] at h;cases h
 | some p=>
  cases e2:gH (rO G deep) ds with
  | none=>rw [e1,e2] at h;cases h
  | some qs=>
   rw [e1,e2] at h
   dsimp only at h
   by_cases hc:(p.canLay0&&(PyData.canLayAll0 qs&&decide (min (PyData.depthAll qs) p.depth≤580)))=true
   ·rw [if_pos hc] at h
    simp only [Bool.and_eq_true,decide_eq_true_eq] at hc
    exact ⟨p,qs,rfl,rfl,hc.1,hc.2.1,hc.2.2,(Option.some.inj h).symm⟩
   ·rw [if_neg hc] at h;cases h
theorem FH (hu:X.A.units+600<cLine):nv X (compareOp .In) (rD X EE (BC false)):=by
 intro pins s σ0 H x y v u Q I rx ry ⟨σ,τ,ρ,G,d,e,ab,r1,r2,ok⟩
 dsimp only [BC] at ok
 cases q:bw G e with
 | none=>rw [q] at ok;exact ok.elim
 | some sk=>
  rw [q] at ok
  cases sk with
  | lst ds=>
   dsimp only at ok
   cases qb:OQ d ds G with
   | none=>rw [qb] at ok;exact ok.elim
   | some b=>
    rw [qb] at ok
    obtain ⟨p,qs,e1,e2,h1,h2,h3,rfl⟩:=DQ qb
    obtain ⟨l,xs,rfl,sq,rs⟩:=dm (pins:=pins) (σ0:=σ0) (s:=s) ab.hp r2 q
    cases ry
    obtain ⟨as,ra⟩:=iJ I ab.hp deep d x v p r1 rx e1
    obtain ⟨bs,rb⟩:=QV I ab.hp sq rs e2
    refine SeqAt.in_list_reads rb ra h2 h1 (by nofun) ⟨.bl _,H,I,rfl,?_⟩
    have:=ok (.bl _) H ρ .refl ab (by unfold Rep;rfl)
    simpa using this
  | tup ds=>
   dsimp only at ok
   cases qb:OQ d ds G with
   | none=>rw [qb] at ok;exact ok.elim
   | some b=>
    rw [qb] at ok
    obtain ⟨p,qs,e1,e2,h1,h2,h3,rfl⟩:=DQ qb
    obtain ⟨l,xs,rfl,sq,rs⟩:=iV r2 q
    cases ry
    obtain ⟨as,ra⟩:=iJ I ab.hp deep d x v p r1 rx e1
    obtain ⟨bs,rb⟩:=QX I ab.hp sq rs e2
    refine SeqAt.in_tuple_reads rb ra h2 h1 (by nofun) ⟨.bl _,H,I,rfl,?_⟩
    have:=ok (.bl _) H ρ .refl ab (by unfold Rep;rfl)
    simpa using this
  | str j=>
   obtain ⟨rfl,rfl⟩:=sW r2 q
   cases d with
   | str i=>
    unfold Rep at r1;subst r1
    refine IA pins s σ0 H _ _ v u Q I rx ry ⟨i,j,rfl,rfl,?_⟩
    have:=ok (.bl _) H ρ .refl ab (by unfold Rep;rfl)
    simpa using this
   | _=>exact ok.elim
noncomputable def QY (neg:Bool):D→D→M D
 | d,.i9=>match d with
  | .i9=>M.ret (.bl (!neg))
  | _=>M.ret (.bl neg)
 | _,_=>M.stop
theorem Nx {x:V} (r:Rep K mg ρ H d x):decide (x=.i9)=(match d with | .i9=>true | _=>false):=by
 cases d<;>unfold Rep at r
 case i9=>subst r;rfl
 case tup=>obtain ⟨a,xs,rfl,_⟩:=r;rfl
 case con=>obtain ⟨a,xs,rfl,_⟩:=r;rfl
 case obj=>obtain ⟨a,rfl,_⟩:=r;rfl
 case fn=>obtain ⟨a,rfl,_⟩:=r;rfl
 case DK=>obtain ⟨a,cv,rfl,_⟩:=r;rfl
 case pY=>obtain ⟨k,a,cs,xs,rfl,_⟩:=r;rfl
 all_goals (subst r;rfl)
theorem QZ (ha:QE X EE a ma) (hb:QE X EE b mb):QE X EE (.Compare a [.Is] [b] pos) (aE (QY false) ma mb):=FG Qn (λσ H τ ρ G x y d e Q ab r1 r2 ok=>by
 cases e with
 | i9=>
  unfold Rep at r2
  refine ⟨r2,?_⟩
  rw [Nx r1]
  cases d<;>exact ok _ H ρ .refl ab (by unfold Rep;rfl)
 | _=>exact ok.elim) ha hb (Fp _)
end
section
variable {X:Cx} {EE:gA} {a b c:Expr} {ma mb mc:DS→M D} {pos:Pos}
noncomputable def fB (d e:D):M D:=λG=>match e with
 | .int i=>match bw G d with
  | some (.lst xs)=>match pX xs i with
   | some v=>.ok v G
   | none=>.stuck
  | some (.tup xs)=>match pX xs i with
   | some v=>.ok v G
   | none=>.stuck
  | some (.str z)=>if z.length≤sizeLine then (match pX z.cps.toList i with
   | some c=>.ok (.str ⟨#[c]⟩) G
   | none=>.stuck) else .stuck
  | none=>.stuck
 | _=>.stuck
theorem DR {i:Int} (r:aC K mg ρ H ds vs) (h:pX ds i=some d):∃ v,pX vs i=some v∧Rep K mg ρ H d v:=by
 unfold pX at h ⊢
 rw [← r.length]
 cases e:J7 ds.length i with
 | none=>rw [e] at h;cases h
 | some j=>
  rw [e] at h
  obtain ⟨v,e1,e2⟩:=r.get (show ds[j]?=some d from h)
  exact ⟨v,e1,e2⟩
theorem XT:Sw X (rD X EE fB):=by
 intro value slice pins s σ0 H x y v u Q I rx ry ⟨σ,τ,ρ,G,d,e,ab,r1,r2,ok⟩ hs
 cases e<;>try exact ok.elim
 rename_i i
 unfold Rep at r2;subst r2
 dsimp only [fB] at ok
 cases q:bw G d with
 | none=>rw [q] at ok;exact ok.elim
 | some sk=>
  rw [q] at ok
  cases sk with
  | lst ds=>
   dsimp only at ok
   cases qa:pX ds i with
   | none=>rw [qa] at ok;exact ok.elim
   | some z=>
    rw [qa] at ok
    obtain ⟨l,xs,rfl,sq,rs⟩:=dm (pins:=pins) (σ0:=σ0) (s:=s) ab.hp r1 q
    obtain ⟨w,e1,e2⟩:=DR rs qa
    exact Nc value slice pins s σ0 H _ _ v u Q I rx ry ⟨l,xs,i,w,rfl,rfl,sq,e1,ok w H ρ .refl ab e2⟩ hs
  | tup ds=>
   dsimp only at ok
   cases qa:pX ds i with
   | none=>rw [qa] at ok;exact ok.elim
   | some z=>
    rw [qa] at ok
    obtain ⟨l,xs,rfl,sq,rs⟩:=iV r1 q
    obtain ⟨w,e1,e2⟩:=DR rs qa
    exact QB value slice pins s σ0 H _ _ v u Q I rx ry ⟨l,xs,i,w,rfl,rfl,sq,e1,ok w H ρ .refl ab e2⟩ hs
  | str z=>
   dsimp only at ok
   obtain ⟨rfl,rfl⟩:=sW r1 q
   by_cases hz:z.length≤sizeLine
   ·rw [if_pos hz] at ok
    cases qa:pX z.cps.toList i with
    | none=>rw [qa] at ok;exact ok.elim
    | some c=>
     rw [qa] at ok
     exact QC value slice pins s σ0 H _ _ v u Q I rx ry ⟨z,i,c,rfl,rfl,hz,qa,ok _ H ρ .refl ab (by unfold Rep;rfl)⟩ hs
   ·rw [if_neg hz] at ok;exact ok.elim
theorem Kp (ha:QE X EE a ma) (hb:QE X EE b mb) (hs:yW b:=by intro _ _;rfl):QE X EE (.Subscript a b pos) (aE fB ma mb):=T6 XT vh ha hb hs
noncomputable def jT:DS→M (Option Int):=λ_=>M.ret none
noncomputable def jm (m:DS→M D):DS→M (Option Int):=λτ=>(m τ).bind λd=>match d with
 | .int i=>M.ret (some i)
 | _=>M.stop
noncomputable def OkO (K:PySem.W.Frag) (mg:Str→Option Value) (EE:gA) (H:Hp) (σ:L2.St) (τ:DS) (ρ:List Addr):Out (Option Int)→(Option Int→Hp→Prop)→Prop
 | .stuck,_=>False
 | .ok b G',Q=>∀ H' ρ',fh K H H' ρ ρ'→Ab K mg σ H' τ ρ' G'→Q b H'
 | .dU c G',_=>∀ H' ρ',fh K H H' ρ ρ'→Ab K mg σ H' τ ρ' G'→EE c σ H'
noncomputable def Ua (K:PySem.W.Frag) (mg:Str→Option Value) (EE:gA) (m:DS→M (Option Int)):TO:=λσ H Q=>∃ τ ρ G,Ab K mg σ H τ ρ G∧OkO K mg EE H σ τ ρ (m τ G) Q
noncomputable def QO (X:Cx) (EE:gA) (e:Option Expr) (m:DS→M (Option Int)):Prop:=PO X e (Ua X.K X.mg EE m)
theorem PO.mono {e:Option Expr} {t t':TO} (h:PO X e t) (i:∀ σ H Q,t' σ H Q→t σ H Q):PO X e t':=λpins s σ H Q I q=>h pins s σ H Q I (i _ _ _ q)
theorem p6:QO X EE none jT:=PO.mono M8 λσ H Q zz=>by obtain ⟨τ,ρ,G,ab,ok⟩:=zz;exact ok H ρ .refl ab
theorem p7 (ha:QE X EE a ma):QO X EE (some a) (jm ma):=PO.mono (M9 ha) λσ H Q zz=>by
 obtain ⟨τ,ρ,G,ab,ok⟩:=zz
 refine ⟨τ,ρ,G,ab,?_⟩
 dsimp only [jm,M.bind] at ok
 cases e:ma τ G with
 | stuck=>rw [e] at ok;exact ok
 | dU c G'=>rw [e] at ok;exact ok
 | ok d G'=>
  rw [e] at ok
  intro v H' ρ' f di r
  cases d<;>try exact ok.elim
  rename_i i
  unfold Rep at r
  exact ⟨i,r,ok H' ρ' f di⟩
noncomputable def cutD (xs:List D) (lo hi:Option Int):List D:=(xs.drop (HT.ji xs.length 0 lo)).take (HT.ji xs.length xs.length hi - HT.ji xs.length 0 lo)
noncomputable def IP (d:D) (lo hi:Option Int):M D:=λG=>match bw G d with
 | some (.lst xs)=>bU (cutD xs lo hi) G
 | some (.tup xs)=>if HT.ji xs.length 0 lo=0∧HT.ji xs.length xs.length hi=xs.length then .stuck else gx (cutD xs lo hi) G
 | some (.str z)=>if z.length≤sizeLine then .ok (.str (Txt.slice z lo hi)) G else .stuck
 | none=>.stuck
noncomputable def BD (m:DS→M D) (ml mh:DS→M (Option Int)):DS→M D:=λτ=>(m τ).bind λd=>(ml τ).bind λlo=>(mh τ).bind λhi=>IP d lo hi
noncomputable def XU (X:Cx) (EE:gA):V→Option Int→Option Int→Hp→VK→Prop:=λx lo hi H Q=>∃ σ τ ρ G d,Ab X.K X.mg σ H τ ρ G∧Rep X.K X.mg ρ H d x∧pA X.K X.mg EE H σ τ ρ (IP d lo hi G) Q
theorem DT (r:aC K mg ρ H ds vs) (lo hi:Option Int):aC K mg ρ H (cutD ds lo hi) (DB vs lo hi):=by
 unfold cutD DB
 rw [r.length]
 exact (r.drop _).take _
theorem sX (x:Str) (l u:Option (Int×Tok)) (lo hi:Option Int) (hl:l.map (·.1)=lo) (hu:u.map (·.1)=hi) (t:Tok) (s:Shared) (Q:Value→Shared→Prop) (hz:x.length≤sizeLine)
  (h:∀ t' k,Q (.str (Txt.slice x lo hi) t') {s with toks:=k}):(sliceMade x t l u none).post Q s:=by
 subst hl hu
 cases l<;>cases u<;>exact post_val_or_str ⟨Nat.le_trans (Txt.slice_le x _ _) hz,λt' k=>h t' k⟩
theorem XW:Wx X (XU X EE):=by
 intro pins s σ0 H x v vl vu lo hi sl Q I rx hs pl pu ⟨σ,τ,ρ,G,d,ab,r1,ok⟩
 dsimp only [IP] at ok
 cases q:bw G d with
 | none=>rw [q] at ok;exact ok.elim
 | some sk=>
  rw [q] at ok
  cases sk with
  | lst ds=>
   obtain ⟨l,xs,rfl,sq,rs⟩:=dm (pins:=pins) (σ0:=σ0) (s:=s) ab.hp r1 q
   exact Nd pins s σ0 H _ v vl vu lo hi sl Q I rx hs pl pu ⟨l,xs,rfl,sq,(w9 ab (DT rs lo hi) ok).2⟩
  | tup ds=>
   obtain ⟨l,xs,rfl,sq,rs⟩:=iV r1 q
   dsimp only at ok
   by_cases hw:HT.ji ds.length 0 lo=0∧HT.ji ds.length ds.length hi=ds.length
   ·rw [if_pos hw] at ok;exact ok.elim
   ·rw [if_neg hw] at ok
    refine Qz pins s σ0 H _ v vl vu lo hi sl Q I rx hs pl pu ⟨l,xs,rfl,sq,?_,(zA ab (DT rs lo hi) ok).2⟩
    rw [← rs.length];exact hw
  | str z=>
   obtain ⟨rfl,rfl⟩:=sW r1 q
   dsimp only at ok
   by_cases hz:z.length≤sizeLine
   ·rw [if_pos hz] at ok
    obtain ⟨t,rfl⟩:=rx
    refine ⟨"str",_,F.slot_str_getitem.lookup,typeIs_str _ _ _,?_⟩
    obtain ⟨o,e1,e2,e3⟩:=hs
    refine nt I.os.2 ?_
    have fin:∀ t' k,0<k→EP X pins σ0 Q (.str (Txt.slice z lo hi) t') {s with toks:=k}:=λt' k ht=>⟨.str _,H,I.tok k,⟨t',rfl⟩,ok _ H ρ .refl ab (by unfold Rep;rfl)⟩
    cases pl with
    | none=>
     cases pu with
     | none=>exact wpAny_getItem_str_slice (l:=none) (u:=none) (st:=none) ⟨o,e1,e2,e3⟩ rfl (sX z none none none none rfl rfl t s _ hz fin)
     | int j tj=>exact wpAny_getItem_str_slice (l:=none) (u:=some (j,tj)) (st:=none) ⟨o,e1,e2,e3⟩ rfl (sX z none (some (j,tj)) none (some j) rfl rfl t s _ hz fin)
    | int i ti=>
     cases pu with
     | none=>exact wpAny_getItem_str_slice (l:=some (i,ti)) (u:=none) (st:=none) ⟨o,e1,e2,e3⟩ rfl (sX z (some (i,ti)) none (some i) none rfl rfl t s _ hz fin)
     | int j tj=>exact wpAny_getItem_str_slice (l:=some (i,ti)) (u:=some (j,tj)) (st:=none) ⟨o,e1,e2,e3⟩ rfl (sX z (some (i,ti)) (some (j,tj)) (some i) (some j) rfl rfl t s _ hz fin)
   ·rw [if_neg hz] at ok;exact ok.elim
theorem nA {lo hi:Option Expr} (ha:QE X EE a ma) (hl:QO X EE lo ml) (hh:QO X EE hi mh):QE X EE (.Subscript a (.Slice lo hi none p2) pos) (BD ma ml mh):=
 PE.mono (J6 XW ha hl hh) λσ H Q zz=>by
  obtain ⟨τ,ρ,G,ab,ok⟩:=zz
  refine ⟨τ,ρ,G,ab,?_⟩
  dsimp only [BD,M.bind] at ok
  cases e1:ma τ G with
  | stuck=>rw [e1] at ok;exact ok
  | dU c G'=>rw [e1] at ok;exact ok
  | ok d G1=>
   rw [e1] at ok
   dsimp only at ok
   intro v H1 ρ1 f1 nB r1
   refine ⟨τ,ρ1,G1,nB,?_⟩
   cases e2:ml τ G1 with
   | stuck=>rw [e2] at ok;exact ok
   | dU c G'=>rw [e2] at ok;exact λH' ρ' f'=>ok H' ρ' (f1.trans f')
   | ok l G2=>
    rw [e2] at ok
    dsimp only at ok
    intro H2 ρ2 f2 dW
    refine ⟨τ,ρ2,G2,dW,?_⟩
    cases e3:mh τ G2 with
    | stuck=>rw [e3] at ok;exact ok
    | dU c G'=>rw [e3] at ok;exact λH' ρ' f'=>ok H' ρ' ((f1.trans f2).trans f')
    | ok u G3=>
     rw [e3] at ok
     dsimp only at ok
     intro H3 ρ3 f3 yZ
     exact ⟨σ,τ,ρ3,G3,d,yZ,r1.mono (f2.trans f3),ok.fut ((f1.trans f2).trans f3)⟩
noncomputable def pB (ma mb:DS→M Bool):DS→M Bool:=λτ=>(ma τ).bind λc=>if c then mb τ else M.ret false
noncomputable def zC (ma mb:DS→M Bool):DS→M Bool:=λτ=>(ma τ).bind λc=>if c then M.ret true else mb τ
noncomputable def tS (ma:DS→M Bool):DS→M Bool:=λτ=>(ma τ).bind λc=>M.ret (!c)
variable {ta tb tc:DS→M Bool} {rest:List Expr}
theorem Kq {Q:Bool→Hp→Prop} (h:liftT X.K X.mg EE (pB ta tb) σ H Q):Te (liftT X.K X.mg EE ta) (liftT X.K X.mg EE tb) σ H Q:=by
 obtain ⟨τ,ρ,G,ab,ok⟩:=FE (k:=λτ c=>if c then tb τ else M.ret false) h
 refine ⟨τ,ρ,G,ab,?_⟩
 cases e:ta τ G with
 | stuck=>rw [e] at ok;exact ok
 | dU c G'=>rw [e] at ok;exact ok
 | ok k G'=>
  rw [e] at ok
  intro H' ρ' f' di
  obtain ⟨τ2,ρ2,G2,dW,bD⟩:=ok H' ρ' f' di
  cases k with
  | true=>exact ⟨τ2,ρ2,G2,dW,bD⟩
  | false=>exact bD H' ρ2 .refl dW
theorem Ny {Q:Bool→Hp→Prop} (h:liftT X.K X.mg EE (zC ta tb) σ H Q):ZP (liftT X.K X.mg EE ta) (liftT X.K X.mg EE tb) σ H Q:=by
 obtain ⟨τ,ρ,G,ab,ok⟩:=FE (k:=λτ c=>if c then M.ret true else tb τ) h
 refine ⟨τ,ρ,G,ab,?_⟩
 cases e:ta τ G with
 | stuck=>rw [e] at ok;exact ok
 | dU c G'=>rw [e] at ok;exact ok
 | ok k G'=>
  rw [e] at ok
  intro H' ρ' f' di
  obtain ⟨τ2,ρ2,G2,dW,bD⟩:=ok H' ρ' f' di
  cases k with
  | false=>exact ⟨τ2,ρ2,G2,dW,bD⟩
  | true=>exact bD H' ρ2 .refl dW
theorem PW.mono {t t':TT} (h:PW X e t) (i:∀ σ H Q,t' σ H Q→t σ H Q):PW X e t':=λwh pins s σ H Q I q=>h wh pins s σ H Q I (i _ _ _ q)
theorem vj (ha:QT X EE a ta):QW X EE (.BoolOp .And [a] pos) ta:=MR ha
theorem zE (ha:QT X EE a ta):QW X EE (.BoolOp .Or [a] pos) ta:=PV ha
theorem uy (ha:QT X EE a ta) (hb:QW X EE (.BoolOp .And (b::rest) pos) tb):QW X EE (.BoolOp .And (a::b::rest) pos) (pB ta tb):=PW.mono (PX ha hb) λ_ _ _ h=>Kq h
theorem zF (ha:QT X EE a ta) (hb:QW X EE (.BoolOp .Or (b::rest) pos) tb):QW X EE (.BoolOp .Or (a::b::rest) pos) (zC ta tb):=PW.mono (Tf ha hb) λ_ _ _ h=>Ny h
theorem AS (h:QW X EE e ta):QT X EE e ta:=h.pt
theorem uz (ha:QT X EE a ta):QT X EE (.UnaryOp .Not a pos) (tS ta):=PT.mono (PY ha) λσ H Q h=>by
 obtain ⟨τ,ρ,G,ab,ok⟩:=FE (k:=λτ c=>M.ret (!c)) h
 refine ⟨τ,ρ,G,ab,?_⟩
 cases e:ta τ G with
 | stuck=>rw [e] at ok;exact ok
 | dU c G'=>rw [e] at ok;exact ok
 | ok k G'=>
  rw [e] at ok
  intro H' ρ' f' di
  obtain ⟨τ2,ρ2,G2,dW,bD⟩:=ok H' ρ' f' di
  exact bD H' ρ2 .refl dW
noncomputable def kK (m:DS→M D):DS→M Bool:=λτ=>(m τ).bind λd=>match d with
 | .bl b=>M.ret b
 | _=>M.stop
theorem Nz {Q:Bool→Hp→Prop} (h:liftT X.K X.mg EE (kK m) σ H Q):cS X.K X.mg EE m σ H λx H1=>∃ c,x=.bl c∧Q c H1:=by
 obtain ⟨τ,ρ,G,ab,ok⟩:=Ke (k:=λ_ d=>match d with | .bl b=>M.ret b | _=>M.stop) h
 refine ⟨τ,ρ,G,ab,?_⟩
 cases e:m τ G with
 | stuck=>rw [e] at ok;exact ok
 | dU c G'=>rw [e] at ok;exact ok
 | ok d G'=>
  rw [e] at ok
  intro v H' ρ' f' di r'
  obtain ⟨τ2,ρ2,G2,d2,dW,r2,bD⟩:=ok v H' ρ' f' di r'
  cases d2<;>try exact bD.elim
  rename_i k
  unfold Rep at r2
  exact ⟨k,r2,bD H' ρ2 .refl dW⟩
theorem Q0 (ho:nv X (compareOp op) (rD X EE f)) (ha:QE X EE a ma) (hb:QE X EE b mb) (hm:behindInMarks op b=false):QT X EE (.Compare a [op] [b] pos) (kK (aE f ma mb)):=
 PT.mono (M3 ho ha hb hm) λσ H Q h=>by
  have h1:=Nz h
  exact yY vh h1
theorem G6 {g:Value→Value→Sem Value} {r:R2} (ho:nv X g r) (hd:Nt X EE r f):nv X g (rD X EE f):=λpins s σ H x y v u Q I rx ry q=>ho pins s σ H x y v u Q I rx ry (T8 hd q)
theorem rY:nv X (compareOp .Lt) (rD X EE JK):=G6 Tw (jS λ_ _ _ _=>by unfold Rep;rfl)
theorem Q2:nv X (compareOp .LtE) (rD X EE XS):=G6 Tz (jS λ_ _ _ _=>by unfold Rep;rfl)
theorem rZ:nv X (compareOp .Gt) (rD X EE DP):=G6 OM (jS λ_ _ _ _=>by unfold Rep;rfl)
theorem Q3:nv X (compareOp .GtE) (rD X EE WB):=G6 TF (jS λ_ _ _ _=>by unfold Rep;rfl)
noncomputable def Cs (ma mb:DS→M D):DS→M D:=λτ=>(ma τ).bind λd=>match d with
 | .bl true=>mb τ
 | .bl false=>M.ret (.bl false)
 | _=>M.stop
noncomputable def Q4 (ma:DS→M D):DS→M D:=λτ=>(ma τ).bind λd=>match d with
 | .bl b=>M.ret (.bl (!b))
 | _=>M.stop
theorem zG {op} (h:QE X EE a ma):QE X EE (.BoolOp op [a] pos) ma:=PZ h
theorem uA (ha:QE X EE a ma) (hb:QE X EE (.BoolOp .And (b::rest) pos) mb):QE X EE (.BoolOp .And (a::b::rest) pos) (Cs ma mb):=PE.mono (P0 ha hb) λσ H Q h=>by
 obtain ⟨τ,ρ,G,ab,ok⟩:=rX (k:=λτ d=>match d with | .bl true=>mb τ | .bl false=>M.ret (.bl false) | _=>M.stop) h
 refine ⟨τ,ρ,G,ab,?_⟩
 cases e:ma τ G with
 | stuck=>rw [e] at ok;exact ok
 | dU c G'=>rw [e] at ok;exact ok
 | ok k G'=>
  rw [e] at ok
  intro v H' ρ' f' di r'
  obtain ⟨τ2,ρ2,G2,d2,dW,r2,bD⟩:=ok v H' ρ' f' di r'
  cases d2<;>try exact bD.elim
  rename_i k
  unfold Rep at r2
  refine ⟨k,r2,?_⟩
  cases k with
  | true=>exact ⟨τ2,ρ2,G2,dW,bD⟩
  | false=>exact bD _ H' ρ2 .refl dW (by unfold Rep;rfl)
theorem Q5 (ha:QE X EE a ma):QE X EE (.UnaryOp .Not a pos) (Q4 ma):=PE.mono (P1 ha) λσ H Q h=>by
 obtain ⟨τ,ρ,G,ab,ok⟩:=rX (k:=λτ d=>match d with | .bl b=>M.ret (.bl (!b)) | _=>M.stop) h
 refine ⟨τ,ρ,G,ab,?_⟩
 cases e:ma τ G with
 | stuck=>rw [e] at ok;exact ok
 | dU c G'=>rw [e] at ok;exact ok
 | ok k G'=>
  rw [e] at ok
  intro v H' ρ' f' di r'
  obtain ⟨τ2,ρ2,G2,d2,dW,r2,bD⟩:=ok v H' ρ' f' di r'
  cases d2<;>try exact bD.elim
  rename_i k
  unfold Rep at r2
  exact ⟨k,r2,bD _ H' ρ2 .refl dW (by unfold Rep;rfl)⟩
noncomputable def zH (ma:DS→M D):DS→M D:=λτ=>(ma τ).bind λd=>match d with
 | .int i=>M.ret (.int (-i))
 | _=>M.stop
theorem Ct (ha:QE X EE a ma):QE X EE (.UnaryOp .USub a pos) (zH ma):=PE.mono (Tt Qm ha) λσ H Q h=>by
 obtain ⟨τ,ρ,G,ab,ok⟩:=rX (k:=λτ d=>match d with | .int i=>M.ret (.int (-i)) | _=>M.stop) h
 refine ⟨τ,ρ,G,ab,?_⟩
 cases e:ma τ G with
 | stuck=>rw [e] at ok;exact ok
 | dU c G'=>rw [e] at ok;exact ok
 | ok k G'=>
  rw [e] at ok
  intro v H' ρ' f' di r'
  obtain ⟨τ2,ρ2,G2,d2,dW,r2,bD⟩:=ok v H' ρ' f' di r'
  cases d2<;>try exact bD.elim
  rename_i k
  unfold Rep at r2
  exact ⟨k,r2,bD _ H' ρ2 .refl dW (by unfold Rep;rfl)⟩
noncomputable def zI (f g:D→D→M D) (ma mb mc:DS→M D):DS→M D:=λτ=>(ma τ).bind λx=>(mb τ).bind λy=>(f x y).bind λz=>match z with
 | .bl true=>(mc τ).bind λw=>g y w
 | .bl false=>M.ret (.bl false)
 | _=>M.stop
end
section
variable {X:Cx} {EE:gA} {a b c:Expr} {ma mb mc:DS→M D} {pos:Pos} {ta tb tc:DS→M Bool} {ms mt:MS}
theorem Kr {g:D→D→M D} (ho:nv X (compareOp op) (rD X EE f)) (ho':nv X (compareOp op') (rD X EE g)) (ha:QE X EE a ma) (hb:QE X EE b mb) (hc:QE X EE c mc)
  (hm:lastMarks [op,op'] [b,c]=false:=by with_unfolding_all rfl):QE X EE (.Compare a [op,op'] [b,c] pos) (zI f g ma mb mc):=
 PE.mono (J2 ho ho' ha hb hc hm) λσ H Q zz=>by
  obtain ⟨τ,ρ,G,ab,ok⟩:=zz
  refine ⟨τ,ρ,G,ab,?_⟩
  dsimp only [zI,M.bind] at ok
  cases e1:ma τ G with
  | stuck=>rw [e1] at ok;exact ok
  | dU c G'=>rw [e1] at ok;exact ok
  | ok x G1=>
   rw [e1] at ok
   dsimp only at ok
   intro v H1 ρ1 f1 nB r1
   refine ⟨τ,ρ1,G1,nB,?_⟩
   cases e2:mb τ G1 with
   | stuck=>rw [e2] at ok;exact ok
   | dU c G'=>rw [e2] at ok;exact λH' ρ' f'=>ok H' ρ' (f1.trans f')
   | ok y G2=>
    rw [e2] at ok
    dsimp only at ok
    intro w H2 ρ2 f2 dW r2
    refine ⟨σ,τ,ρ2,G2,x,y,dW,r1.mono f2,r2,?_⟩
    cases e3:f x y G2 with
    | stuck=>rw [e3] at ok;exact ok
    | dU c G'=>rw [e3] at ok;exact λH' ρ' f'=>ok H' ρ' ((f1.trans f2).trans f')
    | ok z G3=>
     rw [e3] at ok
     dsimp only at ok
     intro vz H3 ρ3 f3 yZ r3
     cases z<;>try exact ok.elim
     rename_i k
     unfold Rep at r3
     refine ⟨k,r3,?_⟩
     cases k with
     | false=>exact ok _ H3 ρ3 ((f1.trans f2).trans f3) yZ (by unfold Rep;rfl)
     | true=>
      dsimp only [M.bind] at ok
      refine ⟨τ,ρ3,G3,yZ,?_⟩
      cases e4:mc τ G3 with
      | stuck=>rw [e4] at ok;exact ok
      | dU c G'=>rw [e4] at ok;exact λH' ρ' f'=>ok H' ρ' (((f1.trans f2).trans f3).trans f')
      | ok t G4=>
       rw [e4] at ok
       dsimp only at ok
       intro vt H4 ρ4 f4 ab4 r4
       exact ⟨σ,τ,ρ4,G4,y,t,ab4,r2.mono (f3.trans f4),r4,ok.fut (((f1.trans f2).trans f3).trans f4)⟩
noncomputable def eg:MS:=λτ G=>.nx τ G
noncomputable def bq (m k:MS):MS:=λτ G=>match m τ G with
 | .nx τ' G'=>k τ' G'
 | r=>r
theorem cH:FF X EE [] eg:=Fg.mono MT λD σ H zz=>by obtain ⟨τ,ρ,G,ab,ok⟩:=zz;exact ok σ H ρ .refl ab
theorem zJ (h:jl X.K X.mg EE (bq ms mt) Dd σ H):Tj (jl X.K X.mg EE ms) (jl X.K X.mg EE mt) Dd σ H:=by
 obtain ⟨τ,ρ,G,ab,ok⟩:=h
 refine ⟨τ,ρ,G,ab,?_⟩
 dsimp only [bq] at ok
 cases e:ms τ G with
 | nx τ' G'=>rw [e] at ok;exact λσ' H' ρ' f di=>⟨τ',ρ',G',di,ok.fut f⟩
 | stuck=>rw [e] at ok;exact ok
 | rt d G=>rw [e] at ok;exact ok
 | bk τ G=>rw [e] at ok;exact ok
 | ct τ G=>rw [e] at ok;exact ok
 | xn c τ G=>rw [e] at ok;exact ok
theorem ao {st:Stmt} {rest:List Stmt} (h1:QS X EE st ms) (h2:FF X EE rest mt):FF X EE (st::rest) (bq ms mt):=Fg.mono (JX h1 h2) λ_ _ _ h=>zJ h
theorem aA {st:Stmt} (h1:QS X EE st ms):FF X EE [st] ms:=MU h1
noncomputable def pC (m:DS→M D):MS:=λτ=>fM (m τ) (λ_ G=>.nx τ G) λc G=>.xn c τ G
noncomputable def fC (m:DS→M D):MS:=λτ=>fM (m τ) (λd G=>.rt d G) λc G=>.xn c τ G
noncomputable def bP (i:Nat) (m:DS→M D):MS:=λτ=>fM (m τ) (λd G=>.nx (τ.set i (some d)) G) λc G=>.xn c τ G
noncomputable def p8 (t:DS→M Bool) (ma mb:MS):MS:=λτ=>fM (t τ) (λc G=>if c then ma τ G else mb τ G) λc G=>.xn c τ G
theorem NB (he:QE X EE a ma) (hs:swapsWith a none pos.line X.env=pure false:=by rfl):QS X EE (.Expr a pos) (pC ma):=PS.mono (MV he hs) λD σ H h=>by
 obtain ⟨τ,ρ,G,ab,ok⟩:=zy (k:=λτ d G=>.nx τ G) h
 refine ⟨τ,ρ,G,ab,?_⟩
 cases e:ma τ G with
 | stuck=>rw [e] at ok;exact ok
 | dU c G'=>rw [e] at ok;exact ok
 | ok d G'=>
  rw [e] at ok
  intro v H' ρ' f' di r'
  obtain ⟨τ2,ρ2,G2,d2,dW,r2,bD⟩:=ok v H' ρ' f' di r'
  exact bD σ H' ρ2 .refl dW
theorem bM (he:QE X EE a ma):QS X EE (.Return (some a) pos) (fC ma):=PS.mono (P4 he) λD σ H h=>by
 obtain ⟨τ,ρ,G,ab,ok⟩:=zy (k:=λτ d G=>.rt d G) h
 refine ⟨τ,ρ,G,ab,?_⟩
 cases e:ma τ G with
 | stuck=>rw [e] at ok;exact ok
 | dU c G'=>rw [e] at ok;exact ok
 | ok d G'=>
  rw [e] at ok
  intro v H' ρ' f' di r'
  obtain ⟨τ2,ρ2,G2,d2,dW,r2,bD⟩:=ok v H' ρ' f' di r'
  exact bD v H' ρ2 .refl dW.hp r2
theorem Ab.set (ab:Ab K mg σ H τ ρ G) (r:Rep K mg ρ H d v):Ab K mg (σ.set i (some v)) H (τ.set i (some d)) ρ G:=⟨ab.st.set r,ab.hp⟩
theorem Q6 {pos':Pos} (hN:X.N.Nodup) (he:QE X EE a ma) (hi:X.N[i]?=some x:=by rfl) (hx:Loc X.env.scope x:=by first | exact Or.inl rfl | exact Or.inr rfl)
  (hs:swapsWith a (some (.Name x pos')) pos.line X.env=pure false:=by rfl) (hf:X.fn x=true∨X.env.scope.names.lookup x=some .local:=by first | exact .inl rfl | exact .inr rfl | assumption) :
  QS X EE (.Assign [.Name x pos'] a pos) (bP i ma):=PS.mono (P8 hN hi hx he hs hf) λD σ H h=>by
 obtain ⟨τ,ρ,G,ab,ok⟩:=zy (k:=λτ d G=>.nx (τ.set i (some d)) G) h
 refine ⟨τ,ρ,G,ab,?_⟩
 cases e:ma τ G with
 | stuck=>rw [e] at ok;exact ok
 | dU c G'=>rw [e] at ok;exact ok
 | ok d G'=>
  rw [e] at ok
  intro v H' ρ' f' di r'
  obtain ⟨τ2,ρ2,G2,d2,dW,r2,bD⟩:=ok v H' ρ' f' di r'
  exact bD _ H' ρ2 .refl (dW.set r2)
theorem gh (hc:QT X EE c tc) (ha:FF X EE body ms) (hb:FF X EE els mt):QS X EE (.If c body els pos) (p8 tc ms mt):=PS.mono (To hc ha hb) λD σ H h=>by
 obtain ⟨τ,ρ,G,ab,ok⟩:=Kg (k:=λτ c G=>if c then ms τ G else mt τ G) h
 refine ⟨τ,ρ,G,ab,?_⟩
 cases e:tc τ G with
 | stuck=>rw [e] at ok;exact ok
 | dU c G'=>rw [e] at ok;exact ok
 | ok k G'=>
  rw [e] at ok
  intro H' ρ' f' di
  obtain ⟨τ2,ρ2,G2,dW,bD⟩:=ok H' ρ' f' di
  cases k with
  | true=>exact ⟨τ2,ρ2,G2,dW,bD⟩
  | false=>exact ⟨τ2,ρ2,G2,dW,bD⟩
noncomputable abbrev tK:=D→DS→Option DS
noncomputable def DU (K:PySem.W.Frag) (mg:Str→Option Value) (g:tK):TG:=λv σ H Q=>∃ τ ρ G d τ',Ab K mg σ H τ ρ G∧Rep K mg ρ H d v∧g d τ=some τ'∧∀ σ',Ab K mg σ' H τ' ρ G→Q σ' H
noncomputable def QG (X:Cx) (e:Expr) (g:tK):Prop:=PG X e (DU X.K X.mg g)
noncomputable def gN (i:Nat):tK:=λd τ=>some (τ.set i (some d))
theorem NC (hN:X.N.Nodup) (hi:X.N[i]?=some x:=by rfl) (hx:Loc X.env.scope x:=by first | exact Or.inl rfl | exact Or.inr rfl) (hf:X.fn x=true∨X.env.scope.names.lookup x=some .local:=by first | exact .inl rfl | exact .inr rfl | assumption) :
  QG X (.Name x pos) (gN i):=λpins s σ H v u Q I r ⟨τ,ρ,G,d,τ',ab,rd,e,q⟩=>Cg hN hi hx hf pins s σ H v u Q I r (by
 cases e
 exact q _ (ab.set rd))
noncomputable def fE (g:tK) (body:MS):List D→MS
 | [],τ,G=>.nx τ G
 | d::r,τ,G=>match g d τ with
  | none=>.stuck
  | some τ1=>match body τ1 G with
   | .nx τ' G'=>fE g body r τ' G'
   | .ct τ' G'=>fE g body r τ' G'
   | .bk τ' G'=>.nx τ' G'
   | x=>x
noncomputable def Cu (g:tK) (body:MS) (n:Nat):Nat→Nat→MS
 | 0,_,_,_=>.stuck
 | f+1,k,τ,G=>match G[n]? with
  | some (.lst xs)=>match xs[k]? with
   | none=>.nx τ G
   | some d=>match g d τ with
    | none=>.stuck
    | some τ1=>match body τ1 G with
     | .nx τ' G'=>Cu g body n f (k+1) τ' G'
     | .ct τ' G'=>Cu g body n f (k+1) τ' G'
     | .bk τ' G'=>.nx τ' G'
     | x=>x
  | _=>.stuck
end
variable {g:tK}
noncomputable def ND (z:Str):It:=⟨λi _=>i<z.cps.size,λi H x H'=>H'=H∧∃ c,z.cps[i]?=some c∧x=.str ⟨#[c]⟩,λi _=>z.cps.size≤i⟩
theorem Ks (z:Str) (t:Tok) (it:Addr):Turn P w K tg (ND z) [it] it (λi h=>h.IsStrIter it (strIterType z) z t i) where
 mem:=by simp
 obj:=λi h st b hb=>by
  have e:b=it:=by simpa using hb
  subst e
  obtain ⟨o,e,c,d⟩:=st
  exact ⟨o,e,λv z=>by rw [d] at z;cases z⟩
 keep:=λi h h' st k=>by
  obtain ⟨o,e,r⟩:=st
  exact ⟨o,k it (by simp) o e,r⟩
 item:=by
  intro X hP hw hK hc i pins s σ H E I hf st hg
  subst hP hw hK
  obtain ⟨f0,f1,f2,f3,f4,f5⟩:=hf it (by simp)
  have hx:z.cps[i]?=some z.cps[i]:=Array.getElem?_eq_getElem hg
  have fin:∀ h',h'.IsStrIter it (strIterType z) z t (i+1)→Heap.SameBut it s.heap h'→∃ u,some (Value.str ⟨#[z.cps[i]]⟩ s.toks)=some u ∧
   wpAny (model X.prog X.w) X.A (letOwnedTupleGo tg (.ref it) u) (λ_ s2=>∃ x H',Inv X pins σ H' s2∧RelV x u∧(ND z).Bp i H x H'∧s2.heap.IsStrIter it (strIterType z) z t (i+1)∧∀ b∈[it],H' b=none) E {s with heap:=h',toks:=s.toks+1}:=λh' st' sb=>by
   have I1:Inv X pins σ H {s with heap:=h',toks:=s.toks+1}:=I.turned (t':=s.toks+1) (λb o hb e=>(sb.2 b hb).trans e) f0 f1 f3 f4 f5
   obtain ⟨o,e,c,d⟩:=id st'
   refine ⟨_,rfl,Bq (s:={s with heap:=h',toks:=s.toks+1}) e c d ?_ ⟨.str ⟨#[z.cps[i]]⟩,H,I1,⟨_,rfl⟩,⟨rfl,_,hx,rfl⟩,st',λb hb=>(hf b hb).1⟩⟩
   unfold strIterType
   split<;>decide
  cases ha:z.cps.all (·<128) with
  | true=>
   have e:strIterType z="str_ascii_iterator":=by unfold strIterType;rw [ha];rfl
   rw [e] at st fin
   exact wpAny_pyNext_ascii_item st hx λh' st' sb=>by rw [e];exact fin h' st' sb
  | false=>
   have e:strIterType z="str_iterator":=by unfold strIterType;rw [ha];rfl
   rw [e] at st fin
   exact wpAny_pyNext_wide_item st hx λh' st' sb=>by rw [e];exact fin h' st' sb
 done:=by
  intro X hP hw hK hc i pins s σ H E I hf st hg
  subst hP hw hK
  obtain ⟨f0,f1,f2,f3,f4,f5⟩:=hf it (by simp)
  have hx:z.cps[i]?=none:=Array.getElem?_eq_none hg
  have fin:∀ h',Heap.ExtBut it s.heap h'→(none:Option Value)=none∧Inv X pins σ H {s with heap:=h'}:=λh' eb=>⟨rfl,I.turned (t':=s.toks) (λb o hb e=>eb b o hb e) f0 f1 f3 f4 f5⟩
  cases ha:z.cps.all (·<128) with
  | true=>
   have e:strIterType z="str_ascii_iterator":=by unfold strIterType;rw [ha];rfl
   rw [e] at st
   exact wpAny_pyNext_ascii_end (I.ok.hd hc) st hx fin
  | false=>
   have e:strIterType z="str_iterator":=by unfold strIterType;rw [ha];rfl
   rw [e] at st
   exact wpAny_pyNext_wide_end (I.ok.hd hc) st hx fin
 self:=λA i s Q E st h=>by
  cases ha:z.cps.all (·<128) with
  | true=>
   have e:strIterType z="str_ascii_iterator":=by unfold strIterType;rw [ha];rfl
   rw [e] at st
   exact wpAny_pyIter_striter_ascii st h
  | false=>
   have e:strIterType z="str_iterator":=by unfold strIterType;rw [ha];rfl
   rw [e] at st
   exact wpAny_pyIter_striter_wide st h
section
variable {X:Cx} {EE:gA} {a b c tg:Expr} {ma mb mc:DS→M D} {pos:Pos} {ms mt:MS}
noncomputable def xh (g:tK) (m:DS→M D) (body:MS):MS:=λτ=>fM (m τ) (λd G=>match d with
 | .obj n=>match G[n]? with
  | some (.lst xs)=>Cu g body n (xs.length+1) 0 τ G
  | _=>.stuck
 | .tup xs=>fE g body xs τ G
 | .con xs=>fE g body xs τ G
 | .str z=>fE g body (z.cps.toList.map λc=>.str ⟨#[c]⟩) τ G
 | _=>.stuck) λc G=>.xn c τ G
theorem sY {g:tK} {body:MS} {Dd:Ends} {J:It} {H0:Hp} {σ0:L2.St} {ρ0:List Addr} {G0:DH} {τ0:DS} (ds:List D)
  (go:∀ i H ρ,i<ds.length→fh X.K H0 H ρ0 ρ→J.go i H) (stop:∀ i H ρ,ds.length≤i→fh X.K H0 H ρ0 ρ→J.stop i H)
  (Bp:∀ i d H ρ x H',ds[i]?=some d→fh X.K H0 H ρ0 ρ→J.Bp i H x H'→H'=H∧Rep X.K X.mg ρ H d x)
  (ab:Ab X.K X.mg σ0 H0 τ0 ρ0 G0) (ok:AR X.K X.mg EE H0 ρ0 Dd (fE g body ds τ0 G0)) :
  ∃ W:Nat→Nat→L2.St→Hp→Prop,(∃ m,W 0 m σ0 H0)∧∀ i m σ H,W i m σ H →
   (J.stop i H∧Dd.nx σ H)∨(J.go i H∧∃ N:L2.St→Hp→Prop,(∀ σ' H',N σ' H'→∃ m',m'<m∧W (i+1) m' σ' H')∧∀ x H',J.Bp i H x H'→DU X.K X.mg g x σ H' λσ2 H2=>jl X.K X.mg EE body {Dd with nx:=N,ct:=N,bk:=Dd.nx} σ2 H2):=by
 refine ⟨λi m σ H=>i≤ds.length∧m=ds.length - i∧∃ τ ρ G,Ab X.K X.mg σ H τ ρ G∧fh X.K H0 H ρ0 ρ∧AR X.K X.mg EE H ρ Dd (fE g body (ds.drop i) τ G),⟨ds.length,Nat.zero_le _,rfl,τ0,ρ0,G0,ab,.refl,by simpa using ok⟩,?_⟩
 rintro i m σ H ⟨hi,rfl,τ,ρ,G,ab,f,ok⟩
 by_cases hlt:i<ds.length
 ·refine .inr ⟨go i H ρ hlt f,λσ' H'=>∃ τ' ρ' G',Ab X.K X.mg σ' H' τ' ρ' G'∧fh X.K H0 H' ρ0 ρ'∧AR X.K X.mg EE H' ρ' Dd (fE g body (ds.drop (i+1)) τ' G'),λσ' H' n=>⟨ds.length - (i+1),by nofun,hlt,rfl,n⟩,λx H' y=>?_⟩
  obtain ⟨rfl,rx⟩:=Bp i ds[i] H ρ x H' (List.getElem?_eq_getElem hlt) f y
  rw [List.drop_eq_getElem_cons hlt] at ok
  unfold fE at ok
  cases e:g ds[i] τ with
  | none=>rw [e] at ok;exact ok.elim
  | some τ1=>
   rw [e] at ok
   dsimp only at ok
   refine ⟨τ,ρ,G,ds[i],τ1,ab,rx,e,λσ' di=>⟨τ1,ρ,G,di,?_⟩⟩
   cases eb:body τ1 G with
   | stuck=>rw [eb] at ok;exact ok
   | nx τ2 G2=>rw [eb] at ok;exact λσ2 H2 ρ2 f2 dW=>⟨τ2,ρ2,G2,dW,f.trans f2,ok.fut f2⟩
   | ct τ2 G2=>rw [eb] at ok;exact λσ2 H2 ρ2 f2 dW=>⟨τ2,ρ2,G2,dW,f.trans f2,ok.fut f2⟩
   | bk τ2 G2=>rw [eb] at ok;exact ok
   | rt d G2=>rw [eb] at ok;exact ok
   | xn c τ2 G2=>rw [eb] at ok;exact ok
 ·have e:i=ds.length:=by nofun
  subst e
  refine .inl ⟨stop _ H ρ (Nat.le_refl _) f,?_⟩
  rw [List.drop_eq_nil_of_le (Nat.le_refl _)] at ok
  exact ok σ H ρ .refl ab
theorem NF {g:tK} {body:MS} {Dd:Ends} {H0:Hp} {σ0:L2.St} {G0:DH} {τ0:DS} {fuel:Nat} (hn:ρ0[n]?=some p)
  (ab:Ab X.K X.mg σ0 H0 τ0 ρ0 G0) (ok:AR X.K X.mg EE H0 ρ0 Dd (Cu g body n fuel 0 τ0 G0)) :
  ∃ W:Nat→Nat→L2.St→Hp→Prop,(∃ m,W 0 m σ0 H0)∧∀ i m σ H,W i m σ H →
   ((MH X.K p).stop i H∧Dd.nx σ H)∨((MH X.K p).go i H∧∃ N:L2.St→Hp→Prop,(∀ σ' H',N σ' H'→∃ m',m'<m∧W (i+1) m' σ' H')∧∀ x H',(MH X.K p).Bp i H x H'→DU X.K X.mg g x σ H' λσ2 H2=>jl X.K X.mg EE body {Dd with nx:=N,ct:=N,bk:=Dd.nx} σ2 H2):=by
 refine ⟨λi m σ H=>∃ τ ρ G,Ab X.K X.mg σ H τ ρ G∧fh X.K H0 H ρ0 ρ∧AR X.K X.mg EE H ρ Dd (Cu g body n m i τ G),⟨fuel,τ0,ρ0,G0,ab,.refl,ok⟩,?_⟩
 rintro i m σ H ⟨τ,ρ,G,ab,f,ok⟩
 cases m with
 | zero=>exact ok.elim
 | succ m=>
  unfold Cu at ok
  cases q:G[n]? with
  | none=>rw [q] at ok;exact ok.elim
  | some o=>
   cases o with
   | lst ds=>
    rw [q] at ok
    dsimp only at ok
    obtain ⟨p',xs,e1,e2,rs⟩:=ab.hp.lst q
    rw [f.get hn] at e1;cases e1
    cases qd:ds[i]? with
    | none=>
     rw [qd] at ok
     have hl:xs.length≤i:=by rw [← rs.length];exact List.getElem?_eq_none_iff.mp qd
     exact .inl ⟨⟨xs,.of e2,hl⟩,ok σ H ρ .refl ab⟩
    | some d=>
     rw [qd] at ok
     dsimp only at ok
     obtain ⟨x0,ex,rx⟩:=rs.get qd
     refine .inr ⟨⟨xs,x0,.of e2,ex⟩,λσ' H'=>∃ τ' ρ' G',Ab X.K X.mg σ' H' τ' ρ' G'∧fh X.K H0 H' ρ0 ρ'∧AR X.K X.mg EE H' ρ' Dd (Cu g body n m (i+1) τ' G'),λσ' H' z=>⟨m,Nat.lt_succ_self _,z⟩,λx H' y=>?_⟩
     obtain ⟨rfl,y⟩:=y
     have e3:=y xs (.of e2)
     rw [ex] at e3;cases e3
     cases e:g d τ with
     | none=>rw [e] at ok;exact ok.elim
     | some τ1=>
      rw [e] at ok
      dsimp only at ok
      refine ⟨τ,ρ,G,d,τ1,ab,rx,e,λσ' di=>⟨τ1,ρ,G,di,?_⟩⟩
      cases eb:body τ1 G with
      | stuck=>rw [eb] at ok;exact ok
      | nx τ2 G2=>rw [eb] at ok;exact λσ2 H2 ρ2 f2 dW=>⟨τ2,ρ2,G2,dW,f.trans f2,ok.fut f2⟩
      | ct τ2 G2=>rw [eb] at ok;exact λσ2 H2 ρ2 f2 dW=>⟨τ2,ρ2,G2,dW,f.trans f2,ok.fut f2⟩
      | bk τ2 G2=>rw [eb] at ok;exact ok
      | rt d G2=>rw [eb] at ok;exact ok
      | xn c τ2 G2=>rw [eb] at ok;exact ok
   | _=>first | (rw [q] at ok;exact ok.elim) | (rw [q] at bD;exact bD.elim) | (rw [q] at e;cases e;done) | (rw [g] at ok;exact ok.elim) | (rw [g] at q;cases q;done) | (rw [g] at h;cases h;done) | (rw [g2] at ok;exact ok.elim) | (rw [g1,g2] at ok;exact ok.elim) | (rw [q1] at ok;exact ok.elim) | exact ok.elim
theorem PI.any {l:Expr} {tl:TE} (hl:PE X l tl):PI X tg l (λσ H R=>tl σ H λx H1=>(∃ p,x=.ref p∧(∃ xs,q8 X.K H1 p xs)∧R (MH X.K p) H1)∨(∃ p,x=.ref p∧(∃ xs,rG X.K H1 p xs)∧R (Wu X.K p) H1)∨∃ z,x=.str z∧R (ND z) H1):=by
 intro pins s σ H R I h
 refine gw (hl pins s σ H _ I h) λu s1 zz=>?_
 obtain ⟨x,H1,I1,r1,q⟩:=zz
 rcases q with ⟨p,rfl,⟨xs,sq⟩,q⟩ | ⟨p,rfl,⟨xs,sq⟩,q⟩ | ⟨z,rfl,q⟩
 ·cases r1
  obtain ⟨its,rv,pl,hz⟩:=I1.list sq
  refine wpAny_pyIter_list pl.isList ?_
  have I2:Inv X pins σ H1 {s1 with heap:=s1.heap.push {cls:=.type "list_iterator",data:=.fields #[.ref p,.int 0 0]}}:=I1.kept (t':=s1.toks) λb o e=>Heap.get?_push_of_some _ e
  refine ⟨s1.heap.objs.size,[s1.heap.objs.size],_,MH X.K p,H1,rfl,I2,Iw p _,⟨_,Heap.get?_push_size _ rfl,rfl,rfl⟩,λb hb=>?_,q⟩
  have e:b=s1.heap.objs.size:=by simpa using hb
  subst e
  exact I1.uZ (Nat.le_refl _) (I1.hok.fresh (Nat.le_refl _))
 ·cases r1
  obtain ⟨its,rv,pl,hz⟩:=I1.tuple sq
  refine wpAny_pyIter_tuple pl ?_
  have I2:Inv X pins σ H1 {s1 with heap:=s1.heap.push {cls:=.type "tuple_iterator",data:=.fields #[.ref p,.int 0 0]}}:=I1.kept (t':=s1.toks) λb o e=>Heap.get?_push_of_some _ e
  refine ⟨s1.heap.objs.size,[s1.heap.objs.size],_,Wu X.K p,H1,rfl,I2,Fj p _,⟨_,Heap.get?_push_size _ rfl,rfl,rfl⟩,λb hb=>?_,q⟩
  have e:b=s1.heap.objs.size:=by simpa using hb
  subst e
  exact I1.uZ (Nat.le_refl _) (I1.hok.fresh (Nat.le_refl _))
 ·obtain ⟨t,rfl⟩:=r1
  refine wpAny_pyIter_strU ?_
  have I2:Inv X pins σ H1 {s1 with heap:=s1.heap.push {cls:=.type (strIterType z),data:=.fields #[.str z t,.int 0 0]}}:=I1.kept (t':=s1.toks) λb o e=>Heap.get?_push_of_some _ e
  refine ⟨s1.heap.objs.size,[s1.heap.objs.size],_,ND z,H1,rfl,I2,Ks z t _,⟨_,Heap.get?_push_size _ rfl,rfl,rfl⟩,λb hb=>?_,q⟩
  have e:b=s1.heap.objs.size:=by simpa using hb
  subst e
  exact I1.uZ (Nat.le_refl _) (I1.hok.fresh (Nat.le_refl _))
theorem Q7 (hp:PassesOwn (model X.prog X.w) X.A X.env X.xe) (hc:X.calm=true) (ha:QE X EE a ma) (hg:QG X tg g) (hb:FF X EE body ms) (hs:∀ x,foldedSetIterable a X.env x=pure x:=by intro _;rfl) :
  QS X EE (.For tg a body [] pos) (xh g ma ms):=PS.mono (Fo hp hc (PI.any ha) hg hb hs) λDd σ H h=>by
 obtain ⟨τ,ρ,G,ab,ok⟩:=zy (k:=λτ d G=>match d with
  | .obj n=>match G[n]? with
   | some (.lst xs)=>Cu g ms n (xs.length+1) 0 τ G
   | _=>.stuck
  | .tup xs=>fE g ms xs τ G
  | .con xs=>fE g ms xs τ G
  | .str z=>fE g ms (z.cps.toList.map λc=>.str ⟨#[c]⟩) τ G
  | _=>.stuck) h
 refine ⟨τ,ρ,G,ab,?_⟩
 cases e:ma τ G with
 | stuck=>rw [e] at ok;exact ok
 | dU c G'=>rw [e] at ok;exact ok
 | ok d G'=>
  rw [e] at ok
  intro v H1 ρ1 f1 nB r1
  obtain ⟨τ2,ρ2,G2,d2,dW,r2,bD⟩:=ok v H1 ρ1 f1 nB r1
  cases d2<;>try exact bD.elim
  case obj n=>
   dsimp only at bD
   unfold Rep at r2
   obtain ⟨p,rfl,e1⟩:=r2
   cases q:G2[n]? with
   | none=>rw [q] at bD;exact bD.elim
   | some o=>
    cases o with
    | lst xs=>
     rw [q] at bD
     obtain ⟨p',vs,e2,h2,rs⟩:=dW.hp.lst q
     rw [e1] at e2;cases e2
     exact .inl ⟨p,rfl,⟨vs,.of h2⟩,NF e1 dW bD⟩
    | _=>first | (rw [q] at ok;exact ok.elim) | (rw [q] at bD;exact bD.elim) | (rw [q] at e;cases e;done) | (rw [g] at ok;exact ok.elim) | (rw [g] at q;cases q;done) | (rw [g] at h;cases h;done) | (rw [g2] at ok;exact ok.elim) | (rw [g1,g2] at ok;exact ok.elim) | (rw [q1] at ok;exact ok.elim) | exact ok.elim
  case tup xs=>
   unfold Rep at r2
   obtain ⟨p,vs,rfl,sq,rs⟩:=r2
   refine .inr (.inl ⟨p,rfl,⟨vs,sq⟩,sY xs (λi H' ρ' hi f=>?_) (λi H' ρ' hi f=>?_) (λi d' H' ρ' x Ub hd f y=>?_) dW bD⟩)
   ·rw [rs.length] at hi
    exact ⟨vs,vs[i],f.tup _ _ sq,List.getElem?_eq_getElem hi⟩
   ·exact ⟨vs,f.tup _ _ sq,by rw [← rs.length];exact hi⟩
   ·obtain ⟨rfl,y⟩:=y
    obtain ⟨w',ew,rw'⟩:=rs.get hd
    have:=y vs (f.tup _ _ sq)
    rw [ew] at this;cases this
    exact ⟨rfl,rw'.mono f⟩
  case con xs=>
   unfold Rep at r2
   obtain ⟨p,vs,rfl,sq,rs⟩:=r2
   refine .inl ⟨p,rfl,⟨vs,sq.seq⟩,sY xs (λi H' ρ' hi f=>?_) (λi H' ρ' hi f=>?_) (λi d' H' ρ' x Ub hd f y=>?_) dW bD⟩
   ·rw [rs.length] at hi
    exact ⟨vs,vs[i],(f.con _ _ sq).seq,List.getElem?_eq_getElem hi⟩
   ·exact ⟨vs,(f.con _ _ sq).seq,by rw [← rs.length];exact hi⟩
   ·obtain ⟨rfl,y⟩:=y
    obtain ⟨w',ew,rw'⟩:=rs.get hd
    have:=y vs (f.con _ _ sq).seq
    rw [ew] at this;cases this
    exact ⟨rfl,rw'.mono f⟩
  case str z=>
   unfold Rep at r2;subst r2
   refine .inr (.inr ⟨z,rfl,sY (z.cps.toList.map λc=>.str ⟨#[c]⟩) (λi H' ρ' hi f=>?_) (λi H' ρ' hi f=>?_) (λi d' H' ρ' x Ub hd f y=>?_) dW bD⟩)
   ·simpa [ND] using hi
   ·simpa [ND] using hi
   ·obtain ⟨rfl,c,hc,rfl⟩:=y
    rw [List.getElem?_map] at hd
    have:z.cps.toList[i]?=some c:=by simpa using hc
    rw [this] at hd
    cases hd
    exact ⟨rfl,by unfold Rep;rfl⟩
noncomputable def kL:List D→Option (List D)
 | [.int j]=>if -(2^62)≤j∧j<2^62 then some ((List.range j.toNat).map λ(k:Nat)=>.int (0+(k:Int))) else none
 | _=>none
noncomputable def lA (Iu:List D→Option (List D)) (g:tK) (m:DS→M (List D)) (body:MS):MS:=λτ=>fM (m τ) (λds G=>match Iu ds with
 | some xs=>fE g body xs τ G
 | none=>.stuck) λc G=>.xn c τ G
theorem Q8 {m:DS→M (List D)} {k:DS→List D→DH→Res} (h:jl K mg EE (λτ=>fM (m τ) (k τ) λc G=>.xn c τ G) Dd σ H) :
  ny K mg EE m σ H λx H1=>∃ τ ρ G d,Ab K mg σ H1 τ ρ G∧aC K mg ρ H1 d x∧AR K mg EE H1 ρ Dd (k τ d G):=by
 obtain ⟨τ,ρ,G,ab,ok⟩:=h
 refine ⟨τ,ρ,G,ab,?_⟩
 dsimp only [fM] at ok
 cases e:m τ G with
 | stuck=>rw [e] at ok;exact ok
 | dU c G'=>rw [e] at ok;exact λH' ρ' f di=>ok σ H' ρ' f di
 | ok d G'=>rw [e] at ok;exact λv H' ρ' f di r=>⟨τ,ρ',G',d,di,r,ok.fut f⟩
theorem IQ {body:MS} {τ0:DS} (lo:Int) (n:Nat) (ab:Ab X.K X.mg σ0 H0 τ0 ρ0 G0) (ok:AR X.K X.mg EE H0 ρ0 Dd (fE g body ((List.range n).map λ(k:Nat)=>.int (lo+(k:Int))) τ0 G0)) :
  ∃ W:Nat→Nat→L2.St→Hp→Prop,(∃ m,W 0 m σ0 H0)∧∀ i m σ H,W i m σ H →
   ((Ci lo n).stop i H∧Dd.nx σ H)∨((Ci lo n).go i H∧∃ N:L2.St→Hp→Prop,(∀ σ' H',N σ' H'→∃ m',m'<m∧W (i+1) m' σ' H')∧∀ x H',(Ci lo n).Bp i H x H'→DU X.K X.mg g x σ H' λσ2 H2=>jl X.K X.mg EE body {Dd with nx:=N,ct:=N,bk:=Dd.nx} σ2 H2):=
 sY (J:=Ci lo n) _ (λi H ρ hi f=>by simpa [Ci] using hi) (λi H ρ hi f=>by simpa [Ci] using hi) (λi d H ρ x H' hd f y=>by
  obtain ⟨rfl,rfl⟩:=y
  rw [List.getElem?_map] at hd
  cases q:(List.range n)[i]? with
  | none=>rw [q] at hd;cases hd
  | some k=>
   rw [q] at hd
   obtain ⟨hk,e⟩:=List.getElem?_eq_some_iff.mp q
   rw [List.getElem_range] at e
   subst e
   cases hd
   exact ⟨rfl,by unfold Rep;rfl⟩) ab ok
theorem Ku {m:DS→M (List D)} {p pc:Pos} (hp:PassesOwn (model X.prog X.w) X.A X.env X.xe) (hc:X.calm=true) (hm:X.mg "range"=none) (ha:QA X EE [a] m) (hg:QG X tg g) (hb:FF X EE body ms)
  (BE:Gl X "range":=by rfl) (hst:starEach [a] X.env=[(false,eval a X.env)]:=by rfl) (hs:∀ x,foldedSetIterable (.Call (.Name "range" p) [a] [] pc) X.env x=pure x:=by intro _;rfl) :
  QS X EE (.For tg (.Call (.Name "range" p) [a] [] pc) body [] pos) (lA kL g m ms):=PS.mono (Fo hp hc (Br BE hm ha hst) hg hb hs) λDd σ H h=>by
 obtain ⟨τ,ρ,G,ab,ok⟩:=Q8 (k:=λτ ds G=>match kL ds with | some xs=>fE g ms xs τ G | none=>.stuck) h
 refine ⟨τ,ρ,G,ab,?_⟩
 cases e:m τ G with
 | stuck=>rw [e] at ok;exact ok
 | dU c G'=>rw [e] at ok;exact ok
 | ok ds G'=>
  rw [e] at ok
  intro vs H1 ρ1 f1 nB r1
  obtain ⟨τ2,ρ2,G2,d2,dW,r2,bD⟩:=ok vs H1 ρ1 f1 nB r1
  cases q:kL d2 with
  | none=>rw [q] at bD;exact bD.elim
  | some xs=>
   rw [q] at bD
   unfold kL at q
   split at q
   ·rename_i j
    split at q
    ·rename_i hj
     cases q
     unfold aC at r2
     obtain ⟨v,r,rfl,h1,h2⟩:=r2
     unfold aC at h2;subst h2
     unfold Rep at h1;subst h1
     exact ⟨j,rfl,hj.1,hj.2,IQ 0 j.toNat dW bD⟩
    ·cases q
   ·cases q
end
noncomputable def OkC (K:PySem.W.Frag) (mg:Str→Option Value) (H:Hp) (ρ:List Addr):Out D→VK→XK→Prop
 | .stuck,_,_=>False
 | .ok d G',Q,_=>∀ v H' ρ',fh K H H' ρ ρ'→jR K mg H' ρ' G'→Rep K mg ρ' H' d v→Q v H'
 | .dU c G',_,E=>∀ cls H' ρ',(match c with | .mk n _=>mg n=some cls)→fh K H H' ρ ρ'→jR K mg H' ρ' G'→E cls none H'
noncomputable def bJ (K:PySem.W.Frag) (mg:Str→Option Value) (n:Nat) (m:List D→M D):Sp:=λvs H Q E=>∃ ds ρ G,ds.length=n∧jR K mg H ρ G∧aC K mg ρ H ds vs∧OkC K mg H ρ (m ds G) Q E
theorem bJ.len {m:List D→M D} {Q:VK} {E:XK} (h:bJ K mg n m vs H Q E):vs.length=n:=by
 obtain ⟨ds,ρ,G,e,_,r,_⟩:=h
 rw [← r.length,e]
noncomputable def Uc (mg:Str→Option Value) (EE:gA) (σ:L2.St):XK:=λcls _ H'=>∃ c,(match c with | .mk n _=>mg n=some cls)∧EE c σ H'
noncomputable def OR (CX:yE) (X:Cx) (EE:gA):Prop:=∀ (pins:List (Addr×Obj)) (σ:L2.St) (H:Hp) (s:Shared) (e:Value) (s':Shared),Inv X pins σ H s→CX X.stack H s (Uc X.mg EE σ) e s'→X.xe e s'
section
variable {X:Cx} {CX:yE} {EE:gA} {k n:Nat} {f:Addr} {fd:FuncData} {ps:List Str} {mf:List D→M D} {x:Str} {p pos:Pos} {e:Expr} {es:List Expr} {m:DS→M (List D)}
theorem jR.ab {K:PySem.W.Frag} {mg:Str→Option Value} {σ:L2.St} {H H':Hp} {τ:DS} {ρ ρ':List Addr} {G G':DH} (ab:Ab K mg σ H τ ρ G) (f:fh K H H' ρ ρ') (h:jR K mg H' ρ' G'):Ab K mg σ H' τ ρ' G':=⟨ab.st.mono f,h⟩
theorem Cv {pins:List (Addr×Obj)} {σ:L2.St} {H:Hp} {s:Shared} {Q:VK} {us:List Value} {vs:List V} {τ:DS} {ρ:List Addr} {G:DH} {ds:List D} (F:bV X.prog X.w X.K X.mg X.base CX k f fd ps (bJ X.K X.mg n mf)) (hr:iH k X.A) (hb:Binds X.K fd ps [])
  (hx:OR CX X EE) (I:Inv X pins σ H s) (r:Vals vs us) (ab:Ab X.K X.mg σ H τ ρ G) (rs:aC X.K X.mg ρ H ds vs) (hn:ds.length=n) (ok:pA X.K X.mg EE H σ τ ρ (mf ds G) Q):wpAny (model X.prog X.w) X.A (call (.ref f) us) (EP X pins σ Q) X.xe s:=by
 have h:bJ X.K X.mg n mf vs H Q (Uc X.mg EE σ):=by
  refine ⟨ds,ρ,G,hn,ab.hp,rs,?_⟩
  cases q:mf ds G with
  | stuck=>rw [q] at ok;exact ok
  | ok d G'=>rw [q] at ok;exact λv H' ρ' f hp r=>ok v H' ρ' f (jR.ab ab f hp) r
  | dU c G'=>rw [q] at ok;exact λcls H' ρ' hc f hp=>⟨c,hc,ok H' ρ' f (jR.ab ab f hp)⟩
 have hl:(us++[]).length=ps.length:=by rw [List.append_nil,← r.length];exact F.len _ _ _ _ h
 have WC:=hb s us I.Ff hl
 rw [List.append_nil] at WC
 refine wpAny_call (codeAny_mono (F.run X.A X.stack s H ⟨us,[]⟩ us vs Q (Uc X.mg EE σ) hr I.lK I.os.2 WC r h) λr s' hq=>?_)
 cases r with
 | error e=>exact hx pins σ H s e s' I hq
 | ok fl=>
  cases fl with
  | ret u=>exact I.after hq
  | next=>exact False.elim hq
  | brk=>exact False.elim hq
  | cont=>exact False.elim hq
noncomputable def bL (n:Nat) (mf:List D→M D) (m:DS→M (List D)):DS→M D:=au (λds=>if ds.length=n then mf ds else M.stop) m
theorem NG (F:bV X.prog X.w X.K X.mg X.base CX k f fd ps (bJ X.K X.mg n mf)) (hr:iH k X.A) (hm:X.mg x=some (.ref f)) (hk:PySem.W.keepIn X.K (.ref f)=true) (hb:Binds X.K fd ps []) (hx:OR CX X EE)
  (ha:QA X EE (e::es) m) (hg:Gl X x:=by rfl) (hdb:(x==("__debug__":Str))=false:=by decide) (he:starEach (e::es) X.env=(false,eval e X.env)::starEach es X.env:=by rfl) (hpl:(backTo pos (starEach es X.env)).any (·.1)=false:=by rfl) :
  QE X EE (.Call (.Name x p) (e::es) [] pos) (bL n mf m):=by
 intro pins s σ H Q I h
 obtain ⟨τ,ρ,G,ab,ok⟩:=pZ (k:=λ_ ds=>if ds.length=n then mf ds else M.stop) h
 refine wpAny_Call_Name_kw (GP I hg hm ?_ hdb)
 refine PySem.W.callWith_K (h₀:=X.base) I.ok.mod.MM hk (gw (ha pos pins s σ H _ I ⟨τ,ρ,G,ab,ok⟩) λus s1 ⟨vs,H1,I1,r,q⟩=>⟨I1.Ff,?_⟩) he hpl
 obtain ⟨τ1,ρ1,G1,ds,nB,rs,JL⟩:=q
 by_cases hn:ds.length=n
 ·rw [if_pos hn] at JL
  exact Cv F hr hb hx I1 r nB rs hn JL
 ·rw [if_neg hn] at JL
  exact JL.elim
end
noncomputable def dR (N:Nat) (ms:MS) (ds:List D):M D:=λG=>match ms (ds.map some++List.replicate (N - ds.length) none) G with
 | .stuck=>.stuck
 | .nx _ G'=>.ok .i9 G'
 | .rt d G'=>.ok d G'
 | .bk _ _=>.stuck
 | .ct _ _=>.stuck
 | .xn c _ G'=>.dU c G'
theorem p9 (r:aC K mg ρ H ds vs):zx K mg H ρ (L2.start N vs) (ds.map some++List.replicate (N.length - ds.length) none):=by
 have hl:=r.length
 refine ⟨by unfold L2.start;simp [hl],λi d e=>?_⟩
 have hi:i<ds.length:=by
  by_cases hi:i<ds.length
  ·exact hi
  ·rw [List.getElem?_append_right (by simpa using hi),List.getElem?_replicate] at e
   split at e<;>cases e
 rw [List.getElem?_append_left (by simpa using hi),List.getElem?_map] at e
 cases q:ds[i]? with
 | none=>rw [q] at e;cases e
 | some d'=>
  rw [q] at e;cases e
  obtain ⟨v,e1,r1⟩:=r.get q
  refine ⟨v,?_,r1⟩
  unfold L2.start
  rw [List.getElem?_append_left (by simp;nofun),List.getElem?_map,e1]
  rfl
section
variable {X:Cx} {EE:gA} {a b c:Expr} {ma mb mc:DS→M D} {pos:Pos}
noncomputable def JM (X:Cx) (EE:gA) (f:List D→M D):List V→Hp→VK→Prop:=λxs H Q=>∃ σ τ ρ G ds,Ab X.K X.mg σ H τ ρ G∧aC X.K X.mg ρ H ds xs∧pA X.K X.mg EE H σ τ ρ (f ds G) Q
theorem zK {f:List D→M D}:CallD X EE (JM X EE f) f:=λσ H τ ρ G xs ds Q ab r ok=>⟨σ,τ,ρ,G,ds,ab,r,ok⟩
theorem jU {xs:List V} (r:aC K mg ρ H [d] xs):∃ x,xs=[x]∧Rep K mg ρ H d x:=by
 unfold aC at r
 obtain ⟨v,r',rfl,h1,h2⟩:=r
 unfold aC at h2;subst h2
 exact ⟨v,rfl,h1⟩
theorem Kv {e:D} {xs:List V} (r:aC K mg ρ H [d,e] xs):∃ x y,xs=[x,y]∧Rep K mg ρ H d x∧Rep K mg ρ H e y:=by
 unfold aC at r
 obtain ⟨v,r',rfl,h1,h2⟩:=r
 obtain ⟨y,rfl,h3⟩:=jU h2
 exact ⟨v,y,rfl,h1,h3⟩
noncomputable def gj:List D→M D
 | [d]=>λG=>match bw G d with
  | some (.lst xs)=>.ok (.int xs.length) G
  | some (.tup xs)=>.ok (.int xs.length) G
  | some (.str z)=>if z.length≤sizeLine then .ok (.int z.length) G else .stuck
  | none=>.stuck
 | _=>M.stop
theorem IS:jb X (.builtin "len") (JM X EE gj):=by
 intro pins s σ0 H xs us Q I r ⟨σ,τ,ρ,G,ds,ab,rs,ok⟩
 match ds,ok with
 | [],ok=>exact ok.elim
 | _::_::_,ok=>exact ok.elim
 | [d],ok=>
  obtain ⟨x,rfl,rx⟩:=jU rs
  dsimp only [gj] at ok
  cases q:bw G d with
  | none=>rw [q] at ok;exact ok.elim
  | some sk=>
   rw [q] at ok
   cases sk with
   | lst zs=>
    obtain ⟨p,vs,rfl,sq,rv⟩:=dm (pins:=pins) (σ0:=σ0) (s:=s) ab.hp rx q
    exact u7 pins s σ0 H _ us Q I r ⟨p,vs,rfl,.inl sq,ok _ H ρ .refl ab (by unfold Rep;rw [rv.length])⟩
   | tup zs=>
    obtain ⟨p,vs,rfl,sq,rv⟩:=iV rx q
    exact u7 pins s σ0 H _ us Q I r ⟨p,vs,rfl,.inr sq,ok _ H ρ .refl ab (by unfold Rep;rw [rv.length])⟩
   | str z=>
    obtain ⟨rfl,rfl⟩:=sW rx q
    dsimp only at ok
    by_cases hz:z.length≤sizeLine
    ·rw [if_pos hz] at ok
     exact Co pins s σ0 H _ us Q I r ⟨z,rfl,hz,ok _ H ρ .refl ab (by unfold Rep;rfl)⟩
    ·rw [if_neg hz] at ok;exact ok.elim
inductive Ty where
 | i9 | bl | int | str | tup | lst | dct
 deriving DecidableEq
noncomputable def Ty.nm:Ty→String
 | .i9=>"NoneType" | .bl=>"bool" | .int=>"int" | .str=>"str" | .tup=>"tuple" | .lst=>"list" | .dct=>"dict"
noncomputable def WD (G:DH):D→Option Ty
 | .i9=>some .i9
 | .bl _=>some .bl
 | .int _=>some .int
 | .str _=>some .str
 | .tup _=>some .tup
 | .con _=>some .lst
 | .obj n=>match G[n]? with
  | some (.lst _)=>some .lst
  | _=>none
 | .fn _=>none
 | .DK _ _=>none
 | .pY _ _=>none
noncomputable def Ty.is (t c:Ty):Bool:=decide (t=c)||(decide (t=.bl)&&decide (c=.int))
theorem uB (K:PySem.W.Frag):∀ (t c:Ty),c≠.i9→PySem.W.kitOne K (.type t.nm) (.type c.nm)=some (t.is c):=by
 intro t c h
 cases t<;>cases c<;>first | exact absurd rfl h | rfl | (with_unfolding_all rfl) | symm
noncomputable def DV (c:Ty) (d:D):M D:=λG=>match WD G d with
 | some t=>.ok (.bl (t.is c)) G
 | none=>.stuck
noncomputable def Cw (c:Ty) (m:DS→M D):DS→M D:=λτ=>(m τ).bind (DV c)
theorem NH {c:Ty} (hc:c≠.i9) {pins:List (Addr×Obj)} {s:Shared} {σ0 σ:L2.St} {H:Hp} {τ:DS} {ρ:List Addr} {G:DH} {d:D} {x:V} {u:Value} {Q:VK} (I:Inv X pins σ0 H s) (ab:Ab X.K X.mg σ H τ ρ G) (rx:Rep X.K X.mg ρ H d x) (ru:RelV x u)
  (ok:pA X.K X.mg EE H σ τ ρ (DV c d G) Q):wpAny (model X.prog X.w) X.A (call (.builtin "isinstance") [u,.type c.nm]) (EP X pins σ0 Q) X.xe s:=by
 dsimp only [DV] at ok
 refine nt I.os.2 ?_
 have fin:∀ {b:Bool},Q (.bl b) H→∀ tk,0<tk→EP X pins σ0 Q (.bool b) {s with toks:=tk}:=λq tk ht=>⟨.bl _,H,I.tok tk,rfl,q⟩
 cases d with
 | i9=>
  have q:=ok (.bl _) H ρ .refl ab (by unfold Rep;rfl)
  unfold Rep at rx;subst rx;cases ru
  exact PySem.W.kia_one PySem.W.kitx_none I.Ff True.intro (uB X.K .i9 c hc) (λz=>nomatch z) (fin q)
 | bl y=>
  have q:=ok (.bl _) H ρ .refl ab (by unfold Rep;rfl)
  unfold Rep at rx;subst rx;cases ru
  exact PySem.W.kia_one PySem.W.kitx_bool I.Ff True.intro (uB X.K .bl c hc) (λz=>nomatch z) (fin q)
 | int y=>
  have q:=ok (.bl _) H ρ .refl ab (by unfold Rep;rfl)
  unfold Rep at rx;subst rx;obtain ⟨t,rfl⟩:=ru
  exact PySem.W.kia_one PySem.W.kitx_int I.Ff True.intro (uB X.K .int c hc) (λz=>nomatch z) (fin q)
 | str y=>
  have q:=ok (.bl _) H ρ .refl ab (by unfold Rep;rfl)
  unfold Rep at rx;subst rx;obtain ⟨t,rfl⟩:=ru
  exact PySem.W.kia_one PySem.W.kitx_str I.Ff True.intro (uB X.K .str c hc) (λz=>nomatch z) (fin q)
 | tup ys=>
  have q:=ok (.bl _) H ρ .refl ab (by unfold Rep;rfl)
  unfold Rep at rx
  obtain ⟨p,vs,rfl,sq,_⟩:=rx
  cases ru
  obtain ⟨its,_,⟨o,h1,h2,_⟩,_⟩:=I.tuple sq
  exact PySem.W.kia_one PySem.W.kitx_tuple I.Ff ⟨o,h1,h2⟩ (uB X.K .tup c hc) (λz=>nomatch z) (fin q)
 | con ys=>
  have q:=ok (.bl _) H ρ .refl ab (by unfold Rep;rfl)
  unfold Rep at rx
  obtain ⟨p,vs,rfl,sq,_⟩:=rx
  cases ru
  obtain ⟨its,_,⟨o,k,h1,h2,_⟩,_⟩:=I.list sq.seq
  exact PySem.W.kia_one PySem.W.kitx_list I.Ff ⟨o,h1,h2⟩ (uB X.K .lst c hc) (λz=>nomatch z) (fin q)
 | obj n=>
  unfold Rep at rx
  obtain ⟨p,rfl,e1⟩:=rx
  cases ru
  dsimp only [WD] at ok
  cases g:G[n]? with
  | none=>rw [g] at ok;exact ok.elim
  | some o=>
   cases o with
   | lst ys=>
    rw [g] at ok
    have q:=ok (.bl _) H ρ .refl ab (by unfold Rep;rfl)
    obtain ⟨p',vs,e2,hp,_⟩:=ab.hp.lst g
    rw [e1] at e2;cases e2
    obtain ⟨its,_,⟨o,k,h1,h2,_⟩,_⟩:=I.list (.of hp)
    exact PySem.W.kia_one PySem.W.kitx_list I.Ff ⟨o,h1,h2⟩ (uB X.K .lst c hc) (λz=>nomatch z) (fin q)
   | _=>first | (rw [q] at ok;exact ok.elim) | (rw [q] at bD;exact bD.elim) | (rw [q] at e;cases e;done) | (rw [g] at ok;exact ok.elim) | (rw [g] at q;cases q;done) | (rw [g] at h;cases h;done) | (rw [g2] at ok;exact ok.elim) | (rw [g1,g2] at ok;exact ok.elim) | (rw [q1] at ok;exact ok.elim) | exact ok.elim
 | DK _ _=>exact ok.elim
 | pY y0 c0=>exact ok.elim
 | fn x=>exact ok.elim
theorem Q9 (c:Ty) {p pt:Pos} {x:Str} (hc:c≠.i9) (hm:X.mg "isinstance"=none) (hmt:X.mg x=none) (ha:QE X EE a ma) (hb:bootBuiltins x=some (.type c.nm))
  (hg:Gl X "isinstance":=by rfl) (hgt:Gl X x:=by rfl) (hnt:x≠"__name__":=by decide) (hdt:(x==("__debug__":Str))=false:=by decide)
  (he:starEach [a,.Name x pt] X.env=(false,eval a X.env)::starEach [.Name x pt] X.env:=by rfl) (he2:starEach [.Name x pt] X.env=(false,eval (.Name x pt) X.env)::starEach [] X.env:=by rfl) (hpl:(backTo pos (starEach [.Name x pt] X.env)).any (·.1)=false:=by rfl)
  (hbi:bootBuiltins "isinstance"=some (.builtin "isinstance"):=by first | exact PyProof.Rows.boot_isinstance | symm) :
  QE X EE (.Call (.Name "isinstance" p) [a,.Name x pt] [] pos) (Cw c ma):=by
 have hT:PE X (.Name x pt) (tC (.ty c.nm)):=MQ hgt hmt hb rfl hnt hdt
 have hA:PA X [a,.Name x pt] (GR (cS X.K X.mg EE ma) (GR (tC (.ty c.nm)) M4)):=Cj ha (Cj hT Fx he2) he
 intro pins s σ H Q I h
 obtain ⟨τ,ρ,G,ab,ok⟩:=rX (k:=λ_ d=>DV c d) h
 refine wpAny_Call_Name_kw (iy I hg hm hbi ?_ (by decide) (by decide))
 refine PyProof.Rows.callWith_builtin1 (gw (hA pos pins s σ H (λvs H1=>∃ x,vs=[x,.ty c.nm]∧∃ τ ρ G d,Ab X.K X.mg σ H1 τ ρ G∧Rep X.K X.mg ρ H1 d x∧pA X.K X.mg EE H1 σ τ ρ (DV c d G) Q) I ⟨τ,ρ,G,ab,?_⟩) λus s1 ⟨vs,H1,I1,r1,q1⟩=>?_) he hpl
 ·cases e:ma τ G with
  | stuck=>rw [e] at ok;exact ok
  | dU c G'=>rw [e] at ok;exact ok
  | ok d G'=>rw [e] at ok;exact λv H' ρ' f' di r'=>⟨v,rfl,ok v H' ρ' f' di r'⟩
 ·obtain ⟨y,rfl,τ2,ρ2,G2,d,dW,rd,bD⟩:=q1
  cases r1 with
  | cons ry rr=>
   cases rr with
   | cons rt rr=>
    cases rr
    cases rt
    exact NH hc I1 dW rd ry bD
end
section
variable {X:Cx} {EE:gA} {a b c:Expr} {ma mb mc:DS→M D} {pos:Pos}
theorem zL (hk:∀ b x,b∉[s.heap.objs.size]→(s.heap.push o).get? b=some x→h'.get? b=some x):∀ b x,s.heap.get? b=some x→h'.get? b=some x:=
 λb x e=>hk b x (λhm=>by rw [List.mem_singleton.mp hm] at e;exact Nat.lt_irrefl _ (Heap.lt_size e)) (Heap.get?_push_of_some _ e)
noncomputable def kM (g:Int→Int→Int):List D→M D
 | [.int i,.int j]=>M.ret (.int (g i j))
 | _=>M.stop
theorem DW {g:Int→Int→Int} {Q:VK} (ok:pA X.K X.mg EE H σ τ ρ (kM g ds G) Q):∃ i j,ds=[.int i,.int j]∧pA X.K X.mg EE H σ τ ρ (.ok (.int (g i j)) G) Q:=by
 unfold kM at ok
 split at ok
 ·exact ⟨_,_,rfl,ok⟩
 ·exact ok.elim
theorem IT (hc:X.calm=true):jb X (.builtin "max") (JM X EE (kM λi j=>if j > i then j else i)):=by
 intro pins s σ0 H xs us Q I r ⟨σ,τ,ρ,G,ds,ab,rs,ok⟩
 obtain ⟨i,j,rfl,ok⟩:=DW ok
 obtain ⟨x,y,rfl,r1,r2⟩:=Kv rs
 unfold Rep at r1 r2;subst r1 r2
 exact IB hc pins s σ0 H _ us Q I r ⟨i,j,rfl,ok _ H ρ .refl ab (by unfold Rep;rfl)⟩
theorem IU (hc:X.calm=true):jb X (.builtin "min") (JM X EE (kM λi j=>if j<i then j else i)):=by
 intro pins s σ0 H xs us Q I r ⟨σ,τ,ρ,G,ds,ab,rs,ok⟩
 obtain ⟨i,j,rfl,ok⟩:=DW ok
 obtain ⟨x,y,rfl,r1,r2⟩:=Kv rs
 unfold Rep at r1 r2;subst r1 r2
 exact IC hc pins s σ0 H _ us Q I r ⟨i,j,rfl,ok _ H ρ .refl ab (by unfold Rep;rfl)⟩
noncomputable def Ud (X:Cx) (EE:gA) (f:D→List D→M D):V→List V→Hp→VK→Prop:=λx xs H Q=>∃ σ τ ρ G d ds,Ab X.K X.mg σ H τ ρ G∧Rep X.K X.mg ρ H d x∧aC X.K X.mg ρ H ds xs∧pA X.K X.mg EE H σ τ ρ (f d ds G) Q
noncomputable def jV (T:String) (G:DH):D→Bool
 | .str _=>T=="str"
 | .int _=>T=="int"
 | .con _=>T=="list"
 | .obj n=>match G[n]? with
  | some (.lst _)=>T=="list"
  | _=>false
 | _=>false
theorem BF {x:V} (ab:Ab X.K X.mg σ H τ ρ G) (r:Rep X.K X.mg ρ H d x) (h:jV T G d=true):Wz X.K T x H:=by
 cases d with
 | str z=>unfold Rep at r;subst r;exact eq_of_beq h
 | int z=>unfold Rep at r;subst r;exact eq_of_beq h
 | con zs=>
  unfold Rep at r
  obtain ⟨p,vs,rfl,sq,_⟩:=r
  exact .inl ⟨eq_of_beq h,vs,sq.seq⟩
 | obj n=>
  unfold Rep at r
  obtain ⟨p,rfl,e1⟩:=r
  dsimp only [jV] at h
  cases g:G[n]? with
  | none=>rw [g] at h;cases h
  | some o=>
   cases o with
   | lst ys=>
    rw [g] at h
    obtain ⟨p',vs,e2,hp,_⟩:=ab.hp.lst g
    rw [e1] at e2;cases e2
    exact .inl ⟨eq_of_beq h,vs,.of hp⟩
   | _=>first | (rw [q] at ok;exact ok.elim) | (rw [q] at bD;exact bD.elim) | (rw [q] at e;cases e;done) | (rw [g] at ok;exact ok.elim) | (rw [g] at q;cases q;done) | (rw [g] at h;cases h;done) | (rw [g2] at ok;exact ok.elim) | (rw [g1,g2] at ok;exact ok.elim) | (rw [q1] at ok;exact ok.elim) | exact ok.elim
 | _=>cases h
noncomputable def gk (T:String) (f:D→List D→M D) (mo:DS→M D) (m:DS→M (List D)):DS→M D:=λτ=>(mo τ).bind λd G=>if jV T G d then (m τ).bind (λds=>f d ds) G else .stuck
theorem OS {o:Expr} {apos cpos:Pos} {f:D→List D→M D} {m:DS→M (List D)} (pa:PlainAttrs T) (slot:Slot T name id) (hty:typeOf (.builtin id)=pure (.type "method_descriptor")) (hm:ON X id (Ud X EE f)) (ho:QE X EE o mo) (ha:QA X EE (e::es) m)
  (hbase:attributeBase o name X.env (eval o X.env)=eval o X.env:=by rfl)
  (hfew:((backTo cpos (starEach (e::es) X.env)).all (λx=>!x.1)&&(backToKw cpos (keywordEach [] X.env)).all (λx=>x.1.isSome)
   && decide ((e::es).length+([]:List Keyword).length+(if ([]:List Keyword).isEmpty then 0 else 1)<30))=true:=by rfl)
  (hline:(apos.endLine==cpos.line)=true:=by rfl) (hs:starEach (e::es) X.env=(false,eval e X.env)::starEach es X.env:=by rfl) (hplain:(backTo cpos (starEach es X.env)).any (·.1)=false:=by rfl) :
  QE X EE (.Call (.Attribute o name apos) (e::es) [] cpos) (gk T f mo m):=PE.mono (TU pa slot hty hm ho ha hbase hfew hline hs hplain) λσ H Q h=>by
 obtain ⟨τ,ρ,G,ab,ok⟩:=rX (k:=λτ d G=>if jV T G d then (m τ).bind (λds=>f d ds) G else .stuck) h
 refine ⟨τ,ρ,G,ab,?_⟩
 cases e:mo τ G with
 | stuck=>rw [e] at ok;exact ok
 | dU c G'=>rw [e] at ok;exact ok
 | ok d G'=>
  rw [e] at ok
  intro v H' ρ' f' di r'
  obtain ⟨τ2,ρ2,G2,d2,dW,r2,bD⟩:=ok v H' ρ' f' di r'
  by_cases hk:jV T G2 d2=true
  ·rw [if_pos hk] at bD
   refine ⟨BF dW r2 hk,τ2,ρ2,G2,dW,?_⟩
   dsimp only [M.bind] at bD
   cases e2:m τ2 G2 with
   | stuck=>rw [e2] at bD;exact bD
   | dU c G'=>rw [e2] at bD;exact bD
   | ok ds G3=>
    rw [e2] at bD
    exact λvs H3 ρ3 f3 yZ r3=>⟨σ,τ2,ρ3,G3,d2,ds,yZ,r2.mono f3,r3,bD.fut f3⟩
  ·rw [if_neg hk] at bD;exact bD.elim
theorem Ra {o:Expr} {apos cpos:Pos} {f:D→List D→M D} (pa:PlainAttrs T) (slot:Slot T name id) (hty:typeOf (.builtin id)=pure (.type "method_descriptor")) (hm:ON X id (Ud X EE f)) (ho:QE X EE o mo)
  (hbase:attributeBase o name X.env (eval o X.env)=eval o X.env:=by rfl) (hline:(apos.endLine==cpos.line)=true:=by rfl) :
  QE X EE (.Call (.Attribute o name apos) [] [] cpos) (gk T f mo aq):=PE.mono (QD pa slot hty hm ho hbase hline) λσ H Q h=>by
 obtain ⟨τ,ρ,G,ab,ok⟩:=rX (k:=λτ d G=>if jV T G d then (aq τ).bind (λds=>f d ds) G else .stuck) h
 refine ⟨τ,ρ,G,ab,?_⟩
 cases e:mo τ G with
 | stuck=>rw [e] at ok;exact ok
 | dU c G'=>rw [e] at ok;exact ok
 | ok d G'=>
  rw [e] at ok
  intro v H' ρ' f' di r'
  obtain ⟨τ2,ρ2,G2,d2,dW,r2,bD⟩:=ok v H' ρ' f' di r'
  by_cases hk:jV T G2 d2=true
  ·rw [if_pos hk] at bD
   exact ⟨BF dW r2 hk,σ,τ2,ρ2,G2,d2,[],dW,r2,.nil,bD⟩
  ·rw [if_neg hk] at bD;exact bD.elim
noncomputable def fY:D→List D→M D
 | .obj n,[v]=>λG=>match G[n]? with
  | some (.lst xs)=>if xs.length<sizeLine then .ok .i9 (G.set n (.lst (xs++[v]))) else .stuck
  | _=>.stuck
 | _,_=>M.stop
theorem FI {xs ys:List D} {w:V} {ws:List V} {Q:VK} (ab:Ab X.K X.mg σ H τ ρ G) (hn:ρ[n]?=some p) (hp:H p=some (.lst vs)) (r:aC X.K X.mg ρ H ys ws)
  (rd:∀ H',fh X.K H H' ρ ρ→Rep X.K X.mg ρ H' d w) (ok:pA X.K X.mg EE H σ τ ρ (.ok d (G.set n (.lst ys))) Q):Q w (upd H p (.lst ws)):=by
 have f:fh X.K H (upd H p (.lst ws)) ρ ρ:=yX hp ρ
 exact ok w _ ρ f (ab.fut f (ab.hp.put (ds:=ys) hn hp r)) (rd _ f)
theorem FJ:ON X "list.append" (Ud X EE fY):=by
 intro pins s σ0 H x xs v us Q I rx Ue ⟨σ,τ,ρ,G,d,ds,ab,rd,JN,ok⟩
 cases d<;>try exact ok.elim
 rename_i n
 match ds,ok with
 | [],ok=>exact ok.elim
 | _::_::_,ok=>exact ok.elim
 | [y],ok=>
  obtain ⟨yv,rfl,ry⟩:=jU JN
  unfold Rep at rd
  obtain ⟨p,rfl,e1⟩:=rd
  dsimp only [fY] at ok
  cases g:G[n]? with
  | none=>rw [g] at ok;exact ok.elim
  | some o=>
   cases o with
   | lst zs=>
    rw [g] at ok
    dsimp only at ok
    obtain ⟨p',vs,e2,hp,rs⟩:=ab.hp.lst g
    rw [e1] at e2;cases e2
    by_cases hz:zs.length<sizeLine
    ·rw [if_pos hz] at ok
     exact By pins s σ0 H _ _ v us Q I rx Ue ⟨p,vs,yv,rfl,rfl,hp,by rw [← rs.length];exact hz,FI (xs:=zs) ab e1 hp (rs.append (.cons ry .nil)) (λ_ _=>by unfold Rep;rfl) ok⟩
    ·rw [if_neg hz] at ok;exact ok.elim
   | _=>first | (rw [q] at ok;exact ok.elim) | (rw [q] at bD;exact bD.elim) | (rw [q] at e;cases e;done) | (rw [g] at ok;exact ok.elim) | (rw [g] at q;cases q;done) | (rw [g] at h;cases h;done) | (rw [g2] at ok;exact ok.elim) | (rw [g1,g2] at ok;exact ok.elim) | (rw [q1] at ok;exact ok.elim) | exact ok.elim
theorem IV {o:Expr} {apos cpos:Pos} {m:DS→M (List D)} (ho:QE X EE o mo) (ha:QA X EE [e] m)
  (hbase:attributeBase o "append" X.env (eval o X.env)=eval o X.env:=by rfl)
  (hfew:((backTo cpos (starEach [e] X.env)).all (λx=>!x.1)&&(backToKw cpos (keywordEach [] X.env)).all (λx=>x.1.isSome)
   && decide ([e].length+([]:List Keyword).length+(if ([]:List Keyword).isEmpty then 0 else 1)<30))=true:=by rfl)
  (hline:(apos.endLine==cpos.line)=true:=by rfl) (hs:starEach [e] X.env=(false,eval e X.env)::starEach [] X.env:=by rfl) (hplain:(backTo cpos (starEach [] X.env)).any (·.1)=false:=by rfl) :
  QE X EE (.Call (.Attribute o "append" apos) [e] [] cpos) (gk "list" fY mo m):=OS PySem.F.plainAttrs_list PySem.F.slot_list_append PySem.F.type_list_append FJ ho ha hbase hfew hline hs hplain
noncomputable def yI:D→List D→M D
 | .obj n,[]=>λG=>match G[n]? with
  | some (.lst xs)=>match xs[xs.length - 1]? with
   | some y=>.ok y (G.set n (.lst xs.dropLast))
   | none=>.stuck
  | _=>.stuck
 | _,_=>M.stop
theorem aC.dropLast (r:aC K mg ρ H ds vs):aC K mg ρ H ds.dropLast vs.dropLast:=by
 rw [List.dropLast_eq_take,List.dropLast_eq_take,← r.length]
 exact r.take _
theorem NI:ON X "list.pop" (Ud X EE yI):=by
 intro pins s σ0 H x xs v us Q I rx Ue ⟨σ,τ,ρ,G,d,ds,ab,rd,JN,ok⟩
 cases d<;>try exact ok.elim
 rename_i n
 match ds,ok with
 | _::_,ok=>exact ok.elim
 | [],ok=>
  unfold aC at JN;subst JN
  unfold Rep at rd
  obtain ⟨p,rfl,e1⟩:=rd
  dsimp only [yI] at ok
  cases g:G[n]? with
  | none=>rw [g] at ok;exact ok.elim
  | some o=>
   cases o with
   | lst zs=>
    rw [g] at ok
    dsimp only at ok
    obtain ⟨p',vs,e2,hp,rs⟩:=ab.hp.lst g
    rw [e1] at e2;cases e2
    cases qz:zs[zs.length - 1]? with
    | none=>rw [qz] at ok;exact ok.elim
    | some y=>
     rw [qz] at ok
     obtain ⟨yv,ey,ry⟩:=rs.get qz
     exact QF pins s σ0 H _ _ v us Q I rx Ue ⟨p,vs,yv,rfl,rfl,hp,by rw [← rs.length];exact ey,FI (xs:=zs) ab e1 hp rs.dropLast (λ_ f=>ry.mono f) ok⟩
   | _=>first | (rw [q] at ok;exact ok.elim) | (rw [q] at bD;exact bD.elim) | (rw [q] at e;cases e;done) | (rw [g] at ok;exact ok.elim) | (rw [g] at q;cases q;done) | (rw [g] at h;cases h;done) | (rw [g2] at ok;exact ok.elim) | (rw [g1,g2] at ok;exact ok.elim) | (rw [q1] at ok;exact ok.elim) | exact ok.elim
theorem Rb {o:Expr} {apos cpos:Pos} (ho:QE X EE o mo) (hbase:attributeBase o "pop" X.env (eval o X.env)=eval o X.env:=by rfl) (hline:(apos.endLine==cpos.line)=true:=by rfl) :
  QE X EE (.Call (.Attribute o "pop" apos) [] [] cpos) (gk "list" yI mo aq):=Ra PySem.F.plainAttrs_list PySem.F.slot_list_pop PySem.F.type_list_pop NI ho hbase hline
end
structure IW (B:Heap) (l:List Env) (e:Addr) (cls:Value) (h:Heap):Prop where
 stay:B.StaysIn h
 new:B.get? e=none
 frm:h.FunFrames B l
 tr:(∃ oe vs a0,h.get? e=some oe∧oe.cls=cls∧oe.data=.fields vs∧vs[0]?=some a0∧vs[1]?=some .none)∨∃ a0 fl,h.TracedAtW B e cls a0 fl
section
variable {M:Model} {A:Around} {E:Value→Shared→Prop} {s:Shared} {B:Heap} {env:Env} {outer l:List Env} {L e:Addr} {cls:Value} {Q:Unit→Shared→Prop}
theorem FL (h:env'.frame=env.frame) (v:Value):noteFrame v env'=noteFrame v env:=by
 unfold noteFrame frameOf
 rw [h]
theorem G7 (hfr:A.frames=some (env::outer)) (hf:env.frame=some L) (f:IW B (env::outer) e cls s.heap)
  (hQ:∀ h' a0,Heap.HeldW B (env::outer) e cls a0 L h'→s.heap.UpToSlots h'→Q () {s with heap:=h'}):wpAny M A (noteFrame (.ref e) env) Q E s:=by
 obtain ⟨st,nw,fr,tr⟩:=f
 rcases tr with ⟨oe,vs,a0,he,hc,hd,h0,h1⟩ | ⟨a0,fl,oe,vs,T,oT,ts,he,hcls,hd,h1,Ug,Uh,hT,JO,h3⟩
 ·subst hc
  unfold noteFrame
  simp only [hf]
  refine wpAny_bind (wpAny_field he hd h1 ?_)
  rw [if_neg (by decide)]
  refine wpAny_entryW hfr fr hf he st nw hd (Array.getElem?_eq_some_iff.mp h1).1 h0 λh' hN=>?_
  exact hQ h' a0 ⟨hN.1,nw,hN.2.1,hN.2.2.1⟩ hN.2.2.2
 ·by_cases hq:(fl==rawInt L)=true
  ·unfold noteFrame
   simp only [hf]
   refine wpAny_bind (wpAny_field he hd h1 ?_)
   rw [if_pos (show (Value.ref T != Value.none)=true by simp)]
   refine wpAny_bind (wpAny_field hT JO h3 ?_)
   rw [if_pos hq]
   refine wpAny_pure ?_
   have:=hQ s.heap a0 ⟨st,nw,fr,oe,vs,T,oT,ts,he,hcls,hd,h1,Ug,Uh,hT,JO,by rw [h3,beq_iff_eq.mp hq]⟩ (.refl _)
   exact this
  ·obtain ⟨rfl,h0⟩:=hcls
   unfold noteFrame
   simp only [hf]
   refine wpAny_bind (wpAny_field he hd h1 ?_)
   rw [if_pos (show (Value.ref T != Value.none)=true by simp)]
   refine wpAny_bind (wpAny_field hT JO h3 ?_)
   rw [if_neg hq]
   refine wpAny_bind (wpAny_setField hT JO (Array.getElem?_eq_some_iff.mp h3).1 ?_)
   have tT:∀ b,b≠T→(s.heap.update T (Obj.mapFields (·.setIfInBounds 3 Value.none))).get? b=s.heap.get? b:=λb hb=>Heap.get?_update_other _ _ (Ne.symm hb)
   have Ui:∀ b o,s.heap.get? b=some o→(∀ vs,o.data≠.fields vs)→b≠T:=λb o hb hnf z=>by
    rw [z,hT] at hb;cases hb;exact hnf ts JO
   refine wpAny_entryW hfr (fr.of_keeps λb o hb hnf=>⟨o,(tT b (Ui b o hb hnf)).trans hb,rfl⟩) hf ((tT e (Ne.symm Uh)).trans he)
    (λb o XX=>(tT b λz=>by rw [z,Ug] at XX;cases XX).trans (st b o XX)) nw hd (Array.getElem?_eq_some_iff.mp h1).1 h0 λh' hN=>?_
   exact hQ h' a0 ⟨hN.1,nw,hN.2.1,hN.2.2.1⟩ λb o hb hnf=>hN.2.2.2 b o ((tT b (Ui b o hb hnf)).trans hb) hnf
theorem Kw (hfr:A.frames=some (env::outer)) (hf:env.frame=some L) (f:IW B (env::outer) e cls s.heap)
  (hQ:∀ h' a0,Heap.FlyingW B outer e cls a0 h'→s.heap.UpToSlots h'→Q () {s with heap:=h'}):wpAny M A (leaving env (.ref e)) Q E s:=by
 unfold leaving
 refine wpAny_bind (G7 hfr hf f λh1 a0 hH u1=>?_)
 refine wpAny_landsW hH λh2 hF u2=>?_
 obtain ⟨k1,k2,⟨_,_,k3⟩,k4⟩:=hF
 exact hQ h2 a0 ⟨k1,k2,k3,k4⟩ (u1.trans u2)
theorem IW.IX (f:Heap.FlyingW B l e cls a0 h):IW B l e cls h:=⟨f.1,f.2.1,f.2.2.1,.inr ⟨a0,.none,f.2.2.2⟩⟩
end
structure ZV (X:Cx) (B:Heap):Prop where
 keep:∀ b o,X.s₀.heap.get? b=some o→X.H₀ b=none→b∉frs X.stack→b∉X.ex→B.get? b=some o
 there:∀ b o,X.s₀.heap.get? b=some o→b∉frs X.stack→b∉X.ex→∃ o',B.get? b=some o'
 pins:∀ p∈X.pn,B.get? p.1=some p.2
noncomputable def Uj (X:Cx) (H:Hp) (e:Addr) (cls:Value) (s:Shared):Prop:=∃ B,IW B X.stack e cls s.heap∧pV X.prog X.w H B∧ZV X B
noncomputable def Ky (mg:Str→Option Value) (c:XD) (cls:Value):Prop:=match c with | .mk n _=>mg n=some cls
noncomputable def oQ (X:Cx) (EE:gA):Prop:=∀ (pins:List (Addr×Obj)) (σ:L2.St) (H:Hp) (s:Shared) (e:Addr) (cls:Value) (c:XD),Inv X pins σ H s→Uj X H e cls s→Ky X.mg c cls→EE c σ H→X.xe (.ref e) s
section
variable {X:Cx} {pins:List (Addr×Obj)} {σ:L2.St} {H:Hp} {s:Shared} {h':Heap}
theorem IsCell.slots {v:Option Value} (u:h.UpToSlots h') (hc:h.IsCell c v):h'.IsCell c v:=by
 obtain ⟨o,e,d⟩:=hc
 obtain ⟨sl,e'⟩:=u c o e λvs q=>by rw [d] at q;cases q
 exact ⟨_,e',d⟩
theorem Inv.Uk {t:Nat} (I:Inv X pins σ H s) (C:ZV X B) (hok:pV X.prog X.w H B) (st:B.StaysIn h') (u:s.heap.UpToSlots h') (ht:0<t:=by first | exact Nat.succ_pos _ | exact (Inv.os (by assumption)).2 | assumption | nofun):Inv X [] σ H {s with heap:=h',toks:=t}:=by
 have JU:∀ b o,X.s₀.heap.get? b=some o→b≠X.env.locals:=λb o e=>Nat.ne_of_lt (Nat.lt_of_lt_of_le (Heap.lt_size e) I.ok.above)
 have Ul:∀ b o,X.s₀.heap.get? b=some o→b∉X.fs→b∉frs X.stack:=λb o e hb z=>by
  rcases List.mem_cons.mp (I.uw b z) with z | z
  ·exact JU b o e z
  ·exact hb z
 have slots:∀ b o,X.s₀.heap.get? b=some o→X.H₀ b=none→b∈X.fs→b∉X.ex→∃ sl,h'.get? b=some {o with slots:=sl}:=λb o e n hb hx=>by
  obtain ⟨sl,e1⟩:=I.base.slot b o e n hb hx
  obtain ⟨_,o',eo,hd⟩:=I.ok.uY.mem hb
  rw [e] at eo;cases eo
  obtain ⟨S9,e2⟩:=u b _ e1 hd
  exact ⟨S9,e2⟩
 refine ⟨I.ok,⟨I.os.1,ht⟩,I.bare,⟨λb o e n hb hx=>st _ _ (C.keep b o e n (Ul b o e hb) hx),slots,I.base.free,λb o e hx=>?_,I.base.tups,I.base.rF,I.base.tG⟩,?_,λx c e=>?_,I.free,I.qZ,λp hp=>?_,hok.kept st,I.len⟩
 ·by_cases hb:b∈X.fs
  ·obtain ⟨sl,e1⟩:=slots b o e (I.ok.MP b hb) hb hx
   exact ⟨_,e1⟩
  ·obtain ⟨o',e1⟩:=C.there b o e (Ul b o e hb) hx
   exact ⟨o',st _ _ e1⟩
 ·obtain ⟨m,hn,hl⟩:=I.loc
  refine ⟨m,u.ns hn,λi x v e1 e2 e3=>?_⟩
  obtain ⟨w,r,l⟩:=hl i x v e1 e2 e3
  refine ⟨w,r,?_⟩
  rcases l with l | ⟨k,c,e,z⟩
  ·exact .inl l
  ·exact .inr ⟨k,c,e,IsCell.slots u z⟩
 ·obtain ⟨v,z⟩:=I.cell x c e
  exact ⟨v,IsCell.slots u z⟩
 ·have JP:p∈X.pn:=by simpa using hp
  obtain ⟨e,n,ne,nf,d⟩:=I.pin p (List.mem_append_left _ JP)
  exact ⟨st _ _ (C.pins p JP),n,ne,nf,d⟩
end
structure Um (P:Program) (w:World) (outer:List Env) (H:Hp) (s:Shared) (H':Hp) (B:Heap) (s':Shared):Prop where
 os:s'.os=s.os∧0<s'.toks
 bare:PyProof.Rows.AllBare s'.gens
 keep:∀ b o,s.heap.get? b=some o→H b=none→b∉frs outer→B.get? b=some o
 there:∀ b o,s.heap.get? b=some o→b∉frs outer→∃ o',B.get? b=some o'
 slot:∀ b o,s.heap.get? b=some o→H b=none→b∈frs outer→∃ sl,s'.heap.get? b=some {o with slots:=sl}
 free:∀ b o,s.heap.get? b=some o→H b=none→H' b=none
 tups:∀ b xs,H b=some (.tup xs)→H' b=some (.tup xs)
 rF:∀ b o u,H b=some (.iU o u)→H' b=some (.iU o u)
 tG:∀ b ps,H b=some (.uX ps)→∃ more,H' b=some (.uX (ps++more))
 hok:pV P w H' B
noncomputable def eO (P:Program) (w:World):yE:=λouter H s E ev s'=>∃ e cls a0 B H',ev=.ref e∧Heap.FlyingW B outer e cls a0 s'.heap∧Um P w outer H s H' B s'∧E cls none H'
theorem gD (h:oQ X EE):OR (eO X.prog X.w) X EE:=by
 intro pins σ H s ev s' I hq
 obtain ⟨e,cls,a0,B,H',rfl,fl,F,c,hc,ee⟩:=hq
 have un:Un (frs X.stack) [] H H' s.heap s'.heap:=⟨λb o e n hb _=>fl.1 _ _ (F.keep b o e n hb),λb o e n hb _=>F.slot b o e n hb,λb o e n _=>F.free b o e n,λb o e _=>by
  by_cases hb:b∈frs X.stack
  ·obtain ⟨sl,q⟩:=F.slot b o e (I.yU b hb) hb
   exact ⟨_,q⟩
  ·obtain ⟨o',q⟩:=F.there b o e hb
   exact ⟨o',fl.1 _ _ q⟩,F.tups,F.rF,F.tG⟩
 have I':Inv X pins σ H' s':=I.JW F.os un (F.hok.kept fl.1) F.bare λb z=>absurd z (by simp)
 refine h pins σ H' s' e cls c I' ⟨B,.IX fl,F.hok,λb o eb n hb hx=>?_,λb o eb hb hx=>?_,λp hp=>?_⟩ hc ee
 ·have XY:b∉X.fs:=λz=>hb (by
   rcases I.ok.stk with q | ⟨q,_⟩
   ·rw [q];exact z
   ·rw [q];unfold frs;rw [List.filterMap_cons];split
    ·exact z
    ·exact List.mem_cons_of_mem _ z)
  exact F.keep b o (I.base.keep b o eb n XY hx) (I.base.free b o eb n hx) hb
 ·obtain ⟨o',q⟩:=I.base.there b o eb hx
  exact F.there b o' q hb
 ·obtain ⟨q,n,ne,nf,d⟩:=I.pin p (List.mem_append_left _ hp)
  exact F.keep p.1 p.2 q n λz=>by
   rcases List.mem_cons.mp (I.uw _ z) with z | z
   ·exact ne z
   ·exact nf z
section
variable {P:Program} {w:World} {K:PySem.W.Frag} {mg:Str→Option Value} {base:Heap} {f:Addr} {fd:FuncData}
theorem BG {st:Stmt} {ps:List Str} {k:Nat} {m:List D→M D} (F:vc K x qual st f fd) (S:cX N ps (aa st)) (hps:ps.length=n) (hN:N.length=nn) (hm:∀ ds,m ds=dR nn ms ds)
  (hbody:∀ (X:Cx) (EE:gA) (cdv:Value) (A:Around) (outer:List Env) (s:Shared) (H:Hp) (E:XK),X=jO (eO P w) P w K mg base N qual (aa st) f cdv A outer s H E→iH k (A.deeper (PyProof.Rows.envOfC qual (aa st) s.heap.objs.size f cdv)) →
   oQ X EE→PassesOwn (model P w) X.A X.env X.xe→FF X EE (aD st) ms) :
  bV P w K mg base (eO P w) (k+1) f fd ps (bJ K mg n m):=by
 subst hps hN
 have e:m=λds=>dR N.length ms ds:=funext hm
 subst e
 obtain ⟨oc,od,kV,doc,pm,an,cdv,ct,osl,rfl,lk,hcd⟩:=F.ex
 refine TM lk hcd S (λvs H Q E h=>h.len) λA outer s H vs Q E hr h=>?_
 obtain ⟨ds,ρ,G,hn,hp,rs,ok⟩:=h
 refine ⟨_,hbody _ (λc σ H'=>∀ cls,Ky mg c cls→E cls none H') cdv A outer s H E rfl hr ?_ PassesOwn.leaving,ds.map some++List.replicate (N.length - ds.length) none,ρ,G,⟨p9 rs,hp⟩,?_⟩
 ·intro pins σ H' s' e cls c I fx hc ee
  obtain ⟨B,fb,hok,NJ⟩:=fx
  refine Kw (L:=s.heap.objs.size) I.ok.frames rfl fb λh' a0 fl u=>?_
  have I':Inv _ [] σ H' {s' with heap:=h'}:=Inv.Uk (t:=s'.toks) I NJ hok fl.1 u
  have JU:∀ b o,s.heap.get? b=some o→b∉frs outer→b∉frs (PyProof.Rows.envOfC qual (aa st) s.heap.objs.size f cdv::outer):=λb o e hb z=>by
   rcases List.mem_cons.mp (I.uw b z) with z | z
   ·exact absurd (Heap.lt_size e) (by rw [show b=s.heap.objs.size from z];exact Nat.lt_irrefl _)
   ·exact hb z
  refine ⟨e,cls,a0,B,H',rfl,fl,⟨I'.os,I'.bare,λb o eb nb hb=>NJ.keep b o eb nb (JU b o eb hb) (by intro z;exact absurd (show b∈([]:List Addr) from z) (by simp)),λb o eb hb=>NJ.there b o eb (JU b o eb hb) (by intro z;exact absurd (show b∈([]:List Addr) from z) (by simp)),
   λb o eb nb hb=>I'.base.slot b o eb nb hb (by intro z;exact absurd (show b∈([]:List Addr) from z) (by simp)),λb o eb nb=>I'.base.free b o eb nb (by intro z;exact absurd (show b∈([]:List Addr) from z) (by simp)),I'.base.tups,I'.base.rF,I'.base.tG,hok⟩,ee cls hc⟩
 ·dsimp only [dR] at ok
  cases q:ms (ds.map some++List.replicate (N.length - ds.length) none) G with
  | stuck=>rw [q] at ok;exact ok
  | nx τ G'=>rw [q] at ok;exact λσ' H' ρ' f ab=>ok .i9 H' ρ' f ab.hp (by unfold Rep;rfl)
  | rt d G'=>rw [q] at ok;exact λv H' ρ' f hp r=>ok v H' ρ' f hp r
  | bk τ G'=>rw [q] at ok;exact ok.elim
  | ct τ G'=>rw [q] at ok;exact ok.elim
  | xn c τ G'=>rw [q] at ok;exact λσ' H' ρ' f ab cls hc=>ok cls H' ρ' hc f ab.hp
end
theorem Kz (x:pV P w H h) (k:∀ b o,H b≠none→h.get? b=some o→B.get? b=some o):pV P w H B:=λa o e=>
 (x a o e).stay (λb u hb q=>k b u (by
  rcases hb with z | z
  ·rw [z,e];simp
  ·rw [z];simp) q) (λ_ q=>q) λ_ _ q=>q
noncomputable abbrev Cx.to (X:Cx) (E:Value→Shared→Prop) (pn:List (Addr×Obj)):Cx:={X with xe:=E,pn:=pn}
noncomputable def kN (env:Env):List (Str×NameKind)→List (Str×Addr)→List (Str×Addr)
 | [],acc=>acc
 | (n,k)::r,acc=>kN env r (if k==.free then (match env.cells.lookup n with | some c=>(n,c)::acc | none=>acc) else acc)
theorem tU (h:∀ x∈scope.names,x.2=.free→∃ c,env.cells.lookup x.1=some c):closureFor scope env=pure (kN env scope.names []):=by
 unfold closureFor
 have key:∀ (names:List (Str×NameKind)) (acc:List (Str×Addr)),(∀ x∈names,x.2=.free→∃ c,env.cells.lookup x.1=some c) →
   (forIn names acc λx r=>match x with | (name,kind)=>if (kind==NameKind.free)=true then do let y ← cellOf env name;pure (ForInStep.yield ((name,y)::r)) else pure (ForInStep.yield r))=(pure (kN env names acc):Sem (List (Str×Addr))):=by
  intro names
  induction names with
  | nil=>intro acc _;rfl
  | cons x r ih=>
   intro acc hx
   obtain ⟨n,k⟩:=x
   rw [List.forIn_cons]
   by_cases hk:(k==NameKind.free)=true
   ·obtain ⟨c,hc⟩:=hx (n,k) List.mem_cons_self (eq_of_beq hk)
    have e:cellOf env n=pure c:=by unfold cellOf;rw [hc]
    simp only [if_pos hk,e,pure_bind]
    rw [ih _ λy hy=>hx y (List.mem_cons_of_mem _ hy)]
    show _=pure (kN env r (if (k==NameKind.free)=true then (match env.cells.lookup n with | some c=>(n,c)::acc | none=>acc) else acc))
    rw [if_pos hk,hc]
   ·simp only [if_neg hk,pure_bind]
    rw [ih _ λy hy=>hx y (List.mem_cons_of_mem _ hy)]
    show _=pure (kN env r (if (k==NameKind.free)=true then (match env.cells.lookup n with | some c=>(n,c)::acc | none=>acc) else acc))
    rw [if_neg hk]
 have k2:=key scope.names [] h
 first
  | (rw [k2];rfl)
  | (simp only [k2,pure_bind])
  | exact k2
theorem zM {env:Env}:∀ (names:List (Str×NameKind)) (acc:List (Str×Addr)),(∀ y c,acc.lookup y=some c→env.cells.lookup y=some c)→∀ y c,(kN env names acc).lookup y=some c→env.cells.lookup y=some c
 | [],acc,h,y,c,e=>h y c e
 | (n,k)::r,acc,h,y,c,e=>by
  refine zM r _ (λz d ez=>?_) y c e
  by_cases hk:(k==NameKind.free)=true
  ·rw [if_pos hk] at ez
   cases q:env.cells.lookup n with
   | none=>rw [q] at ez;exact h z d ez
   | some c'=>
    rw [q] at ez
    dsimp only at ez
    rw [List.lookup_cons] at ez
    cases hz:z==n with
    | true=>rw [hz] at ez;cases ez;rw [eq_of_beq hz];exact q
    | false=>rw [hz] at ez;exact h z d ez
  ·rw [if_neg hk] at ez
   exact h z d ez
theorem zN {env:Env}:∀ (names:List (Str×NameKind)) (acc:List (Str×Addr)) (y:Str),((∃ c,acc.lookup y=some c)∨((y,NameKind.free)∈names∧∃ c,env.cells.lookup y=some c))→∃ c,(kN env names acc).lookup y=some c
 | [],acc,y,h=>by
  rcases h with h | ⟨h,_⟩
  ·exact h
  ·cases h
 | (n,k)::r,acc,y,h=>by
  refine zN r _ y ?_
  rcases h with ⟨c,h⟩ | ⟨h,c,hc⟩
  ·left
   by_cases hk:(k==NameKind.free)=true
   ·rw [if_pos hk]
    cases q:env.cells.lookup n with
    | none=>exact ⟨c,h⟩
    | some c'=>
     dsimp only
     rw [List.lookup_cons]
     cases hz:y==n with
     | true=>exact ⟨c',rfl⟩
     | false=>exact ⟨c,h⟩
   ·rw [if_neg hk];exact ⟨c,h⟩
  ·rcases List.mem_cons.mp h with e | h
   ·cases e
    left
    rw [if_pos (by rfl),hc]
    dsimp only
    exact ⟨c,by rw [List.lookup_cons,beq_self_eq_true]⟩
   ·exact .inr ⟨h,c,hc⟩
section
open PyProof.Rows
noncomputable def mask {α:Type}:List Bool→List (Option α)→List (Option α)
 | _,[]=>[]
 | [],_::r=>none::mask [] r
 | k::ks,o::r=>(if k then o else none)::mask ks r
theorem nZ {α:Type}:∀ (ks:List Bool) (l:List (Option α)),(mask ks l).length=l.length
 | _,[]=>by unfold mask;rfl
 | [],_::r=>by unfold mask;simp [nZ [] r]
 | k::ks,o::r=>by unfold mask;simp [nZ ks r]
theorem r6 {α:Type} {v:α}:∀ {ks:List Bool} {l:List (Option α)} {i:Nat},(mask ks l)[i]?=some (some v)→ks[i]?=some true∧l[i]?=some (some v)
 | ks,[],i,h=>by unfold mask at h;simp at h
 | [],o::r,0,h=>by unfold mask at h;simp at h
 | [],o::r,i+1,h=>by
  unfold mask at h
  have:=(r6 (ks:=[]) (l:=r) (i:=i) (by simpa using h)).1
  simp at this
 | k::ks,o::r,0,h=>by
  unfold mask at h
  cases k with
  | true=>simpa using h
  | false=>simp at h
 | k::ks,o::r,i+1,h=>by
  unfold mask at h
  have:=r6 (ks:=ks) (l:=r) (i:=i) (by simpa using h)
  simpa using this
theorem G8 {α:Type} {v:α}:∀ {ks:List Bool} {l:List (Option α)} {i:Nat},ks[i]?=some true→l[i]?=some (some v)→(mask ks l)[i]?=some (some v)
 | ks,[],i,_,h=>by simp at h
 | [],o::r,i,h,_=>by simp at h
 | k::ks,o::r,0,h,e=>by unfold mask;simp at h e;simp [h,e]
 | k::ks,o::r,i+1,h,e=>by
  unfold mask
  have:=G8 (ks:=ks) (l:=r) (i:=i) (by simpa using h) (by simpa using e)
  simpa using this
noncomputable def AU (env:Env) (n:Str) (k:NameKind):NameKind:=if (k==.free&&env.scope.kind==.function&&env.kindOf n==some .cell) then .cell else k
theorem iK {env:Env} {y:Str}:∀ (names:List (Str×NameKind)),(names.map λ(n,k)=>if (k==NameKind.free&&env.scope.kind==.function&&env.kindOf n==some .cell) then (n,NameKind.cell) else (n,k)).lookup y=(names.lookup y).map (AU env y)
 | []=>rfl
 | (n,k)::r=>by
  have ih:=iK (env:=env) (y:=y) r
  rw [List.map_cons,List.lookup_cons]
  by_cases hc:(k==NameKind.free&&env.scope.kind==.function&&env.kindOf n==some .cell)=true
  ·rw [if_pos hc,List.lookup_cons]
   cases hy:y==n with
   | true=>
    have e:y=n:=eq_of_beq hy
    subst e
    simp [AU,hc]
   | false=>exact ih
  ·rw [if_neg hc,List.lookup_cons]
   cases hy:y==n with
   | true=>
    have e:y=n:=eq_of_beq hy
    subst e
    simp [AU,hc]
   | false=>exact ih
structure dX (WE:Scope) (N:List Str) (scope:Scope) (xs:List Str) (ks:List Bool):Prop where
 nd:xs.Nodup
 kind:scope.kind=.function
 xj:∀ y∈scope.names,y.2≠.cell
 names:∀ y∈scope.names,y.2=.local→scope.names.lookup y.1=some .local
 loc:∀ x∈xs,scope.names.lookup x=some .local
 free:∀ y∈scope.names,y.2=.free→WE.names.lookup y.1=some .cell∨WE.names.lookup y.1=some .free
 XZ:((ks.zip N).all λp=>!p.1||decide (scope.names.lookup p.2=some .free))=true
theorem dX.cap {xs:List Str} (S:dX WE N scope xs ks):∀ i<ks.length,ks[i]?=some true→∀ y∈N[i]?,scope.names.lookup y=some .free:=λi _ hk y hy=>by
 have h:=List.all_eq_true.mp S.XZ (true,y) (List.mem_of_getElem? (i:=i) (by rw [List.getElem?_zip_eq_some];exact ⟨hk,hy⟩))
 simpa using h
noncomputable def y9 (X:Cx) (scope:Scope) (cl:List (Str×Addr)) (xs:List Str) (C:Addr) (pins:List (Addr×Obj)) (s:Shared) (H:Hp) (fp:List Addr) (E:Value→Shared→Prop):Cx where
 prog:=X.prog
 w:=X.w
 K:=X.K
 mg:=X.mg
 base:=X.base
 A:=X.A
 N:=xs++X.N
 s₀:=s
 H₀:=H
 env:=compEnvC scope cl C X.env
 outer:=X.stack
 stack:=X.stack
 ex:=fp
 fn:=λ_=>false
 calm:=X.calm
 pn:=X.pn++pins
 xe:=E
section
variable {X:Cx} {scope:Scope} {xs:List Str} {x:Str} {ks:List Bool} {pins:List (Addr×Obj)} {σ:L2.St} {H:Hp} {s s4:Shared} {fp:List Addr} {E:Value→Shared→Prop} {h1:Heap}
theorem mem_lookup {α β:Type} [BEq α] [LawfulBEq α]:∀ {l:List (α×β)} {a:α} {b:β},l.lookup a=some b→(a,b)∈l
 | [],_,_,h=>by simp at h
 | (a',b')::r,a,b,h=>by
  rw [List.lookup_cons] at h
  cases hz:a==a' with
  | true=>rw [hz] at h;cases h;rw [eq_of_beq hz];exact List.mem_cons_self
  | false=>rw [hz] at h;exact List.mem_cons_of_mem _ (mem_lookup h)
theorem KA (S:dX X.env.scope X.N scope xs ks) {cl:List (Str×Addr)} {C:Addr} {y:Str} (h:(compEnvC scope cl C X.env).kindOf y=some .cell∨(compEnvC scope cl C X.env).kindOf y=some .free):scope.names.lookup y=some .free:=by
 have h':(scope.names.lookup y).map (AU X.env y)=some .cell∨(scope.names.lookup y).map (AU X.env y)=some .free:=by
  rw [← iK];exact h
 cases q:scope.names.lookup y with
 | none=>rw [q] at h';rcases h' with h' | h'<;>cases h'
 | some k=>
  rw [q] at h'
  cases k with
  | free=>rfl
  | cell=>exact absurd rfl (S.xj _ (mem_lookup q))
  | _=>rcases h' with h' | h'<;>simp [AU] at h'
theorem xm (S:dX X.env.scope X.N scope xs ks) {cl:List (Str×Addr)} {C:Addr} {y:Str} (h:scope.names.lookup y=some .free):(compEnvC scope cl C X.env).kindOf y=some .cell∨(compEnvC scope cl C X.env).kindOf y=some .free:=by
 have e:(compEnvC scope cl C X.env).kindOf y=(scope.names.lookup y).map (AU X.env y):=iK scope.names
 rw [e,h]
 unfold AU
 dsimp only [Option.map]
 split
 ·exact .inl rfl
 ·exact .inr rfl
theorem zO (S:dX X.env.scope X.N scope xs ks) (hx:x∈xs) {cl:List (Str×Addr)} {C:Addr}:(compEnvC scope cl C X.env).kindOf x=some .local:=by
 have e:(compEnvC scope cl C X.env).kindOf x=(scope.names.lookup x).map (AU X.env x):=iK scope.names
 rw [e,S.loc x hx]
 rfl
theorem FN (S:dX X.env.scope X.N scope xs ks) (I:Inv X pins σ H s) (hf:∀ b∈fp,pq X pins H b∧b<s.heap.objs.size) (hn:h1.Ns s.heap.objs.size λ_=>none) (hk:∀ b o,s.heap.get? b=some o→h1.get? b=some o) (t:Nat) (ht:0<t:=by first | exact Nat.succ_pos _ | exact (Inv.os (by assumption)).2 | assumption | nofun) :
  Inv (y9 X scope (kN X.env scope.names []) xs s.heap.objs.size pins s H fp E) [] (List.replicate xs.length none++mask ks σ) H {s with heap:=h1,toks:=t}:=by
 have cs:∀ y c,(kN X.env scope.names []).lookup y=some c→X.env.cells.lookup y=some c:=zM scope.names [] λy c e=>by simp at e
 have lt:∀ b o,s.heap.get? b=some o→b≠s.heap.objs.size:=λb o e=>Nat.ne_of_lt (Heap.lt_size e)
 have Rc:∀ y c,X.env.cells.lookup y=some c→∃ v,s.heap.IsCell c v:=λy c e=>I.cell y c e
 have OT:∀ b,b≠X.env.locals→b∉X.fs→b∉frs X.stack:=λb h1 h2 h3=>(List.mem_cons.mp (I.uw b h3)).elim h1 h2
 refine ⟨⟨I.ok.mod,?_,I.ok.glob,I.ok.blt,Nat.le_refl _,λy z c e1 e2=>I.ok.inj y z c (cs y c e1) (cs z c e2),λy hy=>?_,λy c h _=>absurd (show false=true from h) Bool.false_ne_true,I.ok.hd,I.ok.frames,.inl rfl,λb hb=>⟨Nat.ne_of_lt (hf b hb).2,λy c e=>(hf b hb).1.2.2.2.2.1 y c (cs y c e)⟩,I.bs,
   Nat.le_trans I.ok.MG I.sz,λb o e hb=>?_,λb hb=>OT b (hf b hb).1.2.1 (hf b hb).1.2.2.1,I.stack,I.yU⟩,⟨rfl,ht⟩,I.bare,Un.kept hk,⟨_,hn,λi y v e1 e2 e3=>?_⟩,λy c e=>?_,I.hok.fresh (Nat.le_refl _),λy c e=>(I.qZ y c (cs y c e)).imp id λz=>⟨rfl,z.2⟩,λp hp=>?_,I.hok.kept hk,?_⟩
 ·show (relabel scope X.env).kind=.function
  exact S.kind
 ·have hfree:=KA S hy
  have hm:=mem_lookup hfree
  refine zN scope.names [] y (.inr ⟨hm,?_⟩)
  exact I.ok.has y (S.free _ hm rfl)
 ·rcases (hf b hb).1.2.2.2.1 with z | z
  ·exact I.ok.MN b o e z
  ·exact absurd (Nat.lt_of_lt_of_le (Heap.lt_size (I.ok.bs b o e).1) z) (Nat.lt_irrefl _)
 ·by_cases hlt:i<xs.length
  ·rw [List.getElem?_append_left (by simpa using hlt),List.getElem?_replicate] at e2
   rw [if_pos hlt] at e2;cases e2
  ·obtain ⟨j,rfl⟩:∃ j,i=xs.length+j:=⟨i - xs.length,by nofun⟩
   have JJ:(mask ks σ)[j]?=some (some v):=by
    rw [List.getElem?_append_right (by simp)] at e2
    simpa using e2
   obtain ⟨hks,eσ⟩:=r6 JJ
   have JI:X.N[j]?=some y:=by
    have:(xs++X.N)[xs.length+j]?=some y:=e1
    rw [List.getElem?_append_right (by nofun)] at this
    simpa using this
   have hfree:scope.names.lookup y=some .free:=S.cap j (List.getElem?_eq_some_iff.mp hks).1 hks y (by rw [JI];rfl)
   obtain ⟨m,hm,hl⟩:=I.loc
   have hkind:=S.free _ (mem_lookup hfree) rfl
   obtain ⟨u,r,l⟩:=hl j y v JI eσ (hkind.elim (λz=>.inr (.inl z)) λz=>.inr (.inr z))
   refine ⟨u,r,.inr ⟨xm S hfree,?_⟩⟩
   rcases l with ⟨k,_⟩ | ⟨k,c,ec,hc⟩
   ·have k':X.env.scope.names.lookup y=some .local:=k
    rcases hkind with z | z<;>(rw [k'] at z;cases z)
   ·obtain ⟨c',ZW⟩:=zN (env:=X.env) scope.names [] y (.inr ⟨mem_lookup hfree,c,ec⟩)
    have:=cs y c' ZW
    rw [ec] at this;cases this
    exact ⟨c,ZW,hc.keeps hk⟩
 ·obtain ⟨v,hc⟩:=Rc y c (cs y c e)
  exact ⟨v,hc.keeps hk⟩
 ·have JP:p∈X.pn++pins:=by
   have:p∈(X.pn++pins)++[]:=hp
   simpa using this
  obtain ⟨e,n,ne,nf,d⟩:=I.pin p JP
  exact ⟨hk _ _ e,n,lt _ _ e,OT _ ne nf,d⟩
 ·show (List.replicate xs.length none++mask ks σ).length=(xs++X.N).length
  simp [nZ,I.len]
theorem uC {Xc:Cx} {C:Addr} {u:Value} {Q:Unit→Shared→Prop} {H1:Hp}
  (S:dX X.env.scope X.N scope xs ks) (e:Xc=y9 X scope cl xs C pins s0 H0 fp E) (OU:own.length=xs.length) (hx:xs[n]?=some x) (I:Inv Xc mS (own++mask ks σ0) H1 s1) (r:RelV v u) (h:∀ s',Inv Xc mS (own.set n (some v)++mask ks σ0) H1 s'→Q () s') :
  wpAny M' A' (assign (.Name x px) Xc.env u) Q E' s1:=by
 subst e
 obtain ⟨m,hn,hl⟩:=id I.loc
 have Sx:=zO (cl:=cl) (C:=C) S (List.mem_of_getElem? hx)
 refine wpAny_assign_Name (wpAny_storeName_local Sx hn (λh' hn' hs=>?_) (by rw [show (y9 X scope cl xs C pins s0 H0 fp E).env.scope.kind=.function from S.kind];rfl))
 refine h _ ?_
 have JU:∀ b o,s0.heap.get? b=some o→b≠C:=λb o e=>Nat.ne_of_lt (Nat.lt_of_lt_of_le (Heap.lt_size e) I.ok.above)
 obtain ⟨oL,_,_,ZO,_⟩:=id hn
 have hfree:H1 C=none:=I.free
 refine ⟨I.ok,⟨I.os.1,Nat.succ_pos _⟩,I.bare,⟨λb o e n hb hx=>?_,λb o e n hb hx=>?_,I.base.free,λb o e hx=>?_,I.base.tups,I.base.rF,I.base.tG⟩,⟨_,hn',λj y v' e1 e2 e3=>?_⟩,λy c e=>?_,I.free,I.qZ,λp hp=>?_,λb ob e=>?_,by simpa using I.len⟩
 ·exact (hs.2 b (JU b o e)).trans (I.base.keep b o e n hb hx)
 ·obtain ⟨sl,e1⟩:=I.base.slot b o e n hb hx
  exact ⟨sl,(hs.2 b (JU b o e)).trans e1⟩
 ·obtain ⟨o',e1⟩:=I.base.there b o e hx
  exact ⟨o',(hs.2 b (JU b o e)).trans e1⟩
 ·have hnl:n<xs.length:=(List.getElem?_eq_some_iff.mp hx).1
  by_cases hlt:j<xs.length
  ·have ey:xs[j]?=some y:=by
    have:(xs++X.N)[j]?=some y:=e1
    rwa [List.getElem?_append_left hlt] at this
   rw [List.getElem?_append_left (by simp;nofun)] at e2
   by_cases hj:n=j
   ·subst hj
    rw [hx] at ey;cases ey
    rw [List.getElem?_set,if_pos rfl,if_pos (by nofun)] at e2
    cases e2
    exact ⟨u,r,.inl ⟨Sx,by simp⟩⟩
   ·rw [List.getElem?_set_ne hj] at e2
    have hne:y≠x:=by
     rintro rfl
     obtain ⟨h1,JI⟩:=List.getElem?_eq_some_iff.mp hx
     obtain ⟨h2,JJ⟩:=List.getElem?_eq_some_iff.mp ey
     exact hj ((List.getElem_inj S.nd).mp (JI.trans JJ.symm))
    obtain ⟨u',r',q⟩:=hl j y v' e1 (by rw [List.getElem?_append_left (by nofun)];exact e2) e3
    refine ⟨u',r',?_⟩
    rcases q with ⟨k,e⟩ | ⟨k,c,e,z⟩
    ·exact .inl ⟨k,by simpa [hne] using e⟩
    ·exact .inr ⟨k,c,e,z.sameBut hs (I.JT y c e)⟩
  ·obtain ⟨j,rfl⟩:∃ k,j=xs.length+k:=⟨j - xs.length,by nofun⟩
   have JJ:(mask ks σ0)[j]?=some (some v'):=by
    rw [List.getElem?_append_right (by simp;nofun)] at e2
    simpa [OU] using e2
   obtain ⟨u',r',q⟩:=hl (xs.length+j) y v' e1 (by rw [List.getElem?_append_right (by nofun)];simpa [OU] using JJ) e3
   refine ⟨u',r',?_⟩
   rcases q with ⟨k,e⟩ | ⟨k,c,e,z⟩
   ·obtain ⟨hks,_⟩:=r6 JJ
    have JI:X.N[j]?=some y:=by
     have:(xs++X.N)[xs.length+j]?=some y:=e1
     rw [List.getElem?_append_right (by nofun)] at this
     simpa using this
    have hfr:scope.names.lookup y=some .free:=S.cap j (List.getElem?_eq_some_iff.mp hks).1 hks y (by rw [JI];rfl)
    rcases xm (cl:=cl) (C:=C) S hfr with z | z
    ·have k':(compEnvC scope cl C X.env).kindOf y=some .local:=k
     rw [k'] at z;cases z
    ·have k':(compEnvC scope cl C X.env).kindOf y=some .local:=k
     rw [k'] at z;cases z
   ·exact .inr ⟨k,c,e,z.sameBut hs (I.JT y c e)⟩
 ·obtain ⟨w',z⟩:=I.cell y c e
  exact ⟨w',z.sameBut hs (I.JT y c e)⟩
 ·obtain ⟨e,n,ne,nf,d⟩:=I.pin p hp
  exact ⟨(hs.2 p.1 ne).trans e,n,ne,nf,d⟩
 ·refine (I.hok b ob e).stay (λc w' hc q=>(hs.2 c ?_).trans q) (λ_ q=>q) λ_ _ q=>q
  intro ec
  rcases hc with hc | hc
  ·have:H1 C=some ob:=by rw [← (show c=C from ec),hc];exact e
   rw [hfree] at this;cases this
  ·have:H1 C=some (.own b):=by rw [← (show c=C from ec)];exact hc
   rw [hfree] at this;cases this
noncomputable def FO:V→Hp→List V→Prop:=λx _ vs=>vs=[x]
noncomputable def NK (K:PySem.W.Frag) (n:Nat):V→Hp→List V→Prop:=λx H vs=>∃ a,x=.ref a∧rG K H a vs∧vs.length=n
noncomputable def Own (X:Cx) (scope:Scope) (xs:List Str) (ks:List Bool) (tg:Expr) (ow:V→Hp→List V→Prop):Prop:=
 ∀ (cl:List (Str×Addr)) (C:Addr) (pins:List (Addr×Obj)) (s0:Shared) (H0:Hp) (fp:List Addr) (E:Value→Shared→Prop) (Xc:Cx) (σ0:L2.St) (own:List (Option V)) (x:V) (vs:List V) (u:Value) (H1:Hp) (s1:Shared) (mS:List (Addr×Obj)) (E':Value→Shared→Prop) (Q:Unit→Shared→Prop),
  Xc=y9 X scope cl xs C pins s0 H0 fp E→own.length=xs.length→Inv Xc mS (own++mask ks σ0) H1 s1→RelV x u→ow x H1 vs →
  (vs.length=xs.length→∀ s',Inv Xc mS (vs.map some++mask ks σ0) H1 s'→Q () s')→wpAny (model X.prog X.w) X.A (assign tg Xc.env u) Q E' s1
theorem r8 (S:dX X.env.scope X.N scope [x] ks):Own X scope [x] ks (.Name x px) FO:=by
 intro cl C pins s0 H0 fp E Xc σ0 own v vs u H1 s1 mS E' Q e ho I r hv h
 cases hv
 match own,ho with
 | [a],_=>exact uC (own:=[a]) (n:=0) S e rfl rfl I r λs' I'=>h rfl s' I'
theorem DX {pt:Pos} {k:Nat} (hc:X.calm=true) (S:dX X.env.scope X.N scope [x,y] ks):Own X scope [x,y] ks (.Tuple [.Name x px,.Name y py] k pt) (NK X.K 2):=by
 intro cl C pins s0 H0 fp E Xc σ0 own v vs u H1 s1 mS E' Q e ho I r hv h
 obtain ⟨a,rfl,sq,hl⟩:=hv
 cases r
 match own,ho,vs,hl with
 | [a1,a2],_,[v1,v2],_=>
  have sq':rG Xc.K H1 a [v1,v2]:=by rw [e];exact sq
  obtain ⟨its,rv,ht,hz⟩:=I.tuple sq'
  cases rv with
  | cons r1 rv=>
  cases rv with
  | cons r2 rv=>
  cases rv
  have hd:X.A.handled=none:=by
   have:=I.ok.hd (by rw [e];exact hc)
   rw [e] at this;exact this
  refine assign_Tuple_tuple hd ht rfl rfl λh' hx=>?_
  have I1:Inv Xc mS ([a1,a2]++mask ks σ0) H1 {s1 with heap:=h'}:=I.kept (t':=s1.toks) λb o e=>hx b o (Nat.ne_of_lt (Heap.lt_size e)) e
  refine assignInOrder_cons (uC (own:=[a1,a2]) (n:=0) S e rfl rfl I1 r1 λs2 I2=>?_)
  refine assignInOrder_cons (uC (own:=[some v1,a2]) (n:=1) S e rfl rfl I2 r2 λs3 I3=>?_)
  exact assignInOrder_nil (h rfl _ I3)
end
end
theorem Cy {prog:Program} {w:World} {A:Around} {R:Result→Shared→Prop} {s:Shared} {elt target iter:Expr} {ifs:List Expr} {scope:Scope} {pos:Pos} {it acc:Value} {env:Env} (I:Nat→Shared→Prop)
  (turn:∀ (n:Nat) (s:Shared),I n s→wpAny (model prog w) A (pyNext it) (λr s₁=>match r with
   | none=>R (.ok .next) s₁
   | some v=>wpAny (model prog w) A (letOwnedTupleGo target it v) (λ_ s₁'=>wpAny (model prog w) A (assign target env v) (λ_ s₂=>wpAny (model prog w) A (forIn ifs true λc r=>if r=true then do let ok ← isTrue c env (eval c env);pure (ForInStep.yield ok) else pure (ForInStep.yield r)) (λok s₃=>if ok=true then wpAny (model prog w) A (eval elt env) (λx s₄=>wpAny (model prog w) A (call (.builtin "list.append") [acc,x]) (λ_ s₅=>∃ m,m<n∧I m s₅) (notedBy (model prog w) A env λe s'=>R (.error e) s') s₄) (notedBy (model prog w) A env λe s'=>R (.error e) s') s₃ else ∃ m,m<n∧I m s₃) (notedBy (model prog w) A env λe s'=>R (.error e) s') s₂) (notedBy (model prog w) A env λe s'=>R (.error e) s') s₁') (notedBy (model prog w) A env λe s'=>R (.error e) s') s₁) (notedBy (model prog w) A env λe s'=>R (.error e) s') s) (n:Nat) (h:I n s) :
  codeAny (model prog w) A (.compLoop (.ListComp elt [⟨target,iter,ifs,0⟩] scope pos) 0 it acc env) R s:=by
 refine codeAny_loop rfl I (λn s hI=>?_) n h
 refine wpAny_noted ?_
 rw [compTurn_list]
 refine wpAny_bind (wpAny_standAt (wpAny_bind (wpAny_mono (turn n s hI) (λr s₁ h₁=>?_) λ_ _ z=>z)))
 cases r with
 | none=>exact wpAny_pure h₁
 | some v=>
  refine wpAny_bind (wpAny_mono h₁ (λ_ s₂ h₂=>wpAny_bind (wpAny_mono h₂ (λ_ s₃ h₃=>wpAny_bind (wpAny_mono h₃ (λok s₄ h₄=>?_) λ_ _ z=>z)) λ_ _ z=>z)) λ_ _ z=>z)
  cases ok with
  | false=>exact wpAny_pure ⟨rfl,h₄⟩
  | true=>exact wpAny_bind (wpAny_bind (wpAny_mono h₄ (λx s₅ h₅=>wpAny_bind (wpAny_mono h₅ (λ_ s₆ h₆=>wpAny_pure (wpAny_pure ⟨rfl,h₆⟩)) λ_ _ z=>z)) λ_ _ z=>z))
noncomputable def CT (X:Cx) (ifs:List Expr) (tt:TT):Prop:=∀ (pins:List (Addr×Obj)) (s:Shared) (σ:L2.St) (H:Hp) (Q:Bool→Hp→Prop),Inv X pins σ H s→tt σ H Q →
 wpAny (model X.prog X.w) X.A (forIn ifs true λc r=>if r=true then do let ok ← isTrue c X.env (eval c X.env);pure (ForInStep.yield ok) else pure (ForInStep.yield r)) (TP X pins σ Q) X.xe s
theorem Rf:CT X [] (λ_ H Q=>Q true H):=λ_ _ _ H _ I h=>wpAny_tests_nil ⟨H,I,h⟩
noncomputable def DY (wi:TI) (ks:List Bool) (ow:V→Hp→List V→Prop) (tt:TT) (te:TE):TE:=λσ H Q=>wi σ H λJ H1=>∀ D,H1 D=none→∃ W:Nat→Nat→Hp→Prop,(∃ m,W 0 m (upd H1 D (.lst [])))∧∀ i m H,W i m H →
  (J.stop i H∧Q (.ref D) H)∨(J.go i H∧∀ x H',J.Bp i H x H'→∃ vs,ow x H' vs∧tt (vs.map some++mask ks σ) H' λb H2=>if b=true then te (vs.map some++mask ks σ) H2 λv H3=>∃ ys,H3 D=some (.lst ys)∧ys.length<sizeLine∧∃ m',m'<m∧W (i+1) m' (upd H3 D (.lst (ys++[v]))) else ∃ m',m'<m∧W (i+1) m' H2)
section
variable {X:Cx} {scope:Scope} {xs:List Str} {tg:Expr} {ow:V→Hp→List V→Prop} {ks:List Bool} {pins:List (Addr×Obj)} {σ:L2.St} {H:Hp} {s s4:Shared} {fp:List Addr} {E:Value→Shared→Prop} {h1:Heap} {elt iter:Expr} {ifs:List Expr} {px pos:Pos} {tt:TT} {te:TE} {wi:TI}
theorem yc {h h' B B':Heap}:∀ {l:List Env},h.FunFrames B l→(∀ b∈frs l,∀ o,h.get? b=some o→(∀ vs,o.data≠.fields vs)→∃ o',h'.get? b=some o'∧o'.data=o.data)→(∀ b∈frs l,B'.get? b=none)→h'.FunFrames B' l
 | [],_,_,_=>trivial
 | env::r,⟨hk,⟨L,o,hf,_,ho,hd⟩,hr⟩,hm,hB=>by
  have sub:∀ b,b=L∨b∈frs r→b∈frs (env::r):=λb hb=>by
   unfold frs;rw [List.filterMap_cons,hf]
   rcases hb with z | z
   ·rw [z];exact List.mem_cons_self
   ·exact List.mem_cons_of_mem _ z
  obtain ⟨o',e1,e2⟩:=hm L (sub L (.inl rfl)) o ho hd
  exact ⟨hk,⟨L,o',hf,hB L (sub L (.inl rfl)),e1,by rw [e2];exact hd⟩,yc hr (λb hb=>hm b (sub b (.inr hb))) λb hb=>hB b (sub b (.inr hb))⟩
theorem FP {D C e:Addr} {cls:Value} {c:XD} {mS:List (Addr×Obj)} {σ':L2.St} {H' HD:Hp} {s3 s':Shared} {cl:List (Str×Addr)} {RE:Value→Shared→Prop} (Rg:oQ X EE) (hst:∃ lK mw L,X.stack=lK::mw∧X.env.frame=lK.frame∧lK.frame=some L)
  (I3:Inv X pins σ HD s3) (hC:C=s3.heap.objs.size) (f3:∀ b∈fp,pq X pins HD b∧b<s3.heap.objs.size)
  (X0:∀ s'':Shared,(∃ m,s''.heap.Ns C m∧∀ h',Heap.SameBut C s''.heap h'→∀ cenv:Env,cenv.locals=C→wpAny (model X.prog X.w) X.A (passOn "comprehension.variables-let-go" (.ref e) cenv:Sem Value) (λ_ _=>False) X.xe {s'' with heap:=h'})→RE (.ref e) s'')
  (I':Inv (y9 X scope cl xs C pins s3 HD fp E) mS σ' H' s') (fx:Uj (y9 X scope cl xs C pins s3 HD fp E) H' e cls s') (hc:Ky X.mg c cls) (ee:EE c σ H') :
  notedBy (model X.prog X.w) X.A (compEnvC scope cl C X.env) RE (.ref e) s':=by
 obtain ⟨B,fb,hok,NJ⟩:=fx
 obtain ⟨lK,mw,L,h1,h2,h3⟩:=hst
 show wpAny _ X.A (noteFrame (.ref e) (compEnvC scope cl C X.env)) _ _ s'
 rw [FL (show (compEnvC scope cl C X.env).frame=lK.frame from h2)]
 have hfr:X.A.frames=some (lK::mw):=by rw [← h1];exact I3.ok.frames
 have fb':IW B (lK::mw) e cls s'.heap:=by rw [← h1];exact fb
 refine G7 hfr h3 fb' λh5 a0 hH u5=>?_
 obtain ⟨k1,k2,k3,oe,vs,T,oT,ts,he,hcls,hd,hv1,Ug,Uh,hT,JO,ht3⟩:=hH
 have ZX:h5.FunFrames B X.stack:=by rw [h1];exact k3
 obtain ⟨m,hm,_⟩:=id I'.loc
 have ZY:h5.Ns C m:=u5.ns hm
 refine X0 _ ⟨m,ZY,λh6 sb cenv _=>?_⟩
 obtain ⟨oC,esC,epC,hoC,hdC,_⟩:=id ZY
 have OJ:∀ {b:Addr} {o:Obj} {ws:Array Value},h5.get? b=some o→o.data=.fields ws→b≠C:=λ{b o ws} q d z=>by
  rw [z,hoC] at q;cases q;rw [hdC] at d;cases d
 have X3:=(sb.2 e (OJ he hd)).trans he
 have ZZ:=(sb.2 T (OJ hT JO)).trans hT
 have Z0:3<ts.size:=(Array.getElem?_eq_some_iff.mp ht3).1
 unfold passOn setFlight
 refine wpAny_bind (wpAny_field X3 hd hv1 ?_)
 rw [if_neg (show ¬ ((Value.ref T==Value.none)=true) by simp)]
 have fin:X.xe (.ref e) {s' with heap:=h6.update T (Obj.mapFields (·.setIfInBounds 3 (cenv.frame.elim .none λf=>rawInt f)))}:=by
  have Uo:∀ b,b≠T→(h6.update T (Obj.mapFields (·.setIfInBounds 3 (cenv.frame.elim .none λf=>rawInt f)))).get? b=h6.get? b:=λb hb=>Heap.get?_update_other _ _ (Ne.symm hb)
  have tT:∀ b,b≠T→b≠C→(h6.update T (Obj.mapFields (·.setIfInBounds 3 (cenv.frame.elim .none λf=>rawInt f)))).get? b=h5.get? b:=λb hb hb2=>(Uo b hb).trans (sb.2 b hb2)
  generalize hh7:h6.update T (Obj.mapFields (·.setIfInBounds 3 (cenv.frame.elim .none λf=>rawInt f)))=h7 at Uo tT
  have hT7:h7.get? T=some (Obj.mapFields (·.setIfInBounds 3 (cenv.frame.elim .none λf=>rawInt f)) oT):=by rw [← hh7];exact Heap.get?_update_self _ ZZ (Obj.isFreed_of_fields (Obj.data_mapFields JO _))
  have BnT:∀ b o,B.get? b=some o→b≠T:=λb o q z=>by rw [z,Ug] at q;cases q
  have WG:∀ b o,(B.hide C).get? b=some o→h7.get? b=some o:=λb o q=>by
   have q':=Heap.of_hide q
   have nC:b≠C:=λz=>by rw [z,Heap.hide_self] at q;cases q
   rw [tT b (BnT b o q') nC]
   exact k1 b o q'
  have hide:∀ b o,b≠C→B.get? b=some o→(B.hide C).get? b=some o:=λb o z q=>(Heap.hide_ne B z).trans q
  have Rh:∀ b o,s3.heap.get? b=some o→b≠C:=λb o q=>by rw [hC];exact Nat.ne_of_lt (Heap.lt_size q)
  have Up:pV X.prog X.w H' (B.hide C):=Kz hok λb o n q=>hide b o (λz=>n (by rw [z];exact I'.free)) q
  have XY:∀ b,b∉frs X.stack→b∉X.fs:=λb hb z=>hb (by
   rcases I3.ok.stk with q | ⟨q,_⟩
   ·rw [q];exact z
   ·rw [q];unfold frs;rw [List.filterMap_cons];split
    ·exact z
    ·exact List.mem_cons_of_mem _ z)
  have slot:∀ b o,s3.heap.get? b=some o→b∈frs X.stack→∃ sl,h7.get? b=some {o with slots:=sl}:=λb o q hb=>by
   obtain ⟨_,o',q',hnf⟩:=I3.stack.mem hb
   rw [q] at q';cases q'
   obtain ⟨sl,e1⟩:=I'.base.slot b o q (I3.yU b hb) hb λz=>(I'.ok.MO b z) hb
   obtain ⟨S9,e2⟩:=u5 b _ e1 hnf
   refine ⟨S9,?_⟩
   rw [tT b (λz=>by rw [z,hT] at e2;cases e2;exact hnf _ JO) (Rh b o q)]
   exact e2
  have un:Un (frs X.stack) fp HD H' s3.heap h7:=⟨λb o q n hb hx=>WG b o (hide b o (Rh b o q) (NJ.keep b o q n hb hx)),λb o q n hb hx=>slot b o q hb,λb o q n hx=>I'.base.free b o q n hx,λb o q hx=>by
   by_cases hb:b∈frs X.stack
   ·obtain ⟨sl,z⟩:=slot b o q hb
    exact ⟨_,z⟩
   ·obtain ⟨o',z⟩:=NJ.there b o q hb hx
    exact ⟨o',WG b o' (hide b o' (Rh b o q) z)⟩,I'.base.tups,I'.base.rF,I'.base.tG⟩
  have I7:Inv X pins σ H' {s' with heap:=h7}:=I3.JW (ch:=fp) I'.os un (Up.kept WG) I'.bare λb hb=>by
   obtain ⟨g0,g1,g2,g3,g4,g5⟩:=(f3 b hb).1
   exact ⟨g3,g1,g4,g5⟩
  have Z1:∀ b o,X.s₀.heap.get? b=some o→b∉X.ex→b∉fp:=λb o q hx hb=>by
   obtain ⟨g0,g1,g2,g3,g4,g5⟩:=(f3 b hb).1
   rcases g3 with z | z
   ·exact hx z
   ·exact absurd (Nat.lt_of_lt_of_le (Heap.lt_size q) z) (Nat.lt_irrefl _)
  refine Rg pins σ H' _ e cls c I7 ⟨B.hide C,⟨WG,?_,?_,.inr ⟨a0,_,oe,vs,T,_,_,?_,hcls,hd,hv1,?_,Uh,hT7,Obj.data_mapFields JO _,by simp [Z0];rfl⟩⟩,Up,⟨λb o q n hb hx=>?_,λb o q hb hx=>?_,λp hp=>?_⟩⟩ hc ee
  ·cases q:(B.hide C).get? e with
   | none=>rfl
   | some o=>have:=Heap.of_hide q;rw [k2] at this;cases this
  ·refine yc ZX (λb hb o q hnf=>?_) λb hb=>?_
   ·refine ⟨o,?_,rfl⟩
    show h7.get? b=some o
    rw [tT b (λz=>by rw [z,hT] at q;cases q;exact hnf _ JO) ?_]
    ·exact q
    ·obtain ⟨_,o',q',_⟩:=I3.stack.mem hb
     exact Rh b o' q'
   ·cases q:(B.hide C).get? b with
    | none=>rfl
    | some o=>have:=Heap.of_hide q;rw [(ZX.mem hb).1] at this;cases this
  ·exact (tT e (Ne.symm Uh) (OJ he hd)).trans he
  ·cases q:(B.hide C).get? T with
   | none=>rfl
   | some o=>have:=Heap.of_hide q;rw [Ug] at this;cases this
  ·have q3:=I3.base.keep b o q n (XY b hb) hx
   exact hide b o (Rh b o q3) (NJ.keep b o q3 (I3.base.free b o q n hx) hb (Z1 b o q hx))
  ·obtain ⟨o',q3⟩:=I3.base.there b o q hx
   obtain ⟨Z3,z⟩:=NJ.there b o' q3 hb (Z1 b o q hx)
   exact ⟨Z3,hide b Z3 (Rh b o' q3) z⟩
  ·exact hide _ _ (Rh _ _ (I3.pin p (List.mem_append_left _ hp)).1) (NJ.pins p (List.mem_append_left _ hp))
 first
  | (refine wpAny_bind (wpAny_pure ?_);refine wpAny_bind (wpAny_bind (wpAny_field X3 hd hv1 ?_)))
  | refine wpAny_bind (wpAny_bind (wpAny_field X3 hd hv1 ?_))
 rw [if_pos (show (Value.ref T != Value.none)=true by simp)]
 exact wpAny_setField ZZ JO Z0 (wpAny_throw fin)
theorem zP {Q:VK} {J:It} {it:Addr} {tn:Nat→Heap→Prop} {RR:Value→Addr→Result→Shared→Prop} (Rg:oQ X EE) (hst:∃ lK mw L,X.stack=lK::mw∧X.env.frame=lK.frame∧lK.frame=some L) (S:dX X.env.scope X.N scope xs ks) (how:Own X scope xs ks tg ow) (hc:X.calm=true) (I:Inv X pins σ H s)
  (T:Turn X.prog X.w X.K tg J fp it tn) (st:tn 0 s.heap) (hf:∀ b∈fp,pq X pins H b)
  (hb:∀ (cl:List (Str×Addr)) (C:Addr) (pins:List (Addr×Obj)) (s0:Shared) (H0:Hp) (fp:List Addr) (E:Value→Shared→Prop),oQ (y9 X scope cl xs C pins s0 H0 fp E) (λc _ H'=>EE c σ H')→CT (y9 X scope cl xs C pins s0 H0 fp E) ifs tt∧PE (y9 X scope cl xs C pins s0 H0 fp E) elt te)
  (hw:∀ D,H D=none→∃ W:Nat→Nat→Hp→Prop,(∃ m,W 0 m (upd H D (.lst [])))∧∀ i m H,W i m H →
   (J.stop i H∧Q (.ref D) H)∨(J.go i H∧∀ x H',J.Bp i H x H'→∃ vs,ow x H' vs∧tt (vs.map some++mask ks σ) H' λb H2=>if b=true then te (vs.map some++mask ks σ) H2 λv H3=>∃ ys,H3 D=some (.lst ys)∧ys.length<sizeLine∧∃ m',m'<m∧W (i+1) m' (upd H3 D (.lst (ys++[v]))) else ∃ m',m'<m∧W (i+1) m' H2))
  (hRR:∀ (D C:Addr) (s':Shared) (H':Hp) (m:Str→Option Value),Inv X pins σ H' s'→s'.heap.Ns C m→H' C=none→C≠X.env.locals→X.s₀.heap.objs.size≤C→(∀ x c,X.env.cells.lookup x=some c→c≠C)→(∀ p∈X.pn++pins,p.1≠C)→Q (.ref D) H'→RR (.ref D) C (.ok .next) s')
  (X0:∀ (acc:Value) (C e:Addr) (s'':Shared),(∃ m,s''.heap.Ns C m∧∀ h',Heap.SameBut C s''.heap h'→∀ cenv:Env,cenv.locals=C→wpAny (model X.prog X.w) X.A (passOn "comprehension.variables-let-go" (.ref e) cenv:Sem Value) (λ_ _=>False) X.xe {s'' with heap:=h'})→RR acc C (.error (.ref e)) s'') :
  wpAny (model X.prog X.w) X.A (newList []) (λacc s₃=>wpAny (model X.prog X.w) X.A (newFunctionEnv scope X.env.globals (kN X.env scope.names []) [] X.env.qual none .none (some X.env)) (λcenv s₄=>
   codeAny (model X.prog X.w) X.A (.compStart (.ListComp elt [⟨tg,iter,ifs,0⟩] scope pos) 0 (.ref it) acc {cenv with scope:=relabel scope X.env}) (RR acc cenv.locals) s₄) E s₃) E s:=by
 refine wpAny_newObj_type (wpAny_newFunctionEnv S.xj (by intro y hy;simp at hy) (λh₁ Uq Ur=>?_) S.kind)
 have I3:Inv X pins σ (upd H s.heap.objs.size (.lst [])) {s with heap:=s.heap.push {cls:=.type "list",dict:=none,data:=.seq ([]:List Value).toArray}}:=
  I.laid (t':=s.toks) (λb o e=>Heap.get?_push_of_some _ e) (Nat.le_refl _) ⟨Nat.zero_le _,[],0,.nil,Heap.get?_push_size _ rfl⟩
 have hfree:=I.hok.fresh (Nat.le_refl s.heap.objs.size)
 generalize Z4:({s with heap:=s.heap.push {cls:=.type "list",dict:=none,data:=.seq ([]:List Value).toArray}}:Shared)=s3 at I3 Uq Ur ⊢
 have hsz:s3.heap.objs.size=s.heap.objs.size+1:=by rw [← Z4];exact Heap.size_push ..
 have Us:∀ b o,s.heap.get? b=some o→s3.heap.get? b=some o:=λb o e=>by rw [← Z4];exact Heap.get?_push_of_some _ e
 have Ut:∀ b∈fp,b<s.heap.objs.size:=λb hb'=>by
  obtain ⟨o,e,_⟩:=T.obj 0 _ st b hb'
  exact Heap.lt_size e
 have f3:∀ b∈fp,pq X pins (upd H s.heap.objs.size (.lst [])) b∧b<s3.heap.objs.size:=λb hb'=>
  ⟨⟨by rw [aI (Nat.ne_of_lt (Ut b hb'))];exact (hf b hb').1,(hf b hb').2⟩,by rw [hsz];exact Nat.lt_succ_of_lt (Ut b hb')⟩
 have KC:∀ b o,s3.heap.get? b=some o→h₁.get? b=some o:=λb o e=>Ur.extBut b o (Nat.ne_of_lt (Heap.lt_size e)) (Heap.get?_push_of_some _ e)
 obtain ⟨W,⟨m0,w0⟩,turn⟩:=hw s.heap.objs.size hfree
 generalize hX:y9 X scope (kN X.env scope.names []) xs s3.heap.objs.size pins s3 (upd H s.heap.objs.size (.lst [])) fp (notedBy (model X.prog X.w) X.A (compEnvC scope (kN X.env scope.names []) s3.heap.objs.size X.env) λe s'=>RR (.ref s.heap.objs.size) s3.heap.objs.size (.error e) s')=Xc
 have I4:Inv Xc [] (List.replicate xs.length none++mask ks σ) (upd H s.heap.objs.size (.lst [])) {s3 with heap:=h₁,toks:=s3.toks+([]:List (Str×Value)).length}:=by
  rw [← hX]
  exact FN S I3 f3 (by simpa using Uq) KC _
 have MF:CT Xc ifs tt∧PE Xc elt te:=by
  rw [← hX]
  exact hb _ _ _ _ _ _ _ λmS σ' H' s' e cls c I' fx hc ee=>FP (RE:=λe s'=>RR (.ref s.heap.objs.size) s3.heap.objs.size (.error e) s') (D:=s.heap.objs.size) Rg hst I3 rfl f3 (λs''=>X0 _ _ e s'') I' fx hc ee
 have DZ:Xc.prog=X.prog:=by rw [← hX];rfl
 have ew:Xc.w=X.w:=by rw [← hX];rfl
 have eK:Xc.K=X.K:=by rw [← hX];rfl
 have eA:Xc.A=X.A:=by rw [← hX];rfl
 have OV:Xc.calm=true:=by rw [← hX];exact hc
 have X4:Xc.xe=notedBy (model X.prog X.w) X.A Xc.env λe s'=>RR (.ref s.heap.objs.size) s3.heap.objs.size (.error e) s':=by rw [← hX];rfl
 have Ri:Xc.env=compEnvC scope (kN X.env scope.names []) s3.heap.objs.size X.env:=by rw [← hX];rfl
 have ab5:Xc.stack=X.stack:=by rw [← hX];rfl
 have X5:∀ {H':Hp},(∀ b∈fp,H' b=none)→∀ b∈fp,pq Xc [] H' b:=λ{H'} hn b hb'=>by
  obtain ⟨g0,g1,g2,g3,g4,g5⟩:=(f3 b hb').1
  rw [← hX]
  refine ⟨hn b hb',Nat.ne_of_lt (f3 b hb').2,λz=>(List.mem_cons.mp (I3.uw b z)).elim g1 g2,.inl hb',λy c e=>g4 y c (zM scope.names [] (λy c e=>by simp at e) y c e),λp hp=>g5 p ?_⟩
  have:p∈(X.pn++pins)++[]:=hp
  simpa using this
 have fin:∀ (s':Shared) (H':Hp) (a0:List (Option V)),Inv Xc [] (a0++mask ks σ) H' s'→Q (.ref s.heap.objs.size) H'→RR (.ref s.heap.objs.size) s3.heap.objs.size (.ok .next) s':=λs' H' a0 I' q=>by
  have hloc:=I'.loc
  obtain ⟨m,hm,_⟩:=hloc
  have hC:H' s3.heap.objs.size=none:=by have:=I'.free;rw [Ri] at this;exact this
  have hU:Un (frs X.stack) fp (upd H s.heap.objs.size (.lst [])) H' s3.heap s'.heap:=by
   have:=I'.base
   rw [← hX] at this
   exact this
  have hos:s'.os=s3.os∧0<s'.toks:=by have:=I'.os;rw [← hX] at this;exact this
  have X6:pV X.prog X.w H' s'.heap:=by have:=I'.hok;rw [← hX] at this;exact this
  have I5:Inv X pins σ H' s':=I3.JW hos hU X6 I'.bare λb hb'=>by
   obtain ⟨g0,g1,g2,g3,g4,g5⟩:=(f3 b hb').1
   exact ⟨g3,g1,g4,g5⟩
  refine hRR _ _ s' H' m I5 (by rw [Ri] at hm;exact hm) hC (Nat.ne_of_gt I3.lt) (Nat.le_trans I3.sz (Nat.le_refl _)) (λy c e z=>?_) (λp hp z=>?_) q
  ·obtain ⟨v,hv⟩:=I3.cell y c e
   exact absurd hv.lt (by rw [z];exact Nat.lt_irrefl _)
  ·exact absurd (Heap.lt_size (I3.pin p hp).1) (by rw [z];exact Nat.lt_irrefl _)
 have loop:codeAny (model X.prog X.w) X.A (.compLoop (.ListComp elt [⟨tg,iter,ifs,0⟩] scope pos) 0 (.ref it) (.ref s.heap.objs.size) Xc.env) (RR (.ref s.heap.objs.size) s3.heap.objs.size)
   {s3 with heap:=h₁,toks:=s3.toks+([]:List (Str×Value)).length}:=by
  refine Cy (λn s'=>∃ i a0 H',a0.length=xs.length∧Inv Xc [] (a0++mask ks σ) H' s'∧tn i s'.heap∧(∀ b∈fp,H' b=none)∧W i n H') ?_ m0 ⟨0,List.replicate xs.length none,_,by simp,I4,T.keep 0 _ _ st λb hb' o e=>KC b o (Us b o e),λb hb'=>(f3 b hb').1.1,w0⟩
  rintro n s5 ⟨i,a0,H5,la0,I5,Sv,Wv,w5⟩
  rcases turn i n H5 w5 with ⟨stop,q⟩ | ⟨go,step⟩
  ·have hd:=T.done Xc DZ ew eK OV i [] s5 _ H5 (λ_ _=>False) I5 (X5 Wv) Sv stop
   rw [eA] at hd
   refine wpAny_mono hd (λr s6 hr=>?_) (λ_ _ z=>False.elim z)
   obtain ⟨rfl,I6⟩:=hr
   exact fin s6 H5 a0 I6 q
  ·have hd:=T.item Xc DZ ew eK OV i [] s5 _ H5 (λ_ _=>False) I5 (X5 Wv) Sv go
   rw [eA] at hd
   refine wpAny_mono hd (λr s6 hr=>?_) (λ_ _ z=>False.elim z)
   obtain ⟨u,rfl,h6⟩:=hr
   refine wpAny_mono h6 (λ_ s7 hq=>?_) (λ_ _ z=>False.elim z)
   obtain ⟨v,H7,I7,r7,y7,X7,fr7⟩:=hq
   obtain ⟨vs,hvs,step⟩:=step v H7 y7
   have I7':Inv Xc (wV fp s7.heap) (a0++mask ks σ) H7 s7:=by
    have:=Inv.pinned (pins:=[]) I7 (X5 fr7) (T.obj _ _ X7)
    simpa using this
   have back:∀ {σ':L2.St} {H':Hp} {s':Shared},Inv Xc (wV fp s7.heap) σ' H' s'→Inv Xc [] σ' H' s'∧tn (i+1) s'.heap∧∀ b∈fp,H' b=none:=λ{σ' H' s'} I'=>by
    refine ⟨I'.Cf λp hp=>absurd hp (by simp),T.keep _ _ _ X7 λb hb' o e=>(I'.pin (b,o) (List.mem_append_right _ (pW hb' e))).1,λb hb'=>?_⟩
    obtain ⟨o,e,d⟩:=T.obj _ _ X7 b hb'
    exact (I'.pin (b,o) (List.mem_append_right _ (pW hb' e))).2.1
   refine how _ _ _ _ _ _ _ Xc σ a0 v vs u H7 s7 _ _ _ hX.symm la0 I7' r7 hvs λZ5 s8 I8'=>?_
   have ht:=MF.1 _ s8 _ H7 _ I8' step
   rw [DZ,ew,eA,X4] at ht
   refine wpAny_mono ht (λokb s9 h9=>?_) (λ_ _ z=>z)
   obtain ⟨H9,I9,q9⟩:=h9
   cases okb with
   | false=>
    rw [if_neg Bool.false_ne_true] at q9 ⊢
    obtain ⟨m',hm',w'⟩:=q9
    obtain ⟨I9',st9,fr9⟩:=back I9
    exact ⟨m',hm',i+1,vs.map some,H9,by simpa using Z5,I9',st9,fr9,w'⟩
   | true=>
    rw [if_pos rfl] at q9 ⊢
    have he:=MF.2 _ s9 _ H9 _ I9 q9
    rw [DZ,ew,eA,X4] at he
    refine wpAny_mono he (λy s10 X8=>?_) (λ_ _ z=>z)
    obtain ⟨yv,H10,I10,r10,ys,hD,hlen,m',hm',w'⟩:=X8
    have ha:=By (X:=Xc) _ s10 _ H10 (.ref s.heap.objs.size) [yv] (.ref s.heap.objs.size) [y] (λ_ H'=>∃ m',m'<n∧W (i+1) m' H') I10 rfl (.cons r10 .nil) ⟨_,ys,yv,rfl,rfl,hD,hlen,m',hm',w'⟩
    rw [DZ,ew,eA,X4] at ha
    refine wpAny_mono ha (λ_ s11 h11=>?_) (λ_ _ z=>z)
    obtain ⟨_,H11,I11,_,m'',Yb,w''⟩:=h11
    obtain ⟨Yc,Yd,Ye⟩:=back I11
    exact ⟨m'',Yb,i+1,vs.map some,H11,by simpa using Z5,Yc,Yd,Ye,w''⟩
 rw [Ri] at loop
 exact codeAny_compStart_list loop (T.self X.A 0 _ _ _ (T.keep 0 _ _ st λb hb' o e=>KC b o (Us b o e)) loop)
theorem Cz {tt:L2.St→TT} {te:L2.St→TE} (Rg:oQ X EE) (hst:∃ lK mw L,X.stack=lK::mw∧X.env.frame=lK.frame∧lK.frame=some L) (S:dX X.env.scope X.N scope xs ks) (how:Own X scope xs ks tg ow) (hc:X.calm=true) (hi:PI X tg iter wi)
  (hb:∀ (σ:L2.St) (cl:List (Str×Addr)) (C:Addr) (pins:List (Addr×Obj)) (s0:Shared) (H0:Hp) (fp:List Addr) (E:Value→Shared→Prop),oQ (y9 X scope cl xs C pins s0 H0 fp E) (λc _ H'=>EE c σ H')→CT (y9 X scope cl xs C pins s0 H0 fp E) ifs (tt σ)∧PE (y9 X scope cl xs C pins s0 H0 fp E) elt (te σ))
  (hs:∀ x,foldedSetIterable iter X.env x=pure x:=by intro _;rfl):PE X (.ListComp elt [⟨tg,iter,ifs,0⟩] scope pos) (λσ=>DY wi ks ow (tt σ) (te σ) σ):=by
 intro pins s σ H Q I h
 rw [eval_ListComp]
 refine wpAny_comprehension_free (use:=none) rfl hs (tU λy hy hfr=>I.ok.has y.1 (S.free y hy hfr)) S.kind S.names (gw (hi pins s σ H _ I h) λv s1 h1=>gw h1 λitv s2 h2=>?_)
 obtain ⟨it,fp,tn,J,H2,rfl,I2,T,st2,f2,q⟩:=h2
 refine zP (RR:=λacc C=>compPost (model X.prog X.w) X.A X.xe none (EP X pins σ Q) acc C) Rg hst S how hc I2 T st2 f2 (hb σ) q ?_ (λ_ _ _ _ z=>z)
 intro D C s' H' m I' hn hC h1 h2 h3 h4 q'
 refine ⟨m,hn,λh' sb=>?_⟩
 exact ⟨.ref D,H',I'.turned (t':=s'.toks) (λb o hb e=>(sb.2 b hb).trans e) hC h1 (.inr h2) h3 h4,rfl,q'⟩
theorem NL {tt:L2.St→TT} {te:L2.St→TE} (Rg:oQ X EE) (hst:∃ lK mw L,X.stack=lK::mw∧X.env.frame=lK.frame∧lK.frame=some L) {y:Str} {i:Nat} {py spos:Pos} (S:dX X.env.scope X.N scope xs ks) (how:Own X scope xs ks tg ow) (hc:X.calm=true) (hN:X.N.Nodup) (hi:PI X tg iter wi) (hy:X.N[i]?=some y) (hl:X.env.scope.names.lookup y=some .local)
  (hsw:swapsWith (.ListComp elt [⟨tg,iter,ifs,0⟩] scope pos) (some (.Name y py)) spos.line X.env=pure true)
  (hb:∀ (σ:L2.St) (cl:List (Str×Addr)) (C:Addr) (pins:List (Addr×Obj)) (s0:Shared) (H0:Hp) (fp:List Addr) (E:Value→Shared→Prop),oQ (y9 X scope cl xs C pins s0 H0 fp E) (λc _ H'=>EE c σ H')→CT (y9 X scope cl xs C pins s0 H0 fp E) ifs (tt σ)∧PE (y9 X scope cl xs C pins s0 H0 fp E) elt (te σ))
  (hs:∀ x,foldedSetIterable iter X.env x=pure x:=by intro _;rfl):PS X (.Assign [.Name y py] (.ListComp elt [⟨tg,iter,ifs,0⟩] scope pos) spos) (P7 (λσ=>DY wi ks ow (tt σ) (te σ) σ) (Dv i)):=by
 intro pins s σ H Dd I h
 rw [exec_Assign_Name_used _ _ _ _ hsw]
 refine wpAny_bind (wpAny_standAt (wpAny_bind ?_))
 show wpAny _ X.A (do let _ ← comprehension (.ListComp elt [⟨tg,iter,ifs,0⟩] scope pos) scope X.env _ (newList []) false (eval iter X.env) (some (assign (.Name y py) X.env))) _ _ s
 refine wpAny_bind (wpAny_mono (wpAny_comprehension_free (use:=some (assign (.Name y py) X.env)) (Q:=λ_ s'=>SP X pins Dd .next s') rfl hs (tU λy hy hfr=>I.ok.has y.1 (S.free y hy hfr)) S.kind S.names
  (gw (hi pins s σ H _ I h) λv s1 h1=>gw h1 λitv s2 h2=>?_)) (λ_ s' hq=>wpAny_pure (wpAny_pure hq)) λ_ _ e=>e)
 obtain ⟨it,fp,tn,J,H2,rfl,I2,T,st2,f2,q⟩:=h2
 refine zP (Q:=λv H'=>Dd.nx (σ.set i (some v)) H') (RR:=λacc C=>compPost (model X.prog X.w) X.A X.xe (some (assign (.Name y py) X.env)) (λ_ s'=>SP X pins Dd .next s') acc C) Rg hst S how hc I2 T st2 f2 (hb σ) q ?_ (λ_ _ _ _ z=>z)
 intro D C s' H' m I' hn hC h1 h2 h3 h4 q'
 show wpAny _ X.A (assign (.Name y py) X.env (.ref D)) _ _ s'
 refine wpAny_assign_Name (wR I' hN hy (.inl hl) (v:=.ref D) (u:=.ref D) rfl (λs'' I'' sb=>?_) (.inr hl))
 obtain ⟨a,sb,ha⟩:=sb
 have hne:C≠a:=by
  rcases ha with e | e
  ·rw [e];exact h1
  ·exact λz=>h3 y a e z.symm
 refine ⟨m,hn.sameBut sb hne,λh'' sb'=>?_⟩
 exact ⟨_,H',I''.turned (t':=s''.toks) (λb o hb e=>(sb'.2 b hb).trans e) hC h1 (.inr h2) h3 h4,q'⟩
end
noncomputable def oN:D→Option (List D):=λd=>some [d]
noncomputable def oT (n:Nat):D→Option (List D)
 | .tup xs=>if xs.length=n then some xs else none
 | _=>none
noncomputable def tL (K:PySem.W.Frag) (mg:Str→Option Value) (ow:V→Hp→List V→Prop) (gO:D→Option (List D)):Prop:=
 ∀ (ρ:List Addr) (H:Hp) (d:D) (v:V) (os:List D),Rep K mg ρ H d v→gO d=some os→∃ vs,ow v H vs∧aC K mg ρ H os vs
theorem pF:tL K mg FO oN:=λρ H d v os r e=>by
 cases e
 exact ⟨[v],rfl,.cons r .nil⟩
theorem D0:tL K mg (NK K n) (oT n):=λρ H d v os r e=>by
 cases d<;>try (cases e;done)
 rename_i xs
 dsimp only [oT] at e
 by_cases h:xs.length=n
 ·rw [if_pos h] at e;cases e
  unfold Rep at r
  obtain ⟨a,vs,rfl,sq,rs⟩:=r
  exact ⟨vs,⟨a,rfl,sq,by rw [← rs.length];exact h⟩,rs⟩
 ·rw [if_neg h] at e;cases e
noncomputable def CA (K:PySem.W.Frag) (mg:Str→Option Value) (H H':Hp) (ρ:List Addr):Prop:=fh K H H' ρ ρ∧∀ G,jR K mg H ρ G→jR K mg H' ρ G
theorem CA.refl:CA K mg H H ρ:=⟨.refl,λ_ h=>h⟩
theorem CA.new {o:HO} (hp:H p=none):CA K mg H (upd H p o) ρ:=⟨fX hp ρ,λ_ h=>h.new hp⟩
noncomputable def gW (gO:D→Option (List D)) (ks:List Bool) (tt:DS→M Bool) (te:DS→M D) (n:Nat) (d:D) (τ:DS) (G:DH):Out Unit:=match gO d with
 | none=>.stuck
 | some os=>match tt (os.map some++mask ks τ) G with
 | .ok true G1=>match te (os.map some++mask ks τ) G1 with
  | .ok v G2=>match G2[n]? with
   | some (.lst ys)=>if ys.length<sizeLine then .ok () (G2.set n (.lst (ys++[v]))) else .stuck
   | _=>.stuck
  | .dU c G2=>.dU c G2
  | .stuck=>.stuck
 | .ok false G1=>.ok () G1
 | .dU c G1=>.dU c G1
 | .stuck=>.stuck
noncomputable def gB (gO:D→Option (List D)) (ks:List Bool) (tt:DS→M Bool) (te:DS→M D) (n:Nat):List D→DS→DH→Out D
 | [],_,G=>.ok (.obj n) G
 | d::r,τ,G=>match gW gO ks tt te n d τ G with
  | .ok _ G'=>gB gO ks tt te n r τ G'
  | .dU c G'=>.dU c G'
  | .stuck=>.stuck
noncomputable def yd (gO:D→Option (List D)) (ks:List Bool) (tt:DS→M Bool) (te:DS→M D) (n src:Nat):Nat→Nat→DS→DH→Out D
 | 0,_,_,_=>.stuck
 | f+1,k,τ,G=>match G[src]? with
  | some (.lst xs)=>match xs[k]? with
   | none=>.ok (.obj n) G
   | some d=>match gW gO ks tt te n d τ G with
    | .ok _ G'=>yd gO ks tt te n src f (k+1) τ G'
    | .dU c G'=>.dU c G'
    | .stuck=>.stuck
  | _=>.stuck
noncomputable def ri (gO:D→Option (List D)) (ks:List Bool) (m:DS→M D) (tt:DS→M Bool) (te:DS→M D):DS→M D:=λτ=>(m τ).bind λd G=>match d with
 | .obj k=>match G[k]? with
  | some (.lst xs)=>yd gO ks tt te G.length k (xs.length+1) 0 τ (G++[.lst []])
  | _=>.stuck
 | .tup xs=>gB gO ks tt te G.length xs τ (G++[.lst []])
 | .con xs=>gB gO ks tt te G.length xs τ (G++[.lst []])
 | .str z=>gB gO ks tt te G.length (z.cps.toList.map λc=>.str ⟨#[c]⟩) τ (G++[.lst []])
 | _=>.stuck
noncomputable def mz (Iu:List D→Option (List D)) (gO:D→Option (List D)) (ks:List Bool) (m:DS→M (List D)) (tt:DS→M Bool) (te:DS→M D):DS→M D:=λτ=>(m τ).bind λds G=>match Iu ds with
 | some xs=>gB gO ks tt te G.length xs τ (G++[.lst []])
 | none=>.stuck
section
variable {X:Cx} {EE:gA} {gO:D→Option (List D)} {ow:V→Hp→List V→Prop} {xs:List Str} {tg:Expr} {ks:List Bool} {tt:DS→M Bool} {te:DS→M D}
theorem IY (h:zx K mg H ρ σ τ) (r:aC K mg ρ H os vs):zx K mg H ρ (vs.map some++mask ks σ) (os.map some++mask ks τ):=by
 have hl:=r.length
 refine ⟨by simp [nZ,h.1,hl],λi e he=>?_⟩
 by_cases hi:i<os.length
 ·rw [List.getElem?_append_left (by simpa using hi),List.getElem?_map] at he
  cases q:os[i]? with
  | none=>rw [q] at he;cases he
  | some d=>
   rw [q] at he;cases he
   obtain ⟨v,e1,r1⟩:=r.get q
   exact ⟨v,by rw [List.getElem?_append_left (by simp;nofun),List.getElem?_map,e1];rfl,r1⟩
 ·rw [List.getElem?_append_right (by simp;nofun)] at he
  obtain ⟨h1,h2⟩:=r6 he
  obtain ⟨w,e1,r1⟩:=h.2 _ e h2
  refine ⟨w,?_,r1⟩
  rw [List.getElem?_append_right (by simp;nofun)]
  have:=G8 h1 e1
  simpa [hl] using this
noncomputable def za (EE:gA) (σ:L2.St):gA:=λc _ H'=>EE c σ H'
theorem xo (hO:tL X.K X.mg ow gO) {W:Hp→Prop} {n:Nat} {p:Addr} {σ:L2.St} {H:Hp} {τ:DS} {ρ:List Addr} {G:DH} {d:D} {v:V} (ab:Ab X.K X.mg σ H τ ρ G) (r:Rep X.K X.mg ρ H d v) (hn:ρ[n]?=some p)
  (hW:match gW gO ks tt te n d τ G with
   | .stuck=>False
   | .ok _ G'=>∀ H' ρ',fh X.K H H' ρ ρ'→Ab X.K X.mg σ H' τ ρ' G'→W H'
   | .dU c G'=>∀ H' ρ',fh X.K H H' ρ ρ'→Ab X.K X.mg σ H' τ ρ' G'→EE c σ H') :
  ∃ vs,ow v H vs∧liftT X.K X.mg (za EE σ) tt (vs.map some++mask ks σ) H λb H2=>if b=true then cS X.K X.mg (za EE σ) te (vs.map some++mask ks σ) H2 λu H3=>∃ ys,H3 p=some (.lst ys)∧ys.length<sizeLine∧W (upd H3 p (.lst (ys++[u]))) else W H2:=by
 unfold gW at hW
 cases qo:gO d with
 | none=>rw [qo] at hW;exact hW.elim
 | some os=>
 rw [qo] at hW
 dsimp only at hW
 obtain ⟨us,yF,rus⟩:=hO ρ H d v os r qo
 refine ⟨us,yF,?_⟩
 refine ⟨_,ρ,G,⟨IY ab.st rus,ab.hp⟩,?_⟩
 cases q:tt (os.map some++mask ks τ) G with
 | stuck=>rw [q] at hW;exact hW
 | dU c G1=>rw [q] at hW;exact λH' ρ' f di=>hW H' ρ' f ⟨ab.st.mono f,di.hp⟩
 | ok b G1=>
  rw [q] at hW
  intro H1 ρ1 f1 nB
  cases b with
  | false=>
   rw [if_neg Bool.false_ne_true]
   exact hW H1 ρ1 f1 ⟨ab.st.mono f1,nB.hp⟩
  | true=>
   rw [if_pos rfl]
   dsimp only at hW
   refine ⟨_,ρ1,G1,nB,?_⟩
   cases q2:te (os.map some++mask ks τ) G1 with
   | stuck=>rw [q2] at hW;exact hW
   | dU c G2=>rw [q2] at hW;exact λH' ρ' f di=>hW H' ρ' (f1.trans f) ⟨ab.st.mono (f1.trans f),di.hp⟩
   | ok u G2=>
    rw [q2] at hW
    dsimp only at hW
    intro w H2 ρ2 f2 dW r2
    cases q3:G2[n]? with
    | none=>rw [q3] at hW;exact hW.elim
    | some o=>
     cases o with
     | lst ys=>
      rw [q3] at hW
      dsimp only at hW
      by_cases hl:ys.length<sizeLine
      ·rw [if_pos hl] at hW
       dsimp only at hW
       obtain ⟨p',vs,e1,e2,rs⟩:=dW.hp.lst q3
       have NN:=f1.trans f2
       rw [NN.get hn] at e1;cases e1
       refine ⟨vs,e2,by rw [← rs.length];exact hl,?_⟩
       have f3:fh X.K H2 (upd H2 p (.lst (vs++[w]))) ρ2 ρ2:=yX e2 ρ2
       exact hW _ ρ2 (NN.trans f3) ⟨ab.st.mono (NN.trans f3),dW.hp.put (ds:=ys) (NN.get hn) e2 (rs.append (.cons r2 .nil))⟩
      ·rw [if_neg hl] at hW;exact hW.elim
     | _=>first | (rw [q] at ok;exact ok.elim) | (rw [q] at bD;exact bD.elim) | (rw [q3] at hW;exact hW.elim) | (rw [q] at e;cases e;done) | (rw [g] at ok;exact ok.elim) | (rw [g] at q;cases q;done) | (rw [g] at h;cases h;done) | exact ok.elim
theorem qc (hO:tL X.K X.mg ow gO) {Q:VK} {J:It} {H0:Hp} {σ:L2.St} {ρ0:List Addr} {G0:DH} {τ:DS} (ds:List D)
  (go:∀ i H ρ,i<ds.length→fh X.K H0 H ρ0 ρ→J.go i H) (stop:∀ i H ρ,ds.length≤i→fh X.K H0 H ρ0 ρ→J.stop i H)
  (Bp:∀ i d H ρ x H',ds[i]?=some d→fh X.K H0 H ρ0 ρ→J.Bp i H x H'→CA X.K X.mg H H' ρ∧Rep X.K X.mg ρ H' d x)
  (ab:Ab X.K X.mg σ H0 τ ρ0 G0) (ok:pA X.K X.mg EE H0 σ τ ρ0 (gB gO ks tt te G0.length ds τ (G0++[.lst []])) Q) :
  ∀ D,H0 D=none→∃ W:Nat→Nat→Hp→Prop,(∃ m,W 0 m (upd H0 D (.lst [])))∧∀ i m H,W i m H →
   (J.stop i H∧Q (.ref D) H)∨(J.go i H∧∀ x H',J.Bp i H x H'→∃ vs,ow x H' vs∧liftT X.K X.mg (za EE σ) tt (vs.map some++mask ks σ) H' λb H2=>if b=true then cS X.K X.mg (za EE σ) te (vs.map some++mask ks σ) H2 λv H3=>∃ ys,H3 D=some (.lst ys)∧ys.length<sizeLine∧∃ m',m'<m∧W (i+1) m' (upd H3 D (.lst (ys++[v]))) else ∃ m',m'<m∧W (i+1) m' H2):=by
 intro D hD
 have f0:fh X.K H0 (upd H0 D (.lst [])) ρ0 (ρ0++[D]):=(fX hD ρ0).trans (jk ρ0 D)
 have KD:Ab X.K X.mg σ (upd H0 D (.lst [])) τ (ρ0++[D]) (G0++[.lst []]):=ab.fut f0 (ab.hp.more hD .nil)
 have hn0:(ρ0++[D])[G0.length]?=some D:=by rw [← ab.hp.hl,aY]
 refine ⟨λi m H=>i≤ds.length∧m=ds.length - i∧∃ ρ G,Ab X.K X.mg σ H τ ρ G∧fh X.K H0 H ρ0 ρ∧ρ[G0.length]?=some D∧pA X.K X.mg EE H σ τ ρ (gB gO ks tt te G0.length (ds.drop i) τ G) Q,
  ⟨ds.length,Nat.zero_le _,rfl,ρ0++[D],_,KD,f0,hn0,by simpa using ok.fut f0⟩,?_⟩
 rintro i m H ⟨hi,rfl,ρ,G,ab,f,hn,ok⟩
 by_cases hlt:i<ds.length
 ·refine .inr ⟨go i H ρ hlt f,λx H' y=>?_⟩
  obtain ⟨⟨fN,hN⟩,rx⟩:=Bp i ds[i] H ρ x H' (List.getElem?_eq_getElem hlt) f y
  replace ok:=pA.fut fN ok
  replace ab:Ab X.K X.mg σ H' τ ρ G:=ab.fut fN (hN _ ab.hp)
  replace f:=f.trans fN
  rw [List.drop_eq_getElem_cons hlt] at ok
  unfold gB at ok
  refine xo hO (W:=λH3=>∃ m',m'<ds.length - i∧i+1≤ds.length∧m'=ds.length - (i+1)∧∃ ρ G,Ab X.K X.mg σ H3 τ ρ G∧fh X.K H0 H3 ρ0 ρ∧ρ[G0.length]?=some D∧pA X.K X.mg EE H3 σ τ ρ (gB gO ks tt te G0.length (ds.drop (i+1)) τ G) Q)
    ab rx hn ?_
  cases e:gW gO ks tt te G0.length ds[i] τ G with
  | stuck=>rw [e] at ok;exact ok
  | dU c G'=>rw [e] at ok;exact ok
  | ok _ G'=>
   rw [e] at ok
   exact λH3 ρ3 f3 yZ=>⟨ds.length - (i+1),by nofun,hlt,rfl,ρ3,G',yZ,f.trans f3,f3.get hn,ok.fut f3⟩
 ·have e:i=ds.length:=by nofun
  subst e
  refine .inl ⟨stop _ H ρ (Nat.le_refl _) f,?_⟩
  rw [List.drop_eq_nil_of_le (Nat.le_refl _)] at ok
  exact ok _ H ρ .refl ab (by unfold Rep;exact ⟨D,rfl,hn⟩)
theorem KG (hO:tL X.K X.mg ow gO) {Q:VK} {H0:Hp} {σ:L2.St} {ρ0:List Addr} {G0:DH} {τ:DS} {k fuel:Nat} {p:Addr} (hk:ρ0[k]?=some p)
  (ab:Ab X.K X.mg σ H0 τ ρ0 G0) (ok:pA X.K X.mg EE H0 σ τ ρ0 (yd gO ks tt te G0.length k fuel 0 τ (G0++[.lst []])) Q) :
  ∀ D,H0 D=none→∃ W:Nat→Nat→Hp→Prop,(∃ m,W 0 m (upd H0 D (.lst [])))∧∀ i m H,W i m H →
   ((MH X.K p).stop i H∧Q (.ref D) H)∨((MH X.K p).go i H∧∀ x H',(MH X.K p).Bp i H x H'→∃ vs,ow x H' vs∧liftT X.K X.mg (za EE σ) tt (vs.map some++mask ks σ) H' λb H2=>if b=true then cS X.K X.mg (za EE σ) te (vs.map some++mask ks σ) H2 λv H3=>∃ ys,H3 D=some (.lst ys)∧ys.length<sizeLine∧∃ m',m'<m∧W (i+1) m' (upd H3 D (.lst (ys++[v]))) else ∃ m',m'<m∧W (i+1) m' H2):=by
 intro D hD
 have f0:fh X.K H0 (upd H0 D (.lst [])) ρ0 (ρ0++[D]):=(fX hD ρ0).trans (jk ρ0 D)
 have KD:Ab X.K X.mg σ (upd H0 D (.lst [])) τ (ρ0++[D]) (G0++[.lst []]):=ab.fut f0 (ab.hp.more hD .nil)
 have hn0:(ρ0++[D])[G0.length]?=some D:=by rw [← ab.hp.hl,aY]
 refine ⟨λi m H=>∃ ρ G,Ab X.K X.mg σ H τ ρ G∧fh X.K H0 H ρ0 ρ∧ρ[G0.length]?=some D∧pA X.K X.mg EE H σ τ ρ (yd gO ks tt te G0.length k m i τ G) Q,
  ⟨fuel,ρ0++[D],_,KD,f0,hn0,ok.fut f0⟩,?_⟩
 rintro i m H ⟨ρ,G,ab,f,hn,ok⟩
 cases m with
 | zero=>exact ok.elim
 | succ m=>
  unfold yd at ok
  cases q:G[k]? with
  | none=>rw [q] at ok;exact ok.elim
  | some o=>
   cases o with
   | lst ds=>
    rw [q] at ok
    dsimp only at ok
    obtain ⟨p',xs,e1,e2,rs⟩:=ab.hp.lst q
    rw [f.get hk] at e1;cases e1
    cases qd:ds[i]? with
    | none=>
     rw [qd] at ok
     have hl:xs.length≤i:=by rw [← rs.length];exact List.getElem?_eq_none_iff.mp qd
     exact .inl ⟨⟨xs,.of e2,hl⟩,ok _ H ρ .refl ab (by unfold Rep;exact ⟨D,rfl,hn⟩)⟩
    | some d=>
     rw [qd] at ok
     dsimp only at ok
     obtain ⟨x0,ex,rx⟩:=rs.get qd
     refine .inr ⟨⟨xs,x0,.of e2,ex⟩,λx H' y=>?_⟩
     obtain ⟨rfl,y⟩:=y
     have e3:=y xs (.of e2)
     rw [ex] at e3;cases e3
     refine xo hO (W:=λH3=>∃ m',m'<m+1∧∃ ρ G,Ab X.K X.mg σ H3 τ ρ G∧fh X.K H0 H3 ρ0 ρ∧ρ[G0.length]?=some D∧pA X.K X.mg EE H3 σ τ ρ (yd gO ks tt te G0.length k m' (i+1) τ G) Q)
       ab rx hn ?_
     cases e:gW gO ks tt te G0.length d τ G with
     | stuck=>rw [e] at ok;exact ok
     | dU c G'=>rw [e] at ok;exact ok
     | ok _ G'=>
      rw [e] at ok
      exact λH3 ρ3 f3 yZ=>⟨m,Nat.lt_succ_self _,ρ3,G',yZ,f.trans f3,f3.get hn,ok.fut f3⟩
   | _=>first | (rw [q] at ok;exact ok.elim) | (rw [q] at bD;exact bD.elim) | (rw [q3] at hW;exact hW.elim) | (rw [q] at e;cases e;done) | (rw [g] at ok;exact ok.elim) | (rw [g] at q;cases q;done) | (rw [g] at h;cases h;done) | exact ok.elim
variable {scope:Scope} {elt iter a b:Expr} {ifs:List Expr} {px pos:Pos} {m:DS→M D}
theorem IZ (hO:tL X.K X.mg ow gO) {σ:L2.St} {H:Hp} {Q:VK} (h:cS X.K X.mg EE (ri gO ks m tt te) σ H Q) :
  DY (λσ H R=>cS X.K X.mg EE m σ H λx H1=>(∃ p,x=.ref p∧(∃ xs,q8 X.K H1 p xs)∧R (MH X.K p) H1)∨(∃ p,x=.ref p∧(∃ xs,rG X.K H1 p xs)∧R (Wu X.K p) H1)∨∃ z,x=.str z∧R (ND z) H1) ks ow (liftT X.K X.mg (za EE σ) tt) (cS X.K X.mg (za EE σ) te) σ H Q:=by
 obtain ⟨τ,ρ,G,ab,ok⟩:=rX (k:=λτ d G=>match d with
  | .obj k=>match G[k]? with
   | some (.lst xs)=>yd gO ks tt te G.length k (xs.length+1) 0 τ (G++[.lst []])
   | _=>.stuck
  | .tup xs=>gB gO ks tt te G.length xs τ (G++[.lst []])
  | .con xs=>gB gO ks tt te G.length xs τ (G++[.lst []])
  | .str z=>gB gO ks tt te G.length (z.cps.toList.map λc=>.str ⟨#[c]⟩) τ (G++[.lst []])
  | _=>.stuck) h
 refine ⟨τ,ρ,G,ab,?_⟩
 cases e:m τ G with
 | stuck=>rw [e] at ok;exact ok
 | dU c G'=>rw [e] at ok;exact ok
 | ok d G'=>
  rw [e] at ok
  intro v H1 ρ1 f1 nB r1
  obtain ⟨τ2,ρ2,G2,d2,dW,r2,bD⟩:=ok v H1 ρ1 f1 nB r1
  cases d2<;>try exact bD.elim
  case obj n=>
   dsimp only at bD
   unfold Rep at r2
   obtain ⟨p,rfl,e1⟩:=r2
   cases q:G2[n]? with
   | none=>rw [q] at bD;exact bD.elim
   | some o=>
    cases o with
    | lst xs=>
     rw [q] at bD
     obtain ⟨p',vs,e2,h2,rs⟩:=dW.hp.lst q
     rw [e1] at e2;cases e2
     exact .inl ⟨p,rfl,⟨vs,.of h2⟩,KG hO e1 dW bD⟩
    | _=>first | (rw [q] at ok;exact ok.elim) | (rw [q] at bD;exact bD.elim) | (rw [q3] at hW;exact hW.elim) | (rw [q] at e;cases e;done) | (rw [g] at ok;exact ok.elim) | (rw [g] at q;cases q;done) | (rw [g] at h;cases h;done) | exact ok.elim
  case tup xs=>
   unfold Rep at r2
   obtain ⟨p,vs,rfl,sq,rs⟩:=r2
   refine .inr (.inl ⟨p,rfl,⟨vs,sq⟩,qc hO xs (λi H' ρ' hi f=>?_) (λi H' ρ' hi f=>?_) (λi d' H' ρ' x Ub hd f y=>?_) dW bD⟩)
   ·rw [rs.length] at hi
    exact ⟨vs,vs[i],f.tup _ _ sq,List.getElem?_eq_getElem hi⟩
   ·exact ⟨vs,f.tup _ _ sq,by rw [← rs.length];exact hi⟩
   ·obtain ⟨rfl,y⟩:=y
    obtain ⟨w',ew,rw'⟩:=rs.get hd
    have:=y vs (f.tup _ _ sq)
    rw [ew] at this;cases this
    exact ⟨.refl,rw'.mono f⟩
  case con xs=>
   unfold Rep at r2
   obtain ⟨p,vs,rfl,sq,rs⟩:=r2
   refine .inl ⟨p,rfl,⟨vs,sq.seq⟩,qc hO xs (λi H' ρ' hi f=>?_) (λi H' ρ' hi f=>?_) (λi d' H' ρ' x Ub hd f y=>?_) dW bD⟩
   ·rw [rs.length] at hi
    exact ⟨vs,vs[i],(f.con _ _ sq).seq,List.getElem?_eq_getElem hi⟩
   ·exact ⟨vs,(f.con _ _ sq).seq,by rw [← rs.length];exact hi⟩
   ·obtain ⟨rfl,y⟩:=y
    obtain ⟨w',ew,rw'⟩:=rs.get hd
    have:=y vs (f.con _ _ sq).seq
    rw [ew] at this;cases this
    exact ⟨.refl,rw'.mono f⟩
  case str z=>
   unfold Rep at r2;subst r2
   refine .inr (.inr ⟨z,rfl,qc hO (z.cps.toList.map λc=>.str ⟨#[c]⟩) (λi H' ρ' hi f=>?_) (λi H' ρ' hi f=>?_) (λi d' H' ρ' x Ub hd f y=>?_) dW bD⟩)
   ·simpa [ND] using hi
   ·simpa [ND] using hi
   ·obtain ⟨rfl,c,hc,rfl⟩:=y
    rw [List.getElem?_map] at hd
    have:z.cps.toList[i]?=some c:=by simpa using hc
    rw [this] at hd
    cases hd
    exact ⟨.refl,by unfold Rep;rfl⟩
noncomputable def zQ (X:Cx) (scope:Scope) (xs:List Str) (ifs:List Expr) (elt:Expr) (tt:DS→M Bool) (te:DS→M D):Prop:=
 ∀ (cl:List (Str×Addr)) (C:Addr) (pins:List (Addr×Obj)) (s0:Shared) (H0:Hp) (fp:List Addr) (E:Value→Shared→Prop) (EE:gA),oQ (y9 X scope cl xs C pins s0 H0 fp E) EE→CT (y9 X scope cl xs C pins s0 H0 fp E) ifs (liftT X.K X.mg EE tt)∧QE (y9 X scope cl xs C pins s0 H0 fp E) EE elt te
noncomputable def lN:DS→M Bool:=λ_=>M.ret true
theorem kO (h:∀ (cl:List (Str×Addr)) (C:Addr) (pins:List (Addr×Obj)) (s0:Shared) (H0:Hp) (fp:List Addr) (E:Value→Shared→Prop) (EE:gA),oQ (y9 X scope cl xs C pins s0 H0 fp E) EE→QE (y9 X scope cl xs C pins s0 H0 fp E) EE elt te):zQ X scope xs [] elt lN te:=
 λcl C pins s0 H0 fp E EE hx=>⟨λmS s σ H Q I zz=>by obtain ⟨τ,ρ,G,ab,ok⟩:=zz;exact Rf mS s σ H Q I (ok H ρ .refl ab),h cl C pins s0 H0 fp E EE hx⟩
noncomputable def gC (X:Cx):Prop:=∃ lK mw L,X.stack=lK::mw∧X.env.frame=lK.frame∧lK.frame=some L
theorem NO (hx:oQ X EE) (hst:gC X) (S:dX X.env.scope X.N scope xs ks) (how:Own X scope xs ks tg ow) (hO:tL X.K X.mg ow gO) (hc:X.calm=true) (ha:QE X EE iter m) (hb:zQ X scope xs ifs elt tt te) (hs:∀ x,foldedSetIterable iter X.env x=pure x:=by intro _;rfl) :
  QE X EE (.ListComp elt [⟨tg,iter,ifs,0⟩] scope pos) (ri gO ks m tt te):=PE.mono (Cz (tt:=λσ=>liftT X.K X.mg (za EE σ) tt) (te:=λσ=>cS X.K X.mg (za EE σ) te) hx hst S how hc (PI.any ha) (λσ cl C pins s0 H0 fp E=>hb cl C pins s0 H0 fp E _) hs) λ_ _ _ h=>IZ hO h
theorem KH (hO:tL X.K X.mg ow gO) {Q:VK} {H0:Hp} {σ:L2.St} {ρ0:List Addr} {G0:DH} {τ:DS} (lo:Int) (n:Nat) (ab:Ab X.K X.mg σ H0 τ ρ0 G0)
  (ok:pA X.K X.mg EE H0 σ τ ρ0 (gB gO ks tt te G0.length ((List.range n).map λ(k:Nat)=>.int (lo+(k:Int))) τ (G0++[.lst []])) Q) :
  ∀ D,H0 D=none→∃ W:Nat→Nat→Hp→Prop,(∃ m,W 0 m (upd H0 D (.lst [])))∧∀ i m H,W i m H →
   ((Ci lo n).stop i H∧Q (.ref D) H)∨((Ci lo n).go i H∧∀ x H',(Ci lo n).Bp i H x H'→∃ vs,ow x H' vs∧liftT X.K X.mg (za EE σ) tt (vs.map some++mask ks σ) H' λb H2=>if b=true then cS X.K X.mg (za EE σ) te (vs.map some++mask ks σ) H2 λv H3=>∃ ys,H3 D=some (.lst ys)∧ys.length<sizeLine∧∃ m',m'<m∧W (i+1) m' (upd H3 D (.lst (ys++[v]))) else ∃ m',m'<m∧W (i+1) m' H2):=
 qc hO (J:=Ci lo n) _ (λi H ρ hi f=>by simpa [Ci] using hi) (λi H ρ hi f=>by simpa [Ci] using hi) (λi d H ρ x H' hd f y=>by
  obtain ⟨rfl,rfl⟩:=y
  rw [List.getElem?_map] at hd
  cases q:(List.range n)[i]? with
  | none=>rw [q] at hd;cases hd
  | some k=>
   rw [q] at hd
   obtain ⟨hk,e⟩:=List.getElem?_eq_some_iff.mp q
   rw [List.getElem_range] at e
   subst e
   cases hd
   exact ⟨.refl,by unfold Rep;rfl⟩) ab ok
variable {ma:DS→M (List D)}
theorem D3 (hO:tL X.K X.mg ow gO) {σ:L2.St} {H:Hp} {Q:VK} (h:cS X.K X.mg EE (mz kL gO ks ma tt te) σ H Q):DY (OL (ny X.K X.mg EE ma)) ks ow (liftT X.K X.mg (za EE σ) tt) (cS X.K X.mg (za EE σ) te) σ H Q:=by
 obtain ⟨τ,ρ,G,ab,ok⟩:=pZ (k:=λτ ds G=>match kL ds with | some xs=>gB gO ks tt te G.length xs τ (G++[.lst []]) | none=>.stuck) h
 refine ⟨τ,ρ,G,ab,?_⟩
 cases e:ma τ G with
 | stuck=>rw [e] at ok;exact ok
 | dU c G'=>rw [e] at ok;exact ok
 | ok ds G'=>
  rw [e] at ok
  intro vs H1 ρ1 f1 nB r1
  obtain ⟨τ2,ρ2,G2,d2,dW,r2,bD⟩:=ok vs H1 ρ1 f1 nB r1
  cases q:kL d2 with
  | none=>rw [q] at bD;exact bD.elim
  | some xs=>
   rw [q] at bD
   unfold kL at q
   split at q
   ·rename_i j
    split at q
    ·rename_i hj
     cases q
     obtain ⟨v,rfl,h1⟩:=jU r2
     unfold Rep at h1;subst h1
     exact ⟨j,rfl,hj.1,hj.2,KH hO 0 j.toNat dW bD⟩
    ·cases q
   ·cases q
theorem KI {t:TE} (hl:∀ σ H Q,cS X.K X.mg EE me σ H Q→t σ H Q) {Dd:Ends} {σ:L2.St} {H:Hp} (h:jl X.K X.mg EE (bP i me) Dd σ H):P7 t (Dv i) Dd σ H:=by
 obtain ⟨τ,ρ,G,ab,ok⟩:=h
 refine hl σ H (λv H1=>Dv i v σ H1 Dd.nx) ⟨τ,ρ,G,ab,?_⟩
 dsimp only [bP,fM] at ok
 cases e:me τ G with
 | stuck=>rw [e] at ok;exact ok
 | dU c G'=>rw [e] at ok;exact λH' ρ' f di=>ok σ H' ρ' f di
 | ok d G'=>rw [e] at ok;exact λv H' ρ' f di r=>ok _ H' ρ' f (di.set r)
theorem I8 {p pc:Pos} (hx:oQ X EE) (hst:gC X) (S:dX X.env.scope X.N scope xs ks) (how:Own X scope xs ks tg ow) (hO:tL X.K X.mg ow gO) (hc:X.calm=true) (hm:X.mg "range"=none) (ha:QA X EE [a] ma) (hb:zQ X scope xs ifs elt tt te) (BE:Gl X "range":=by rfl) (Yg:starEach [a] X.env=[(false,eval a X.env)]:=by rfl)
  (hs:∀ x,foldedSetIterable (.Call (.Name "range" p) [a] [] pc) X.env x=pure x:=by intro _;rfl) :
  QE X EE (.ListComp elt [⟨tg,.Call (.Name "range" p) [a] [] pc,ifs,0⟩] scope pos) (mz kL gO ks ma tt te):=PE.mono (Cz (tt:=λσ=>liftT X.K X.mg (za EE σ) tt) (te:=λσ=>cS X.K X.mg (za EE σ) te) hx hst S how hc (Br BE hm ha Yg) (λσ cl C pins s0 H0 fp E=>hb cl C pins s0 H0 fp E _) hs) λ_ _ _ h=>D3 hO h
end
theorem dD {k:Nat} (r:iH k A):A.units+600<cLine:=by have:=r.un;nofun
theorem Uu {EE:gA} {f:Addr} {pos:Pos} (hm:X.mg x=some (.ref f)) (hg:Gl X x:=by rfl) (hd:(x==("__debug__":Str))=false:=by decide):QE X EE (.Name x pos) (eC (.fn x)):=
 Kh (GQ hg hm (v:=.ref f) rfl hd) λ_ _=>by unfold Rep;exact ⟨f,rfl,hm⟩
noncomputable def dQ:Expr→Bool
 | .Starred ..=>false
 | _=>true
noncomputable def plainT:Expr→Bool
 | .UnaryOp .Not _ _=>false
 | .BoolOp ..=>false
 | .IfExp ..=>false
 | .Compare ..=>false
 | _=>true
noncomputable def qe:Expr→Bool
 | .Set ..=>false
 | _=>true
noncomputable def CB:Expr→Bool
 | .ListComp ..=>false
 | .SetComp ..=>false
 | .DictComp ..=>false
 | _=>true
noncomputable def CC:Expr→Bool
 | .Call (.Name _ _) [] [] _=>false
 | _=>true
noncomputable def G9:Expr→Bool
 | .Slice ..=>false
 | _=>true
noncomputable def aB:List Expr→Bool
 | []=>true
 | e::es=>dQ e&&aB es
theorem bR (h:dQ e=true) (es:List Expr) (env:Env):starEach (e::es) env=(false,eval e env)::starEach es env:=by
 cases e<;>first | rfl | cases h
theorem Ja (h:plainT e=true) (env:Env) (whole:Sem Value):isTrue e env whole=(do let v ← whole;standAt e.pos;holding [v] (truthy v)):=by
 cases e<;>first | rfl | cases h | (rename_i op _ _;cases op<;>first | rfl | cases h)
theorem qf (h:qe e=true) (env:Env) (x:Value):foldedSetIterable e env x=pure x:=by
 cases e<;>first | rfl | cases h
theorem CD (h:CB e=true) (t:Option Expr) (l:Nat) (env:Env):swapsWith e t l env=pure false:=by
 cases e<;>first | rfl | cases h
theorem n6 (h:CC e=true) (n:Str) (env:Env):attributeBase e n env (eval e env)=eval e env:=by
 unfold attributeBase
 split
 ·cases h
 ·rfl
theorem Uv (h:G9 e=true):yW e:=λo i=>by
 cases e<;>first | rfl | cases h
theorem Hf (h:qe e=true) (op:CmpOp):behindInMarks op e=false:=by
 cases e<;>first | rfl | cases h
theorem bY {env:Env} {pos:Pos}:∀ {es:List Expr},aB es=true→(backTo pos (starEach es env)).any (·.1)=false
 | [],_=>rfl
 | e::es,h=>by
  have h':dQ e=true∧aB es=true:=by simpa [aB] using h
  rw [bR h'.1]
  have ih:=bY (env:=env) (pos:=pos) h'.2
  show (false||(backTo pos (starEach es env)).any (·.1))=false
  rw [ih];rfl
theorem BH {env:Env} {pos:Pos}:∀ {es:List Expr},aB es=true→(backTo pos (starEach es env)).all (λx=>!x.1)=true
 | [],_=>rfl
 | e::es,h=>by
  have h':dQ e=true∧aB es=true:=by simpa [aB] using h
  rw [bR h'.1]
  have ih:=BH (env:=env) (pos:=pos) h'.2
  show (!false&&(backTo pos (starEach es env)).all (λx=>!x.1))=true
  rw [ih];rfl
theorem KJ (h:aB es=true) (hl:es.length<30):((backTo pos (starEach es env)).all (λx=>!x.1)&&(backToKw pos (keywordEach [] env)).all (λx=>x.1.isSome)
   && decide (es.length+([]:List Keyword).length+(if ([]:List Keyword).isEmpty then 0 else 1)<30))=true:=by
 rw [BH h]
 simp only [Bool.true_and,Bool.and_eq_true,decide_eq_true_eq]
 exact ⟨rfl,by simpa using hl⟩
section
variable {X:Cx} {EE:gA} {a b c e o:Expr} {es:List Expr} {ma mb mc me mo:DS→M D} {pos p apos cpos:Pos} {m:DS→M (List D)} {ms mt:MS} {x:Str} {ks:List Bool} {tt:DS→M Bool} {te:DS→M D}
theorem CF {m:DS→M D} (ha:QE X EE e m) (hr:QA X EE es r) (h:dQ e=true:=by rfl):QA X EE (e::es) (af m r):=Nv ha hr (bR h _ _)
theorem ah (i:Nat) (hv:OI X.env.scope x) (hd:(x==("__debug__":Str))=false∧(x==("__classdict__":Str))=false) (hN:X.N[i]?=some x:=by rfl):QE X EE (.Name x pos) (ai i):=QM i hN hv hd.1 hd.2
theorem OW {f:Addr} (hm:X.mg x=some (.ref f)) (hg:Gl X x) (hd:(x==("__debug__":Str))=false∧(x==("__classdict__":Str))=false):QE X EE (.Name x pos) (eC (.fn x)):=Uu hm hg hd.1
theorem av (ha:QE X EE a ma) (hb:QE X EE b mb) (h:G9 b=true:=by rfl):QE X EE (.Subscript a b pos) (aE fB ma mb):=Kp ha hb (Uv h)
theorem cA (ho:nv X (compareOp op) (rD X EE f)) (ha:QE X EE a ma) (hb:QE X EE b mb) (h:qe b=true:=by rfl):QT X EE (.Compare a [op] [b] pos) (kK (aE f ma mb)):=Q0 ho ha hb (Hf h _)
theorem uD (ha:QE X EE a ma) (h:plainT a=true:=by rfl):QT X EE a (mj tH ma):=QU ha (Ja h _)
theorem KL {g:D→D→M D} (ho:nv X (compareOp op) (rD X EE f)) (ho':nv X (compareOp op') (rD X EE g)) (ha:QE X EE a ma) (hb:QE X EE b mb) (hc:QE X EE c mc) (h:qe c=true:=by rfl):QE X EE (.Compare a [op,op'] [b,c] pos) (zI f g ma mb mc):=
 Kr ho ho' ha hb hc (by show behindInMarks op' c=false;exact Hf h _)
theorem pG {f:List D→M D} (hc:jb X (.builtin id) (JM X EE f)) (hm:X.mg x=none) (hg:Gl X x) (hv:bootBuiltins x=some (.builtin id)) (ha:QA X EE (e::es) m) (hn:x≠"__name__":=by decide) (hdb:(x==("__debug__":Str))=false:=by decide) (h:aB (e::es)=true:=by rfl) :
  QE X EE (.Call (.Name x p) (e::es) [] pos) (au f m):=by
 have h':dQ e=true∧aB es=true:=by simpa [aB] using h
 exact Kn hc zK hm ha hg hv hn hdb (bR h'.1 _ _) (bY h'.2)
theorem xq {f:List D→M D} (hc:jb X (.type id) (JM X EE f)) (hm:X.mg x=none) (hg:Gl X x) (hv:bootBuiltins x=some (.type id)) (ha:QA X EE (e::es) m) (hn:x≠"__name__":=by decide) (hdb:(x==("__debug__":Str))=false:=by decide) (h:aB (e::es)=true:=by rfl) :
  QE X EE (.Call (.Name x p) (e::es) [] pos) (au f m):=by
 have h':dQ e=true∧aB es=true:=by simpa [aB] using h
 exact IL hc zK hm ha hg hv hn hdb (bR h'.1 _ _) (bY h'.2)
theorem fF (hm:X.mg "len"=none) (hg:Gl X "len") (ha:QA X EE [e] m) (h:aB [e]=true:=by rfl):QE X EE (.Call (.Name "len" p) [e] [] pos) (au gj m):=pG IS hm hg PySem.boot_len ha (by decide) (by decide) h
theorem NP (hc:X.calm=true) (hm:X.mg "max"=none) (hg:Gl X "max") (ha:QA X EE [e,a] m) (h:aB [e,a]=true:=by rfl):QE X EE (.Call (.Name "max" p) [e,a] [] pos) (au (kM λi j=>if j > i then j else i) m):=pG (IT hc) hm hg PyProof.Rows.boot_max ha (by decide) (by decide) h
theorem Hg (hc:X.calm=true) (hm:X.mg "min"=none) (hg:Gl X "min") (ha:QA X EE [e,a] m) (h:aB [e,a]=true:=by rfl):QE X EE (.Call (.Name "min" p) [e,a] [] pos) (au (kM λi j=>if j<i then j else i) m):=pG (IU hc) hm hg PyProof.Rows.boot_min ha (by decide) (by decide) h
theorem xr (c:Ty) {pt:Pos} (hc:c≠.i9) (hm:X.mg "isinstance"=none) (hmt:X.mg x=none) (hg:Gl X "isinstance") (hgt:Gl X x) (ha:QE X EE a ma) (hb:bootBuiltins x=some (.type c.nm)) (hnt:x≠"__name__") (hdt:(x==("__debug__":Str))=false) (h:dQ a=true:=by rfl) :
  QE X EE (.Call (.Name "isinstance" p) [a,.Name x pt] [] pos) (Cw c ma):=Q9 c hc hm hmt ha hb hg hgt hnt hdt (bR h _ _) (bR rfl _ _) (bY (es:=[.Name x pt]) rfl)
theorem bE {CX:yE} {k:Nat} {f:Addr} {ps:List Str} (F:bV X.prog X.w X.K X.mg X.base CX k f fd ps (bJ X.K X.mg n mf)) (hr:iH k X.A) (hm:X.mg x=some (.ref f)) (hk:PySem.W.keepIn X.K (.ref f)=true) (hb:Binds X.K fd ps []) (hx:OR CX X EE) (hg:Gl X x)
  (hd:(x==("__debug__":Str))=false∧(x==("__classdict__":Str))=false) (ha:QA X EE (e::es) m) (h:aB (e::es)=true:=by rfl):QE X EE (.Call (.Name x p) (e::es) [] pos) (bL n mf m):=by
 have h':dQ e=true∧aB es=true:=by simpa [aB] using h
 exact NG F hr hm hk hb hx ha hg hd.1 (bR h'.1 _ _) (bY h'.2)
theorem kP (ho:QE X EE o mo) (ha:QA X EE [e] m) (hb:CC o=true:=by rfl) (h:aB [e]=true:=by rfl) (hline:(apos.endLine==cpos.line)=true:=by rfl):QE X EE (.Call (.Attribute o "append" apos) [e] [] cpos) (gk "list" fY mo m):=by
 have h':dQ e=true∧aB []=true:=by simpa [aB] using h
 exact IV ho ha (n6 hb _ _) (KJ h (by simp)) hline (bR h'.1 _ _) (bY (es:=[]) rfl)
theorem KN (ho:QE X EE o mo) (hb:CC o=true:=by rfl) (hline:(apos.endLine==cpos.line)=true:=by rfl):QE X EE (.Call (.Attribute o "pop" apos) [] [] cpos) (gk "list" yI mo aq):=Rb ho (n6 hb _ _) hline
theorem n8 (he:QE X EE a ma) (h:CB a=true:=by rfl):QS X EE (.Expr a pos) (pC ma):=NB he (CD h _ _ _)
theorem bg {pos':Pos} (hN:X.N.Nodup) (hx:Loc X.env.scope x) (he:QE X EE a ma) (hf:X.fn x=true∨X.env.scope.names.lookup x=some .local) (hi:X.N[i]?=some x:=by rfl) (h:CB a=true:=by rfl):QS X EE (.Assign [.Name x pos'] a pos) (bP i ma):=Q6 hN he hi hx (CD h _ _ _) hf
theorem n9 (hN:X.N.Nodup) (hx:Loc X.env.scope x) (hf:X.fn x=true∨X.env.scope.names.lookup x=some .local) (hi:X.N[i]?=some x:=by rfl):QG X (.Name x pos) (gN i):=NC hN hi hx hf
theorem KO (hp:PassesOwn (model X.prog X.w) X.A X.env X.xe) (hc:X.calm=true) (ha:QE X EE a ma) (hg:QG X tg g) (hb:FF X EE body ms) (h:qe a=true:=by rfl):QS X EE (.For tg a body [] pos) (xh g ma ms):=Q7 hp hc ha hg hb (qf h _)
theorem r9 {pc:Pos} (hp:PassesOwn (model X.prog X.w) X.A X.env X.xe) (hc:X.calm=true) (hm:X.mg "range"=none) (BE:Gl X "range") (ha:QA X EE [a] m) (hg:QG X tg g) (hb:FF X EE body ms) (h:dQ a=true:=by rfl) :
  QS X EE (.For tg (.Call (.Name "range" p) [a] [] pc) body [] pos) (lA kL g m ms):=Ku hp hc hm ha hg hb BE (bR h _ _) (qf rfl _)
variable {scope:Scope} {elt iter tg:Expr} {xs:List Str} {ow:V→Hp→List V→Prop} {gO:D→Option (List D)} {ifs:List Expr} {px:Pos}
theorem CG (hx:oQ X EE) (hst:gC X) (S:dX X.env.scope X.N scope xs ks) (how:Own X scope xs ks tg ow) (hO:tL X.K X.mg ow gO) (hc:X.calm=true) (ha:QE X EE iter ma) (hb:zQ X scope xs ifs elt tt te) (h:qe iter=true:=by rfl):QE X EE (.ListComp elt [⟨tg,iter,ifs,0⟩] scope pos) (ri gO ks ma tt te):=NO hx hst S how hO hc ha hb (qf h _)
theorem BI {pc:Pos} (hx:oQ X EE) (hst:gC X) (S:dX X.env.scope X.N scope xs ks) (how:Own X scope xs ks tg ow) (hO:tL X.K X.mg ow gO) (hc:X.calm=true) (hm:X.mg "range"=none) (BE:Gl X "range") (ha:QA X EE [a] m) (hb:zQ X scope xs ifs elt tt te) (h:dQ a=true:=by rfl) :
  QE X EE (.ListComp elt [⟨tg,.Call (.Name "range" p) [a] [] pc,ifs,0⟩] scope pos) (mz kL gO ks m tt te):=I8 hx hst S how hO hc hm ha hb BE (bR h _ _) (qf rfl _)
theorem Jb {l:Nat} (hb:(env.blockKind==.function)=true) (hl:env.scope.names.lookup y=some .local) (hp:(py.line==pos.line)=true) (hq:(scope.names.any λx=>x.1==y&&(x.2==.local||x.2==.cell))=false):swapsWith (.ListComp elt gens scope pos) (some (.Name y py)) l env=pure true:=by
 unfold swapsWith
 dsimp only
 show (pure (env.blockKind==.function&&env.kindOf y==some .local&&py.line==pos.line&&!(scope.names.any λx=>x.1==y&&(x.2==.local||x.2==.cell))):Sem Bool)=pure true
 have e:(env.kindOf y==some NameKind.local)=true:=by rw [show env.kindOf y=some NameKind.local from hl];rfl
 rw [hb,e,hp,hq];rfl
theorem sd {C:Addr} (S:dX X.env.scope X.N scope xs ks) (h:x∈xs):OI (y9 X scope cl xs C pins s0 H0 fp E).env.scope x:=.inl (zO (cl:=cl) (C:=C) S h)
theorem vm {C:Addr} (S:dX X.env.scope X.N scope xs ks) (h:scope.names.lookup y=some .free):OI (y9 X scope cl xs C pins s0 H0 fp E).env.scope y:=.inr (xm (cl:=cl) (C:=C) S h)
theorem CH {C:Addr} (h:scope.names.lookup y=some .globalImplicit):Gl (y9 X scope cl xs C pins s0 H0 fp E) y:=by
 show (compEnvC scope cl C X.env).kindOf y=some .globalImplicit
 have e:(compEnvC scope cl C X.env).kindOf y=(scope.names.lookup y).map (AU X.env y):=iK scope.names
 rw [e,h];rfl
end
section
open Builtin Builtin.Str
section
variable {X:Cx} {EE:gA}
noncomputable def qg:List D→M D
 | [d]=>λG=>match bw G d with
  | some (.lst xs)=>gx xs G
  | some (.tup xs)=>.ok d G
  | _=>.stuck
 | _=>M.stop
theorem Jc:jb X (.type "tuple") (JM X EE qg):=by
 intro pins s σ0 H xs us Q I r ⟨σ,τ,ρ,G,ds,ab,JN,ok⟩
 match ds,ok with
 | [],ok=>exact ok.elim
 | _::_::_,ok=>exact ok.elim
 | [y],ok=>
  obtain ⟨yv,rfl,ry⟩:=jU JN
  dsimp only [qg] at ok
  cases q:bw G y with
  | none=>rw [q] at ok;exact ok.elim
  | some sk=>
   rw [q] at ok
   cases sk with
   | str _=>exact ok.elim
   | tup ys=>
    obtain ⟨p,vs,rfl,sq,rs⟩:=iV ry q
    exact tP pins s σ0 H _ us Q I r ⟨p,vs,rfl,.inr ⟨sq,ok _ H ρ .refl ab ry⟩⟩
   | lst ys=>
    obtain ⟨p,vs,rfl,sq,rs⟩:=dm (pins:=pins) (σ0:=σ0) (s:=s) ab.hp ry q
    exact tP pins s σ0 H _ us Q I r ⟨p,vs,rfl,.inl ⟨sq,λl hl=>(zA ab rs ok).2 l hl⟩⟩
noncomputable def xu:List D→M D
 | [d]=>λG=>match bw G d with
  | some (.lst xs)=>bU xs G
  | some (.tup xs)=>bU xs G
  | _=>.stuck
 | _=>M.stop
theorem Jd:jb X (.type "list") (JM X EE xu):=by
 intro pins s σ0 H xs us Q I r ⟨σ,τ,ρ,G,ds,ab,JN,ok⟩
 match ds,ok with
 | [],ok=>exact ok.elim
 | _::_::_,ok=>exact ok.elim
 | [y],ok=>
  obtain ⟨yv,rfl,ry⟩:=jU JN
  dsimp only [xu] at ok
  cases q:bw G y with
  | none=>rw [q] at ok;exact ok.elim
  | some sk=>
   rw [q] at ok
   cases sk with
   | str _=>exact ok.elim
   | tup ys=>
    obtain ⟨p,vs,rfl,sq,rs⟩:=iV ry q
    exact u9 pins s σ0 H _ us Q I r ⟨p,vs,rfl,.inr sq,λl hl=>(w9 ab rs ok).2 l hl⟩
   | lst ys=>
    obtain ⟨p,vs,rfl,sq,rs⟩:=dm (pins:=pins) (σ0:=σ0) (s:=s) ab.hp ry q
    exact u9 pins s σ0 H _ us Q I r ⟨p,vs,rfl,.inl sq,λl hl=>(w9 ab rs ok).2 l hl⟩
variable {x:Str} {p pos apos cpos:Pos} {e o:Expr} {es:List Expr} {m:DS→M (List D)} {mo:DS→M D}
theorem boot_tuple:bootBuiltins "tuple"=some (.type "tuple"):=by symm
theorem boot_list:bootBuiltins "list"=some (.type "list"):=by symm
theorem zR (hm:X.mg "tuple"=none) (hg:Gl X "tuple") (ha:QA X EE [e] m) (h:aB [e]=true:=by rfl):QE X EE (.Call (.Name "tuple" p) [e] [] pos) (au qg m):=xq Jc hm hg boot_tuple ha (by decide) (by decide) h
theorem NQ (hm:X.mg "list"=none) (hg:Gl X "list") (ha:QA X EE [e] m) (h:aB [e]=true:=by rfl):QE X EE (.Call (.Name "list" p) [e] [] pos) (au xu m):=xq Jd hm hg boot_list ha (by decide) (by decide) h
noncomputable def uE (i n:Nat) (uX:Str→Option (List D→M D)) (m:DS→M (List D)):DS→M D:=λτ G=>match τ[i]? with
 | some (some (.fn y))=>match uX y with
  | some mf=>bL n mf m τ G
  | none=>.stuck
 | _=>.stuck
theorem zS {CX:yE} {n:Nat} {uX:Str→Option (List D→M D)} (hN:X.N[i]?=some x) (hv:OI X.env.scope x) (hd:(x==("__debug__":Str))=false∧(x==("__classdict__":Str))=false)
  (hF:∀ y mf,uX y=some mf→∃ k f fd ps,bV X.prog X.w X.K X.mg X.base CX k f fd ps (bJ X.K X.mg n mf)∧iH k X.A∧X.mg y=some (.ref f)∧PySem.W.keepIn X.K (.ref f)=true∧Binds X.K fd ps []) (hx:OR CX X EE)
  (ha:QA X EE (e::es) m) (h:aB (e::es)=true:=by rfl):QE X EE (.Call (.Name x p) (e::es) [] pos) (uE i n uX m):=by
 have h':dQ e=true∧aB es=true:=by simpa [aB] using h
 intro pins s σ H Q I hq
 obtain ⟨τ,ρ,G,ab,ok⟩:=hq
 unfold uE at ok
 cases q:τ[i]? with
 | none=>rw [q] at ok;exact ok.elim
 | some od=>
  cases od with
  | none=>rw [q] at ok;exact ok.elim
  | some d=>
   rw [q] at ok
   cases d<;>try exact ok.elim
   rename_i y
   dsimp only at ok
   cases qt:uX y with
   | none=>rw [qt] at ok;exact ok.elim
   | some mf=>
    rw [qt] at ok
    obtain ⟨k,f,fd,ps,F,hr,hm,hk,hb⟩:=hF y mf qt
    obtain ⟨v,ev,rv⟩:=ab.st.2 i (.fn y) q
    unfold Rep at rv
    obtain ⟨a,rfl,ha'⟩:=rv
    rw [hm] at ha'
    cases ha'
    obtain ⟨τ1,ρ1,G1,nB,JL⟩:=pZ (k:=λ_ ds=>if ds.length=n then mf ds else M.stop) ⟨τ,ρ,G,ab,ok⟩
    refine wpAny_Call_Name_kw (wpAny_mono (Fi hN hv hd.1 hd.2 pins s σ H (λv' H'=>v'=.ref f∧H'=H) I ⟨_,ev,rfl,rfl⟩) (λu s0 hu=>?_) λ_ _ z=>z)
    obtain ⟨v',H',I0,r0,rfl,rfl⟩:=hu
    cases r0
    refine PySem.W.callWith_K (h₀:=X.base) I0.ok.mod.MM hk (gw (ha pos pins s0 σ H' _ I0 ⟨τ1,ρ1,G1,nB,JL⟩) λus s1 ⟨vs,H1,I1,r,q⟩=>⟨I1.Ff,?_⟩) (bR h'.1 _ _) (bY h'.2)
    obtain ⟨τ2,ρ2,G2,ds,dW,rs,bD⟩:=q
    by_cases hn:ds.length=n
    ·rw [if_pos hn] at bD
     exact Cv F hr hb hx I1 r dW rs hn bD
    ·rw [if_neg hn] at bD
     exact bD.elim
end
end
section
open Builtin Builtin.Str
end
noncomputable def Uw (CX:yE) (X:Cx) (n:Nat):List (Str×(List D→M D))→Prop
 | []=>True
 | q::r=>(∃ k f fd ps,bV X.prog X.w X.K X.mg X.base CX k f fd ps (bJ X.K X.mg n q.2)∧iH k X.A∧X.mg q.1=some (.ref f)∧PySem.W.keepIn X.K (.ref f)=true∧Binds X.K fd ps [])∧Uw CX X n r
theorem NR {CX:yE} {X:Cx} {n:Nat}:∀ {l:List (Str×(List D→M D))},Uw CX X n l→∀ (y:Str) (mf:List D→M D),l.lookup y=some mf→∃ k f fd ps,bV X.prog X.w X.K X.mg X.base CX k f fd ps (bJ X.K X.mg n mf)∧iH k X.A∧X.mg y=some (.ref f)∧PySem.W.keepIn X.K (.ref f)=true∧Binds X.K fd ps []
 | [],_,_,_,h=>nomatch h
 | q::r,⟨h1,hr⟩,y,mf,h=>by
  obtain ⟨qn,qm⟩:=q
  rw [List.lookup_cons] at h
  cases e:y==qn with
  | true=>
   rw [e] at h
   cases h
   have:=eq_of_beq e
   subst this
   exact h1
  | false=>rw [e] at h;exact NR hr y mf h
theorem ay (ha:QE X EE e m) (h:dQ e=true) (hr:QA X EE es r):QA X EE (e::es) (af m r):=CF ha hr h
theorem jP (hr:QA X EE es r):QA X EE (.Constant (.str x) j pos::es) (af (eC (.str x)) r):=CF jd hr rfl
theorem iI {x:Int} (hr:QA X EE es r):QA X EE (.Constant (.int x) j pos::es) (af (eC (.int x)) r):=CF ak hr rfl
theorem FQ:typeLookup (.type "list_reverseiterator") (Str.ofString "__len__")=(pure none:Sem (Option Value)):=by
 rw [typeLookup_type,builtinLookup_eq_fast];rfl
theorem KP:typeLookup (.type "list_reverseiterator") (Str.ofString "__length_hint__")=(pure (some (.builtin "list_reverseiterator.__length_hint__")):Sem (Option Value)):=by
 rw [typeLookup_type,builtinLookup_eq_fast];rfl
theorem KQ:isSubtype (.type "list_reverseiterator") (.type "list_reverseiterator")=(pure true:Sem Bool):=by
 rw [isSubtype_type];rfl
theorem KR {M:Model} {i:Int} {Q:Bool→Shared→Prop} (hr:s.heap.IsRevIter it l i) (h:Q false s):wpAny M A (Builtin.List.listLengthHint (.ref it)) Q E s:=by
 have ty:s.TypeIs (.ref it) "list_reverseiterator":=by
  obtain ⟨o,e,c,_⟩:=hr
  exact ⟨o,e,c⟩
 unfold Builtin.List.listLengthHint
 refine wpAny_bind (wpAny_specialOf ty FQ ?_)
 refine wpAny_bind (wpAny_specialOf ty KP ?_)
 have e1:splitId "list_reverseiterator.__length_hint__"=some ("list_reverseiterator","__length_hint__"):=by symm
 dsimp only
 rw [e1]
 dsimp only
 refine wpAny_bind (wpAny_isInstance ty KQ ?_)
 rw [if_neg (by decide)]
 split
 ·rw [if_neg (by decide)]
  exact wpAny_pure h
 ·rename_i hs
  exact absurd (by symm) hs
theorem zT {prog:Program} {w:World} {R:Result→Shared→Prop} (hh:A.handled=none) (hit:s.heap.IsRevIter it l ((items.size:Int) - 1)) (hl:s.heap.IsList l items) (hne:l≠it) (hz:items.size≤sizeLine) (S:Addr) (res:Value) (c₀:Nat)
  (hS:s.heap.get? S=some {cls:=.type "list",data:=.seq #[] c₀}) (hSl:S≠l)
  (hR:∀ (s':Shared) (acc':Array Value) (c':Nat),Moved [S,it] (λa b=>b=a) s s'→s'.heap.get? S=some {cls:=.type "list",data:=.seq acc' c'}→ItemsOf (λi v=>items[items.size - 1 - i]?=some v) acc' items.size→R (.ok (.ret res)) s') :
  wpAny (model prog w) A.in1 (Builtin.List.listExtendWith (.ref S) (.ref it) res) (λfin s'=>match fin with
   | .done f=>R (.ok f) s'
   | .again c'=>c'.quiet=true∧codeAny (model prog w) A c' R s') (λe s'=>R (.error e) s') s:=by
 have Ux:S≠it:=by
  rintro rfl
  obtain ⟨o,e,c,d⟩:=hit
  rw [hS] at e;cases e
  exact absurd (Value.type.inj c) (by decide)
 have ty:s.TypeIs (.ref it) "list_reverseiterator":=by
  obtain ⟨o,e,c,_⟩:=hit
  exact ⟨o,e,c⟩
 have Wk:=Walks.toS (Walks.listRev (prog:=prog) (w:=w) (A:=A.in1) (show A.in1.handled=none from hh) it l hne items)
 have key:=codeAny_extend_loopS Wk hz S (by simp [Ux,hSl]) res items.size 0 (R:=R)
 unfold Builtin.List.listExtendWith
 refine wpAny_bind (wpAny_typeOf ty ?_)
 have h1:Builtin.List.listSameRef (.ref S) (.ref it)=false:=by simp [Builtin.List.listSameRef,Ux]
 rw [if_neg (by rw [h1];decide)]
 refine wpAny_bind (wpAny_pyIter_revIter hit ?_)
 refine wpAny_bind (wpAny_holding (KR hit ?_))
 dsimp only
 split
 ·rename_i hs
  exact absurd hs (by symm)
 ·exact wpAny_pure ⟨plainId_quiet F.plain_extend_loop _,key s #[] c₀ rfl (Nat.zero_le _) ⟨Nat.zero_le _,by simpa using hit,hl⟩ hS (ItemsOf.nil _) hR⟩
theorem AV {prog:Program} {w:World} {E:Value→Shared→Prop} {Q:Value→Shared→Prop} (hh:A.handled=none) (hit:s.heap.IsRevIter it l ((items.size:Int) - 1)) (hl:s.heap.IsList l items) (hne:l≠it) (hz:items.size≤sizeLine)
  (hQ:∀ (h':Heap) (tk:Nat) (acc':Array Value) (c':Nat),(∀ b o,b≠it→s.heap.get? b=some o→h'.get? b=some o)→h'.get? s.heap.objs.size=some {cls:=.type "list",data:=.seq acc' c'}→ItemsOf (λi v=>items[items.size - 1 - i]?=some v) acc' items.size→Q (.ref s.heap.objs.size) {s with heap:=h',toks:=tk}) :
  wpAny (model prog w) A (call (.type "list") [.ref it]) Q E s:=by
 have Yh:l<s.heap.objs.size:=by obtain ⟨o,e,_⟩:=hl;exact Heap.lt_size e
 have lt2:it<s.heap.objs.size:=by obtain ⟨o,e,_⟩:=hit;exact Heap.lt_size e
 refine callType_codes (Q₁:=λv s1=>v=.ref s.heap.objs.size∧s1={s with heap:=s.heap.push {cls:=.type "list",data:=.seq #[]}}) F.called_list (F.typeCall_list_1 (.ref it)) F.entry_list_init (code_list_new (.ref it) ⟨rfl,rfl⟩) λobj s₁ h₁=>?_
 obtain ⟨rfl,rfl⟩:=h₁
 have hS:=Heap.get?_push_size (o:={cls:=.type "list",data:=.seq #[]}) s.heap rfl
 refine ⟨⟨_,hS,rfl⟩,F.args_list_init_2 (.ref s.heap.objs.size) (.ref it),?_⟩
 have kp:∀ b o,s.heap.get? b=some o→(s.heap.push {cls:=.type "list",data:=.seq #[]}).get? b=some o:=λb o e=>Heap.get?_push_of_some _ e
 unfold Builtin.«list.__init__»
 refine wpAny_bind ?_
 unfold Builtin.List.listItems
 refine wpAny_bind (wpAny_seqItems hS rfl (wpAny_pure ?_))
 refine wpAny_bind ?_
 unfold Builtin.List.listUpdate
 refine wpAny_updateSeq hS rfl ?_ (by simp [sizeLine_eq]) (by simp [sizeLine_eq])
 have Sy:=Heap.get?_update_self (Obj.mapSeq λx=>#[]) hS rfl
 have tT:∀ b o,b≠s.heap.objs.size→(s.heap.push {cls:=.type "list",data:=.seq #[]}).get? b=some o→((s.heap.push {cls:=.type "list",data:=.seq #[]}).update s.heap.objs.size (Obj.mapSeq λx=>#[])).get? b=some o:=λb o hb e=>(Heap.get?_update_other _ _ (Ne.symm hb)).trans e
 refine wpAny_bind (wpAny_letGo ?_)
 have up:∀ b o,s.heap.get? b=some o→((s.heap.push {cls:=.type "list",data:=.seq #[]}).update s.heap.objs.size (Obj.mapSeq λx=>#[])).get? b=some o:=λb o e=>tT b o (Nat.ne_of_lt (Heap.lt_size e)) (kp b o e)
 refine zT (l:=l) (items:=items) (show A.in1.handled=none from hh) ?_ ?_ hne hz s.heap.objs.size .none (if ((#[]:Array Value).size==(#[]:Array Value).size)=true then 0 else 0+1) ?_ (Nat.ne_of_gt Yh) ?_
 ·obtain ⟨o,e,r⟩:=hit
  exact ⟨o,up _ _ e,r⟩
 ·obtain ⟨o,e,r⟩:=hl
  exact ⟨o,up _ _ e,r⟩
 ·exact Sy
 ·intro s' acc' c' hm hS' hacc
  rw [Moved.eq_with hm]
  refine ⟨rfl,hQ s'.heap s'.toks acc' c' (λb o hb e=>?_) hS' hacc⟩
  refine hm.heap b o ?_ (up b o e)
  simp [hb,Nat.ne_of_lt (Heap.lt_size e)]
section
variable {X:Cx} {EE:gA} {a b c e o:Expr} {es:List Expr} {ma mb mo:DS→M D} {m:DS→M (List D)} {t:DS→M Bool} {ms:MS} {pos p p2 pos2 apos cpos:Pos}
noncomputable def fuel:Nat:=100000
noncomputable def jW (t:DS→M Bool) (ms:MS):Nat→MS
 | 0=>λ_ _=>.stuck
 | n+1=>λτ=>fM (t τ) (λc G=>if c=true then (match ms τ G with
   | .nx τ' G'=>jW t ms n τ' G'
   | .ct τ' G'=>jW t ms n τ' G'
   | .bk τ' G'=>.nx τ' G'
   | r=>r) else .nx τ G) λc G=>.xn c τ G
theorem Nr.imp {r:Out Bool} {Q:Bool→Hp→Prop} (h:Nr X.K X.mg EE H σ τ ρ r Q) (i:∀ b H',Q b H'→Q' b H'):Nr X.K X.mg EE H σ τ ρ r Q':=by
 cases r with
 | stuck=>exact h
 | ok b G=>exact λH' ρ' f ab=>i b H' (h H' ρ' f ab)
 | dU c G=>exact h
theorem KS (hp:PassesOwn (model X.prog X.w) X.A X.env X.xe) (hc:QT X EE c t) (hb:FF X EE body ms):QS X EE (.While c body [] pos) (jW t ms n):=PS.mono (JY hp hc hb) λDd σ H h=>by
 obtain ⟨τ0,ρ0,G0,KD,ok0⟩:=h
 refine ⟨λm σ H=>∃ τ ρ G,Ab X.K X.mg σ H τ ρ G∧AR X.K X.mg EE H ρ Dd (jW t ms m τ G),⟨n,τ0,ρ0,G0,KD,ok0⟩,?_⟩
 rintro m σ H ⟨τ,ρ,G,ab,ok⟩
 cases m with
 | zero=>exact ok.elim
 | succ m=>
  obtain ⟨τ1,ρ1,G1,nB,JL⟩:=Kg (k:=λτ c G=>if c=true then (match ms τ G with
   | .nx τ' G'=>jW t ms m τ' G'
   | .ct τ' G'=>jW t ms m τ' G'
   | .bk τ' G'=>.nx τ' G'
   | r=>r) else .nx τ G) (show jl X.K X.mg EE (λτ=>fM (t τ) (λc G=>if c=true then (match ms τ G with
   | .nx τ' G'=>jW t ms m τ' G'
   | .ct τ' G'=>jW t ms m τ' G'
   | .bk τ' G'=>.nx τ' G'
   | r=>r) else .nx τ G) λc G=>.xn c τ G) Dd σ H from ⟨τ,ρ,G,ab,ok⟩)
  refine ⟨τ1,ρ1,G1,nB,JL.imp λb H1 hq=>?_⟩
  obtain ⟨τ2,ρ2,G2,dW,bD⟩:=hq
  cases b with
  | false=>
   rw [if_neg Bool.false_ne_true] at bD ⊢
   exact bD σ H1 ρ2 .refl dW
  | true=>
   rw [if_pos rfl] at bD ⊢
   refine ⟨λσ' H'=>∃ τ ρ G,Ab X.K X.mg σ' H' τ ρ G∧AR X.K X.mg EE H' ρ Dd (jW t ms m τ G),λσ' H' w=>⟨m,Nat.lt_succ_self _,w⟩,τ2,ρ2,G2,dW,?_⟩
   cases q:ms τ2 G2 with
   | stuck=>rw [q] at bD;exact bD
   | nx τ' G'=>rw [q] at bD;exact λσ' H' ρ' f di=>⟨τ',ρ',G',di,bD.fut f⟩
   | ct τ' G'=>rw [q] at bD;exact λσ' H' ρ' f di=>⟨τ',ρ',G',di,bD.fut f⟩
   | bk τ' G'=>rw [q] at bD;exact bD
   | rt d G'=>rw [q] at bD;exact bD
   | xn c τ' G'=>rw [q] at bD;exact bD
noncomputable def D4:List D→M D
 | [d]=>λG=>match bw G d with
  | some (.lst xs)=>bU xs.reverse G
  | _=>.stuck
 | _=>M.stop
theorem vn:bootBuiltins "reversed"=some (.type "reversed"):=by symm
theorem aC.rev:∀ {ds:List D} {vs:List V},aC K mg ρ H ds vs→aC K mg ρ H ds.reverse vs.reverse
 | [],vs,h=>by unfold aC at h;subst h;exact .nil
 | d::ds,vs,h=>by
  unfold aC at h
  obtain ⟨v,r,rfl,h1,h2⟩:=h
  rw [List.reverse_cons,List.reverse_cons]
  exact (aC.rev h2).append (.cons h1 .nil)
theorem Vals.app:∀ {xs ys:List V} {us vs:List Value},Vals xs us→Vals ys vs→Vals (xs++ys) (us++vs)
 | _,_,_,_,.nil,h=>h
 | _,_,_,_,.cons r t,h=>.cons r (Vals.app t h)
theorem Vals.rev:∀ {xs:List V} {us:List Value},Vals xs us→Vals xs.reverse us.reverse
 | _,_,.nil=>.nil
 | _,_,.cons r t=>by
  rw [List.reverse_cons,List.reverse_cons]
  exact Vals.app (Vals.rev t) (.cons r .nil)
theorem BJ {its:List Value} {acc:Array Value} (h:ItemsOf (λi v=>its.toArray[its.toArray.size - 1 - i]?=some v) acc its.toArray.size):acc=its.reverse.toArray:=by
 obtain ⟨h1,h2⟩:=h
 have hs:its.toArray.size=its.length:=by simp
 rw [hs] at h1
 apply Array.ext_getElem?
 intro i
 by_cases hi:i<acc.size
 ·have e:=h2 i acc[i] (Array.getElem?_eq_getElem hi)
  rw [Array.getElem?_eq_getElem hi,← e]
  rw [List.getElem?_toArray,List.getElem?_toArray,List.getElem?_reverse (by nofun),hs]
 ·rw [Array.getElem?_eq_none (by nofun),Array.getElem?_eq_none (by simp;nofun)]
theorem FT (hc:X.calm=true) (hm1:X.mg "list"=none) (Uy:Gl X "list") (hm2:X.mg "reversed"=none) (Uz:Gl X "reversed") (ha:QA X EE [e] m) (h:aB [e]=true:=by rfl) :
  QE X EE (.Call (.Name "list" p) [.Call (.Name "reversed" p2) [e] [] pos2] [] pos) (au D4 m):=by
 have h':dQ e=true∧aB []=true:=by simpa [aB] using h
 intro pins s σ H Q I hq
 have hq':=pZ (k:=λ_ ds=>D4 ds) hq
 refine wpAny_Call_Name_kw (iy I Uy hm1 boot_list ?_ (by decide) (by decide))
 refine PyProof.Rows.callWith_type1 ?_ (bR rfl _ _) (bY (es:=[]) rfl)
 rw [bR (e:=.Call (.Name "reversed" p2) [e] [] pos2) rfl]
 show wpAny _ _ (spliced ((false,eval _ X.env)::backTo pos (starEach [] X.env))) _ _ s
 refine Calls.spliced_cons ?_
 refine wpAny_Call_Name_kw (iy I Uz hm2 vn ?_ (by decide) (by decide))
 refine PyProof.Rows.callWith_type1 (gw (ha pos2 pins s σ H _ I hq') λus s1 yF=>?_) (bR h'.1 _ _) (bY (es:=[]) rfl)
 obtain ⟨vs,H1,I1,r1,τ,ρ,G,ds,ab,rs,ok⟩:=yF
 match ds,ok with
 | [],ok=>exact ok.elim
 | _::_::_,ok=>exact ok.elim
 | [d],ok=>
  obtain ⟨x,rfl,rx⟩:=jU rs
  obtain ⟨u,rfl,ru⟩:=vals1 r1
  dsimp only [D4] at ok
  cases q:bw G d with
  | none=>rw [q] at ok;exact ok.elim
  | some sk=>
   rw [q] at ok
   cases sk with
   | tup zs=>exact ok.elim
   | str z=>exact ok.elim
   | lst zs=>
    dsimp only at ok
    obtain ⟨l,ys,rfl,sq,rv⟩:=dm (pins:=pins) (σ0:=σ) (s:=s1) ab.hp rx q
    cases ru
    obtain ⟨its,vv,pl,hz⟩:=I1.list sq
    have hlen:=vv.length
    have hl:=pl.isList
    have hlt:l<s1.heap.objs.size:=by obtain ⟨_,e,_⟩:=hl;exact Heap.lt_size e
    refine call_reversed_list hl ?_
    refine Calls.spliced_nil ?_
    refine nt (by first | exact I1.os.2 | exact Nat.succ_pos _) <| AV (l:=l) (items:=its.toArray) (show X.A.handled=none from I.ok.hd hc) ⟨_,Heap.get?_push_size _ rfl,rfl,rfl⟩ (hl.push _) (Nat.ne_of_lt hlt) (by simp;nofun) λh' tk acc' c' kp hS hacc ht=>?_
    have ea:=BJ hacc
    subst ea
    obtain ⟨hlr,hn⟩:=w9 ab rv.rev ok
    have hsz:(s1.heap.push (revObj l ((its.toArray.size:Int) - 1))).objs.size=s1.heap.objs.size+1:=Heap.size_push ..
    refine ⟨.ref _,upd H1 _ (.lst ys.reverse),I1.laid (t':=tk) (λb o e=>kp b o (Nat.ne_of_lt (Heap.lt_size e)) (Heap.get?_push_of_some _ e)) ?_ ⟨hlr,its.reverse,c',Vals.rev vv,hS⟩,rfl,hn _ (I1.hok.fresh ?_)⟩
    ·show s1.heap.objs.size≤(s1.heap.push _).objs.size
     rw [hsz];nofun
    ·show s1.heap.objs.size≤(s1.heap.push _).objs.size
     rw [hsz];nofun
noncomputable def intsOf:List D→Option (List Int)
 | []=>some []
 | .int b::r=>(intsOf r).map (b::·)
 | _::_=>none
theorem uF {K:PySem.W.Frag} {mg:Str→Option Value} {ρ:List Addr} {H:Hp}:∀ {ds:List D} {vs:List V} {us:List Value} {bs:List Int},aC K mg ρ H ds vs→Vals vs us→intsOf ds=some bs→us.length=bs.length∧∀ (i:Nat) (v:Value),us[i]?=some v→∃ t,v=Value.int (bs.getD i 0) t
 | [],vs,us,bs,r,v,e=>by unfold aC at r;subst r;cases v;cases e;exact ⟨rfl,λi v h=>by simp at h⟩
 | d::ds,vs,us,bs,r,v,e=>by
  unfold aC at r
  obtain ⟨x,r',rfl,h1,h2⟩:=r
  cases v with
  | cons v1 v2=>
   cases d<;>try (cases e;done)
   rename_i b
   dsimp only [intsOf] at e
   cases q:intsOf ds with
   | none=>rw [q] at e;cases e
   | some bs'=>
    rw [q] at e;cases e
    unfold Rep at h1;subst h1
    obtain ⟨t,rfl⟩:=v1
    obtain ⟨hl,hi⟩:=uF h2 v2 q
    refine ⟨by simp [hl],λi v h=>?_⟩
    cases i with
    | zero=>simp at h;exact ⟨t,by simp [h]⟩
    | succ i=>obtain ⟨t',e'⟩:=hi i v (by simpa using h);exact ⟨t',by simpa using e'⟩
theorem preSum_eq (bs:List Int):∀ n,n≤bs.length→preSum (λi=>bs.getD i 0) n=(bs.take n).sum
 | 0,_=>by simp [preSum]
 | n+1,h=>by
  show preSum (λi=>bs.getD i 0) n+bs.getD n 0=_
  have:bs[n]?=some bs[n]:=List.getElem?_eq_getElem (by nofun)
  rw [preSum_eq bs n (by nofun),← List.take_append_getElem (show n<bs.length by nofun),List.sum_append,List.getD,this]
  rw [List.sum_singleton]
  rfl
noncomputable def zU:List D→M D
 | [d]=>λG=>match bw G d with
  | some (.lst xs)=>match intsOf xs with
   | some bs=>.ok (.int bs.sum) G
   | none=>.stuck
  | _=>.stuck
 | _=>M.stop
noncomputable def KU (bs:List Int):Int:=bs.getD (argBest (λi j=>decide (bs.getD i 0 > bs.getD j 0)) (bs.length - 1)) 0
noncomputable def BK:List D→M D
 | [d]=>λG=>match bw G d with
  | some (.lst xs)=>match intsOf xs with
   | some bs=>if 0<bs.length then .ok (.int (KU bs)) G else .stuck
   | none=>.stuck
  | _=>.stuck
 | _=>M.stop
theorem Je (hc:X.calm=true):jb X (.builtin "sum") (JM X EE zU):=by
 intro pins s σ0 H xs us Q I r ⟨σ,τ,ρ,G,ds,ab,rs,ok⟩
 match ds,ok with
 | [],ok=>exact ok.elim
 | _::_::_,ok=>exact ok.elim
 | [d],ok=>
  obtain ⟨x,rfl,rx⟩:=jU rs
  obtain ⟨u,rfl,ru⟩:=vals1 r
  dsimp only [zU] at ok
  cases q:bw G d with
  | none=>rw [q] at ok;exact ok.elim
  | some sk=>
   rw [q] at ok
   cases sk with
   | tup zs=>exact ok.elim
   | str z=>exact ok.elim
   | lst zs=>
    dsimp only at ok
    cases qb:intsOf zs with
    | none=>rw [qb] at ok;exact ok.elim
    | some bs=>
     rw [qb] at ok
     obtain ⟨p,vs,rfl,sq,rv⟩:=dm (pins:=pins) (σ0:=σ0) (s:=s) ab.hp rx q
     cases ru
     obtain ⟨its,vv,pl,hz⟩:=I.list sq
     obtain ⟨hlen,hints⟩:=uF rv vv qb
     have hl:=pl.isList
     have hlt:p<s.heap.objs.size:=by obtain ⟨_,e,_⟩:=hl;exact Heap.lt_size e
     refine nt I.os.2 (call_sum_walkG (wpAny_pyIter_list hl ?_))
     refine ⟨s.heap.objs.size,[s.heap.objs.size,p],[s.heap.objs.size],its.toArray.size,_,_,λi=>bs.getD i 0,rfl,Walks.list (A:=X.A.in1) (I.ok.hd hc) _ p (Nat.ne_of_lt hlt) _,
      ⟨⟨_,Heap.get?_push_size _ rfl,rfl,rfl⟩,hl.push _⟩,λb hb=>?_,λi v hP=>hints i v (by simpa using hP),λh' tk t' hk ht=>?_⟩
     ·show b<(s.heap.push _).objs.size
      rw [Heap.size_push]
      rcases List.mem_cons.mp hb with rfl | hb
      ·exact Nat.lt_succ_self _
      ·rw [List.mem_singleton.mp hb];exact Nat.lt_succ_of_lt hlt
     ·rw [show its.toArray.size=bs.length by simpa using hlen,preSum_eq bs _ (Nat.le_refl _),List.take_length]
      exact ⟨.int _,H,I.kept (t':=tk) (zL hk),⟨_,rfl⟩,ok _ H ρ .refl ab (by unfold Rep;rfl)⟩
theorem FU (hc:X.calm=true):jb X (.builtin "max") (JM X EE BK):=by
 intro pins s σ0 H xs us Q I r ⟨σ,τ,ρ,G,ds,ab,rs,ok⟩
 match ds,ok with
 | [],ok=>exact ok.elim
 | _::_::_,ok=>exact ok.elim
 | [d],ok=>
  obtain ⟨x,rfl,rx⟩:=jU rs
  obtain ⟨u,rfl,ru⟩:=vals1 r
  dsimp only [BK] at ok
  cases q:bw G d with
  | none=>rw [q] at ok;exact ok.elim
  | some sk=>
   rw [q] at ok
   cases sk with
   | tup zs=>exact ok.elim
   | str z=>exact ok.elim
   | lst zs=>
    dsimp only at ok
    cases qb:intsOf zs with
    | none=>rw [qb] at ok;exact ok.elim
    | some bs=>
     rw [qb] at ok
     dsimp only at ok
     by_cases h0:0<bs.length
     ·rw [if_pos h0] at ok
      obtain ⟨p,vs,rfl,sq,rv⟩:=dm (pins:=pins) (σ0:=σ0) (s:=s) ab.hp rx q
      cases ru
      obtain ⟨its,vv,pl,hz⟩:=I.list sq
      obtain ⟨hlen,hints⟩:=uF rv vv qb
      have hl:=pl.isList
      have hlt:p<s.heap.objs.size:=by obtain ⟨_,e,_⟩:=hl;exact Heap.lt_size e
      have hP:∀ (i:Nat) (v:Value),its.toArray[i]?=some v→∃ t,v=Value.int ((λi=>bs.getD i 0) i) t:=λi v h=>hints i v (by simpa using h)
      refine nt I.os.2 (call_max_walk (wpAny_pyIter_list hl ?_))
      refine ⟨s.heap.objs.size,[s.heap.objs.size,p],[s.heap.objs.size],its.toArray.size,_,_,_,rfl,Walks.list (A:=X.A.in1) (I.ok.hd hc) _ p (Nat.ne_of_lt hlt) _,
       ⟨⟨_,Heap.get?_push_size _ rfl,rfl,rfl⟩,hl.push _⟩,λb hb=>?_,by simp;nofun,CmpOf.ints_gt (λi=>bs.getD i 0) hP,λv h' tk hv hk ht=>?_⟩
      ·show b<(s.heap.push _).objs.size
       rw [Heap.size_push]
       rcases List.mem_cons.mp hb with rfl | hb
       ·exact Nat.lt_succ_self _
       ·rw [List.mem_singleton.mp hb];exact Nat.lt_succ_of_lt hlt
      ·obtain ⟨t,rfl⟩:=hP _ v hv
       rw [show its.toArray.size=bs.length by simpa using hlen]
       exact ⟨.int _,H,I.kept (t':=tk) (zL hk),⟨_,rfl⟩,ok _ H ρ .refl ab (by unfold Rep;rfl)⟩
     ·rw [if_neg h0] at ok;exact ok.elim
noncomputable def vp:List D→M D
 | [.int i]=>M.ret (.int i)
 | [.bl k]=>M.ret (.int (if k then 1 else 0))
 | _=>M.stop
theorem Jf:jb X (.type "int") (JM X EE vp):=by
 intro pins s σ0 H xs us Q I r ⟨σ,τ,ρ,G,ds,ab,JN,ok⟩
 match ds,ok with
 | [],ok=>exact ok.elim
 | d::_::_,ok=>cases d<;>exact ok.elim
 | [d],ok=>
  obtain ⟨x,rfl,rx⟩:=jU JN
  cases d<;>try exact ok.elim
  ·rename_i k
   unfold Rep at rx;subst rx
   exact Bs pins s σ0 H _ us Q I r (.inr ⟨k,rfl,ok _ H ρ .refl ab (by unfold Rep;rfl)⟩)
  ·rename_i i
   unfold Rep at rx;subst rx
   exact Bs pins s σ0 H _ us Q I r (.inl ⟨i,rfl,ok _ H ρ .refl ab (by unfold Rep;rfl)⟩)
theorem boot_int:bootBuiltins "int"=some (.type "int"):=by symm
theorem FW (hm:X.mg "int"=none) (hg:Gl X "int") (ha:QA X EE [e] m) (h:aB [e]=true:=by rfl):QE X EE (.Call (.Name "int" p) [e] [] pos) (au vp m):=xq Jf hm hg boot_int ha (by decide) (by decide) h
theorem KW (hc:X.calm=true) (hm:X.mg "sum"=none) (hg:Gl X "sum") (ha:QA X EE [e] m) (h:aB [e]=true:=by rfl):QE X EE (.Call (.Name "sum" p) [e] [] pos) (au zU m):=pG (Je hc) hm hg PyProof.Rows.boot_sum ha (by decide) (by decide) h
theorem NS (hc:X.calm=true) (hm:X.mg "max"=none) (hg:Gl X "max") (ha:QA X EE [e] m) (h:aB [e]=true:=by rfl):QE X EE (.Call (.Name "max" p) [e] [] pos) (au BK m):=pG (FU hc) hm hg PyProof.Rows.boot_max ha (by decide) (by decide) h
end
theorem oh (I:Inv X pins σ H s) (k:∀ b o,b∉ch→s.heap.get? b=some o→h'.get? b=some o) (hf:∀ b∈ch,pq X pins H b) (ht:0<t':=by first | exact Nat.succ_pos _ | exact (Inv.os (by assumption)).2 | assumption | nofun):Inv X pins σ H {s with heap:=h',toks:=t'}:=by
 have Tc:∀ b u,H b=some u→b∉ch:=λb u e z=>by rw [(hf b z).1] at e;cases e
 refine I.step (g':=s.gens) (d':=s.drawn) (ch:=ch) (λb hb=>⟨(hf b hb).2.2.2.1,(hf b hb).2.1,(hf b hb).2.2.2.2.1,(hf b hb).2.2.2.2.2⟩) (λb o _ _ hc e _=>k b o hc e) (λb o _ _ hc e _=>⟨o.slots,k b o hc e⟩) (λ_ _ _ _ n=>n)
  (λb o hc e=>⟨o,k b o hc e⟩) (λ_ _ e=>e) (λ_ _ _ e=>e) (λb ps e=>⟨#[],by rw [e];simp⟩) (λm hm=>?_) (λb u e=>?_) I.bare
 ·obtain ⟨o,es,ep,ho,r⟩:=hm
  exact ⟨o,es,ep,k _ o (λz=>(hf _ z).2.1 rfl) ho,r⟩
 ·refine (I.hok b u e).stay (λc v hc q=>k c v ?_ q) (λ_ q=>q) λ_ _ q=>q
  rcases hc with z | z
  ·rw [z];exact Tc b u e
  ·exact Tc c _ z
noncomputable abbrev View:=DH→Nat→Option (Option D)
variable {vw:View}
noncomputable def JV (K:PySem.W.Frag) (mg:Str→Option Value) (J:It) (vw:View) (H0:Hp) (ρ0:List Addr):Prop:=
 ∀ (i:Nat) (H:Hp) (ρ:List Addr) (G:DH),fh K H0 H ρ0 ρ→jR K mg H ρ G→(vw G i=some none→J.stop i H) ∧
  ∀ d,vw G i=some (some d)→J.go i H∧∀ x H',J.Bp i H x H'→CA K mg H H' ρ∧Rep K mg ρ H' d x
noncomputable def tM (g:tK) (body:MS) (vw:View):Nat→Nat→MS
 | 0,_=>λ_ _=>.stuck
 | f+1,i=>λτ G=>match vw G i with
  | none=>.stuck
  | some none=>.nx τ G
  | some (some d)=>match g d τ with
   | none=>.stuck
   | some τ1=>match body τ1 G with
    | .nx τ2 G2=>tM g body vw f (i+1) τ2 G2
    | .ct τ2 G2=>tM g body vw f (i+1) τ2 G2
    | .bk τ2 G2=>.nx τ2 G2
    | r=>r
noncomputable abbrev MI:=DS→M (Nat×View)
variable {mi:MI}
noncomputable def OX (K:PySem.W.Frag) (mg:Str→Option Value) (EE:gA) (mi:MI):TI:=λσ H R=>∃ τ ρ G,Ab K mg σ H τ ρ G∧match mi τ G with
 | .stuck=>False
 | .dU c G'=>∀ H' ρ',fh K H H' ρ ρ'→Ab K mg σ H' τ ρ' G'→EE c σ H'
 | .ok (_,vw) G'=>∀ J H' ρ',fh K H H' ρ ρ'→Ab K mg σ H' τ ρ' G'→JV K mg J vw H' ρ'→R J H'
noncomputable def QI (X:Cx) (EE:gA) (tg iter:Expr) (mi:MI):Prop:=PI X tg iter (OX X.K X.mg EE mi)
section
variable {X:Cx} {EE:gA} {tg iter a b:Expr} {g:tK} {mi:MI} {ms:MS} {pos p pc:Pos} {m:DS→M (List D)}
theorem KY {body:MS} {Dd:Ends} {J:It} {σ0:L2.St} {G0:DH} {τ0:DS} {fuel:Nat} (jv:JV X.K X.mg J vw H0 ρ0)
  (ab:Ab X.K X.mg σ0 H0 τ0 ρ0 G0) (ok:AR X.K X.mg EE H0 ρ0 Dd (tM g body vw fuel 0 τ0 G0)) :
  ∃ W:Nat→Nat→L2.St→Hp→Prop,(∃ m,W 0 m σ0 H0)∧∀ i m σ H,W i m σ H →
   (J.stop i H∧Dd.nx σ H)∨(J.go i H∧∃ N:L2.St→Hp→Prop,(∀ σ' H',N σ' H'→∃ m',m'<m∧W (i+1) m' σ' H')∧∀ x H',J.Bp i H x H'→DU X.K X.mg g x σ H' λσ2 H2=>jl X.K X.mg EE body {Dd with nx:=N,ct:=N,bk:=Dd.nx} σ2 H2):=by
 refine ⟨λi m σ H=>∃ τ ρ G,Ab X.K X.mg σ H τ ρ G∧fh X.K H0 H ρ0 ρ∧AR X.K X.mg EE H ρ Dd (tM g body vw m i τ G),⟨fuel,τ0,ρ0,G0,ab,.refl,ok⟩,?_⟩
 rintro i m σ H ⟨τ,ρ,G,ab,f,ok⟩
 cases m with
 | zero=>exact ok.elim
 | succ m=>
  unfold tM at ok
  obtain ⟨j1,j2⟩:=jv i H ρ G f ab.hp
  cases q:vw G i with
  | none=>rw [q] at ok;exact ok.elim
  | some od=>
   rw [q] at ok
   cases od with
   | none=>exact .inl ⟨j1 q,ok σ H ρ .refl ab⟩
   | some d=>
    dsimp only at ok
    obtain ⟨jg,jy⟩:=j2 d q
    refine .inr ⟨jg,λσ' H'=>∃ τ' ρ' G',Ab X.K X.mg σ' H' τ' ρ' G'∧fh X.K H0 H' ρ0 ρ'∧AR X.K X.mg EE H' ρ' Dd (tM g body vw m (i+1) τ' G'),λσ' H' z=>⟨m,Nat.lt_succ_self _,z⟩,λx H' y=>?_⟩
    obtain ⟨⟨fN,hN⟩,rx⟩:=jy x H' y
    replace ok:=AR.fut fN ok
    replace ab:Ab X.K X.mg σ H' τ ρ G:=ab.fut fN (hN _ ab.hp)
    replace f:=f.trans fN
    cases e:g d τ with
    | none=>rw [e] at ok;exact ok.elim
    | some τ1=>
     rw [e] at ok
     dsimp only at ok
     refine ⟨τ,ρ,G,d,τ1,ab,rx,e,λσ' di=>⟨τ1,ρ,G,di,?_⟩⟩
     cases eb:body τ1 G with
     | stuck=>rw [eb] at ok;exact ok
     | nx τ2 G2=>rw [eb] at ok;exact λσ2 H2 ρ2 f2 dW=>⟨τ2,ρ2,G2,dW,f.trans f2,ok.fut f2⟩
     | ct τ2 G2=>rw [eb] at ok;exact λσ2 H2 ρ2 f2 dW=>⟨τ2,ρ2,G2,dW,f.trans f2,ok.fut f2⟩
     | bk τ2 G2=>rw [eb] at ok;exact ok
     | rt d G2=>rw [eb] at ok;exact ok
     | xn c τ2 G2=>rw [eb] at ok;exact ok
noncomputable def tV (g:tK) (mi:MI) (body:MS):MS:=λτ=>fM (mi τ) (λx G=>tM g body x.2 x.1 0 τ G) λc G=>.xn c τ G
theorem sZ (hp:PassesOwn (model X.prog X.w) X.A X.env X.xe) (hc:X.calm=true) (hi:QI X EE tg iter mi) (hg:QG X tg g) (hb:FF X EE body ms) (hs:qe iter=true:=by rfl) :
  QS X EE (.For tg iter body [] pos) (tV g mi ms):=PS.mono (Fo hp hc hi hg hb (qf hs _)) λDd σ H h=>by
 obtain ⟨τ,ρ,G,ab,ok⟩:=h
 refine ⟨τ,ρ,G,ab,?_⟩
 dsimp only [tV,fM] at ok
 cases e:mi τ G with
 | stuck=>rw [e] at ok;exact ok
 | dU c G'=>rw [e] at ok;exact λH' ρ' f di=>ok σ H' ρ' f di
 | ok x G'=>rw [e] at ok;exact λJ H' ρ' f di jv=>KY jv di (ok.fut f)
noncomputable def tW (gO:D→Option (List D)) (ks:List Bool) (tt:DS→M Bool) (te:DS→M D) (n:Nat) (vw:View):Nat→Nat→DS→DH→Out D
 | 0,_,_,_=>.stuck
 | f+1,i,τ,G=>match vw G i with
  | none=>.stuck
  | some none=>.ok (.obj n) G
  | some (some d)=>match gW gO ks tt te n d τ G with
   | .ok _ G'=>tW gO ks tt te n vw f (i+1) τ G'
   | .dU c G'=>.dU c G'
   | .stuck=>.stuck
variable {gO:D→Option (List D)} {ow:V→Hp→List V→Prop} {xs:List Str} {ks:List Bool} {tt:DS→M Bool} {te:DS→M D}
theorem Jg (hO:tL X.K X.mg ow gO) {Q:VK} {J:It} {vw:View} {H0:Hp} {σ:L2.St} {ρ0:List Addr} {G0:DH} {τ:DS} {fuel:Nat} (jv:JV X.K X.mg J vw H0 ρ0)
  (ab:Ab X.K X.mg σ H0 τ ρ0 G0) (ok:pA X.K X.mg EE H0 σ τ ρ0 (tW gO ks tt te G0.length vw fuel 0 τ (G0++[.lst []])) Q) :
  ∀ D,H0 D=none→∃ W:Nat→Nat→Hp→Prop,(∃ m,W 0 m (upd H0 D (.lst [])))∧∀ i m H,W i m H →
   (J.stop i H∧Q (.ref D) H)∨(J.go i H∧∀ x H',J.Bp i H x H'→∃ vs,ow x H' vs∧liftT X.K X.mg (za EE σ) tt (vs.map some++mask ks σ) H' λb H2=>if b=true then cS X.K X.mg (za EE σ) te (vs.map some++mask ks σ) H2 λv H3=>∃ ys,H3 D=some (.lst ys)∧ys.length<sizeLine∧∃ m',m'<m∧W (i+1) m' (upd H3 D (.lst (ys++[v]))) else ∃ m',m'<m∧W (i+1) m' H2):=by
 intro D hD
 have f0:fh X.K H0 (upd H0 D (.lst [])) ρ0 (ρ0++[D]):=(fX hD ρ0).trans (jk ρ0 D)
 have KD:Ab X.K X.mg σ (upd H0 D (.lst [])) τ (ρ0++[D]) (G0++[.lst []]):=ab.fut f0 (ab.hp.more hD .nil)
 have hn0:(ρ0++[D])[G0.length]?=some D:=by rw [← ab.hp.hl,aY]
 refine ⟨λi m H=>∃ ρ G,Ab X.K X.mg σ H τ ρ G∧fh X.K H0 H ρ0 ρ∧ρ[G0.length]?=some D∧pA X.K X.mg EE H σ τ ρ (tW gO ks tt te G0.length vw m i τ G) Q,
  ⟨fuel,ρ0++[D],_,KD,f0,hn0,ok.fut f0⟩,?_⟩
 rintro i m H ⟨ρ,G,ab,f,hn,ok⟩
 cases m with
 | zero=>exact ok.elim
 | succ m=>
  unfold tW at ok
  obtain ⟨j1,j2⟩:=jv i H ρ G f ab.hp
  cases q:vw G i with
  | none=>rw [q] at ok;exact ok.elim
  | some od=>
   rw [q] at ok
   cases od with
   | none=>exact .inl ⟨j1 q,ok _ H ρ .refl ab (by unfold Rep;exact ⟨D,rfl,hn⟩)⟩
   | some d=>
    dsimp only at ok
    obtain ⟨jg,jy⟩:=j2 d q
    refine .inr ⟨jg,λx H' y=>?_⟩
    obtain ⟨⟨fN,hN⟩,rx⟩:=jy x H' y
    replace ok:=pA.fut fN ok
    replace ab:Ab X.K X.mg σ H' τ ρ G:=ab.fut fN (hN _ ab.hp)
    replace f:=f.trans fN
    refine xo hO (W:=λH3=>∃ m',m'<m+1∧∃ ρ G,Ab X.K X.mg σ H3 τ ρ G∧fh X.K H0 H3 ρ0 ρ∧ρ[G0.length]?=some D∧pA X.K X.mg EE H3 σ τ ρ (tW gO ks tt te G0.length vw m' (i+1) τ G) Q)
      ab rx hn ?_
    cases e:gW gO ks tt te G0.length d τ G with
    | stuck=>rw [e] at ok;exact ok
    | dU c G'=>rw [e] at ok;exact ok
    | ok _ G'=>
     rw [e] at ok
     exact λH3 ρ3 f3 yZ=>⟨m,Nat.lt_succ_self _,ρ3,G',yZ,f.trans f3,f3.get hn,ok.fut f3⟩
noncomputable def qh (gO:D→Option (List D)) (ks:List Bool) (mi:MI) (tt:DS→M Bool) (te:DS→M D):DS→M D:=λτ=>(mi τ).bind λx G=>tW gO ks tt te G.length x.2 x.1 0 τ (G++[.lst []])
theorem zV (hO:tL X.K X.mg ow gO) {σ:L2.St} {H:Hp} {Q:VK} (h:cS X.K X.mg EE (qh gO ks mi tt te) σ H Q) :
  DY (OX X.K X.mg EE mi) ks ow (liftT X.K X.mg (za EE σ) tt) (cS X.K X.mg (za EE σ) te) σ H Q:=by
 obtain ⟨τ,ρ,G,ab,ok⟩:=h
 refine ⟨τ,ρ,G,ab,?_⟩
 dsimp only [qh,M.bind] at ok
 cases e:mi τ G with
 | stuck=>rw [e] at ok;exact ok
 | dU c G'=>rw [e] at ok;exact ok
 | ok x G'=>rw [e] at ok;exact λJ H' ρ' f di jv=>Jg hO jv di (ok.fut f)
variable {scope:Scope} {elt:Expr} {ifs:List Expr}
theorem KZ (hx:oQ X EE) (hst:gC X) (S:dX X.env.scope X.N scope xs ks) (how:Own X scope xs ks tg ow) (hO:tL X.K X.mg ow gO) (hc:X.calm=true) (ha:QI X EE tg iter mi) (hb:zQ X scope xs ifs elt tt te) (hs:qe iter=true:=by rfl) :
  QE X EE (.ListComp elt [⟨tg,iter,ifs,0⟩] scope pos) (qh gO ks mi tt te):=PE.mono (Cz (tt:=λσ=>liftT X.K X.mg (za EE σ) tt) (te:=λσ=>cS X.K X.mg (za EE σ) te) hx hst S how hc ha (λσ cl C pins s0 H0 fp E=>hb cl C pins s0 H0 fp E _) (qf hs _)) λ_ _ _ h=>zV hO h
theorem K0 (hx:oQ X EE) (hst:gC X) (S:dX X.env.scope X.N scope xs ks) (how:Own X scope xs ks tg ow) (hO:tL X.K X.mg ow gO) (hc:X.calm=true) (hN:X.N.Nodup) (hl:X.env.scope.names.lookup y=some .local) (ha:QI X EE tg iter mi) (hb:zQ X scope xs ifs elt tt te)
  (hsw:swapsWith (.ListComp elt [⟨tg,iter,ifs,0⟩] scope pos) (some (.Name y py)) spos.line X.env=pure true) (hy:X.N[i]?=some y:=by rfl) (hs:qe iter=true:=by rfl) :
  QS X EE (.Assign [.Name y py] (.ListComp elt [⟨tg,iter,ifs,0⟩] scope pos) spos) (bP i (qh gO ks mi tt te)):=
 PS.mono (NL (tt:=λσ=>liftT X.K X.mg (za EE σ) tt) (te:=λσ=>cS X.K X.mg (za EE σ) te) hx hst S how hc hN ha hy hl hsw (λσ cl C pins s0 H0 fp E=>hb cl C pins s0 H0 fp E _) (qf hs _)) λ_ _ _ h=>KI (λ_ _ _ h=>zV hO h) h
noncomputable def gP (i j:Nat):tK:=λd τ=>match d with
 | .tup [x,y]=>some ((τ.set i (some x)).set j (some y))
 | _=>none
theorem vq {px py:Pos} {k:Nat} (hc:X.calm=true) (hN:X.N.Nodup) (hx:Loc X.env.scope x) (hy:Loc X.env.scope y) (hfx:X.fn x=true∨X.env.scope.names.lookup x=some .local) (hfy:X.fn y=true∨X.env.scope.names.lookup y=some .local) (hi:X.N[i]?=some x:=by rfl) (hj:X.N[j]?=some y:=by rfl) :
  QG X (.Tuple [.Name x px,.Name y py] k pos) (gP i j):=by
 intro pins s σ H v u Q I r ⟨τ,ρ,G,d,τ',ab,rd,e,q⟩
 refine P6 (n:=2) hc (Dw (Cg hN hi hx hfx) (Dw (Cg hN hj hy hfy) MW)) rfl rfl pins s σ H v u Q I r ?_
 cases d<;>try (cases e;done)
 rename_i ds
 match ds,e with
 | [d1,d2],e=>
  cases e
  unfold Rep at rd
  obtain ⟨a,vs,rfl,sq,rs⟩:=rd
  obtain ⟨v1,v2,rfl,r1,r2⟩:=Kv rs
  exact ⟨a,[v1,v2],rfl,sq,rfl,v1,[v2],rfl,v2,[],rfl,rfl,q _ (Ab.set (Ab.set ab r1) r2)⟩
noncomputable def Yi (K:PySem.W.Frag) (a:Addr):It:=
 ⟨λi H=>∃ xs x,q8 K H a xs∧xs[i]?=some x,λi H y H'=>∃ x p,(∀ xs,q8 K H a xs→xs[i]?=some x)∧H p=none∧y=.ref p∧H'=upd H p (.tup [.int i,x]),λi H=>∃ xs,q8 K H a xs∧xs.length≤i⟩
theorem Jh {k:Nat} {pt:Pos} (l e it:Addr) (hne:e≠it):Turn P w K (.Tuple es k pt) (Yi K l) [e,it] e (λi h=>∃ old,IsEnum h e it i old∧h.IsListIter it l i) where
 mem:=by simp
 obj:=λi h ⟨old,st1,st2⟩ b hb=>by
  rcases List.mem_cons.mp hb with rfl | hb
  ·exact ⟨_,st1,λv z=>by cases z⟩
  ·have e:b=it:=by simpa using hb
   subst e
   obtain ⟨o,e,c,d⟩:=st2
   exact ⟨o,e,λv z=>by rw [d] at z;cases z⟩
 keep:=λi h h' ⟨old,st1,st2⟩ kp=>⟨old,kp e (by simp) _ st1,st2.at λo q=>kp it (by simp) o q⟩
 item:=by
  intro X hP hw hK hc i pins s σ H E I hf ⟨old,st1,st2⟩ hg
  subst hP hw hK
  obtain ⟨xs,x,hq,hx⟩:=hg
  obtain ⟨its,rv,p,hz⟩:=I.list hq
  obtain ⟨u,hu,ru⟩:=rv.get hx
  have UA:e<s.heap.objs.size:=Heap.lt_size st1
  have K1:it<s.heap.objs.size:=by obtain ⟨o,q,_⟩:=st2;exact Heap.lt_size q
  refine wpAny_pyNext_enum_item st1 st2 p.isList (x:=u) (by simpa using hu) hne λh' hO hL htup hsz kp=>?_
  refine ⟨.ref s.heap.objs.size,rfl,?_⟩
  have I1:Inv X pins σ (upd H s.heap.objs.size (.tup [.int i,x])) {s with heap:=s.heap.push {cls:=.type "tuple",data:=.seq #[.int i s.toks,u]}}:=
   I.laid (t':=s.toks) (λb o q=>Heap.get?_push_of_some _ q) (Nat.le_refl _) ⟨by simp [sizeLine_eq],[.int i s.toks,u],.cons ⟨_,rfl⟩ (.cons ru .nil),PyProof.Rows.IsTup.new _ _⟩
  have hfree:=I.hok.fresh (Nat.le_refl s.heap.objs.size)
  have hf1:∀ b∈[e,it],pq X pins (upd H s.heap.objs.size (.tup [.int i,x])) b:=λb hb=>by
   have hlt:b≠s.heap.objs.size:=by
    rcases List.mem_cons.mp hb with rfl | hb
    ·exact Nat.ne_of_lt UA
    ·rw [List.mem_singleton.mp hb];exact Nat.ne_of_lt K1
   exact ⟨by rw [aI hlt];exact (hf b hb).1,(hf b hb).2⟩
  unfold letOwnedTupleGo
  refine wpAny_bind (wpAny_load hO ?_)
  dsimp only
  rw [if_pos (by simp)]
  refine wpAny_bind (wpAny_rule ?_)
  unfold updateField
  refine wpAny_bind (wpAny_load hO ?_)
  dsimp only
  rw [if_pos (by simp)]
  refine wpAny_update hO ?_
  have tT:∀ b,b≠e→(h'.update e (Obj.mapFields λx=>x.setIfInBounds 0 Value.none)).get? b=h'.get? b:=λb hb=>Heap.get?_update_other _ _ (Ne.symm hb)
  refine ⟨.ref s.heap.objs.size,_,oh (t':=s.toks+1) (s:={s with heap:=s.heap.push {cls:=.type "tuple",data:=.seq #[.int i s.toks,u]}}) (ch:=[e,it]) I1 (λb o hb q=>?_) hf1,rfl,⟨x,s.heap.objs.size,λys hy=>by rw [I.rQ hy hq];exact hx,hfree,rfl,rfl⟩,⟨u,?_,?_⟩,λb hb=>(hf1 b hb).1⟩
  ·have hb1:b≠e:=λz=>hb (by simp [z])
   have hb2:b≠it:=λz=>hb (by simp [z])
   show (h'.update e _).get? b=some o
   rw [tT b hb1]
   by_cases K2:b=s.heap.objs.size
   ·subst K2
    have:=Heap.get?_push_size (o:={cls:=.type "tuple",data:=.seq #[.int (i:Int) s.toks,u]}) s.heap rfl
    rw [this] at q;cases q
    exact htup
   ·have q':(s.heap.push {cls:=.type "tuple",data:=.seq #[.int (i:Int) s.toks,u]}).get? b=some o:=q
    refine kp b o hb1 hb2 ?_
    rwa [Heap.get?_push_ne _ _ _ K2] at q'
  ·show (h'.update e _).get? e=_
   rw [Heap.get?_update_self _ hO rfl]
   rfl
  ·exact hL.at λo q=>(tT it (Ne.symm hne)).trans q
 done:=by
  intro X hP hw hK hc i pins s σ H E I hf ⟨old,st1,st2⟩ hg
  subst hP hw hK
  obtain ⟨xs,hq,hx⟩:=hg
  obtain ⟨its,rv,p,hz⟩:=I.list hq
  obtain ⟨f0,f1,f2,f3,f4,f5⟩:=hf it (by simp)
  have hl:=rv.length
  exact wpAny_pyNext_enum_end (I.ok.hd hc) st1 st2 p.isList (by simp;nofun) λh' eb=>⟨rfl,I.turned (t':=s.toks) (λb o hb e=>eb b o hb e) f0 f1 f3 f4 f5⟩
 self:=λ_ _ _ _ _ ⟨old,st1,_⟩ h=>wpAny_pyIter_enum st1 h
noncomputable def tX (d:D):View:=λG i=>match bw G d with
 | some (.lst xs)=>some (xs[i]?.map λx=>.tup [.int i,x])
 | _=>none
noncomputable def Hh (m:DS→M (List D)):MI:=λτ=>(m τ).bind λds=>match ds with
 | [d]=>λG=>match bw G d with
  | some (.lst xs)=>.ok (xs.length+1,tX d) G
  | _=>.stuck
 | _=>M.stop
theorem xw:bootBuiltins "enumerate"=some (.type "enumerate"):=by symm
theorem NT (r:Rep K mg ρ0 H0 d (.ref l)) (hd:∃ xs,bw G0 d=some (.lst xs)):JV K mg (Yi K l) (tX d) H0 ρ0:=by
 intro i H ρ G f hp
 have key:∀ zs,bw G d=some (.lst zs)→∃ xs,q8 K H l xs∧aC K mg ρ H zs xs:=λzs q=>by
  have r':=Rep.mono f d _ r
  cases d with
  | con ws=>
   cases q
   unfold Rep at r'
   obtain ⟨a,xs,e,sq,rs⟩:=r'
   cases e
   exact ⟨xs,sq.seq,rs⟩
  | obj n=>
   unfold bw at q
   dsimp only at q
   unfold Rep at r'
   obtain ⟨a,e,e1⟩:=r'
   cases e
   cases g:G[n]? with
   | none=>rw [g] at q;cases q
   | some o=>
    cases o with
    | lst ws=>
     rw [g] at q;cases q
     obtain ⟨a',xs,e2,h2,rs⟩:=hp.lst g
     rw [e1] at e2;cases e2
     exact ⟨xs,.of h2,rs⟩
    | _=>first | (rw [q] at ok;exact ok.elim) | (rw [q] at bD;exact bD.elim) | (rw [q] at e;cases e;done) | (rw [g] at ok;exact ok.elim) | (rw [g] at q;cases q;done) | (rw [g] at h;cases h;done) | (rw [g2] at ok;exact ok.elim) | (rw [g1,g2] at ok;exact ok.elim) | (rw [q1] at ok;exact ok.elim) | exact ok.elim
  | tup ws=>cases q
  | str z=>cases q
  | _=>cases q
 unfold tX
 cases q:bw G d with
 | none=>exact ⟨λe=>(by cases e),λx e=>(by cases e)⟩
 | some sk=>
  cases sk with
  | tup zs=>exact ⟨λe=>(by cases e),λx e=>(by cases e)⟩
  | str z=>exact ⟨λe=>(by cases e),λx e=>(by cases e)⟩
  | lst zs=>
   obtain ⟨xs,sq,rs⟩:=key zs q
   dsimp only
   constructor
   ·intro e
    cases qi:zs[i]? with
    | some z=>rw [qi] at e;cases e
    | none=>exact ⟨xs,sq,by rw [← rs.length];exact List.getElem?_eq_none_iff.mp qi⟩
   ·intro dd e
    cases qi:zs[i]? with
    | none=>rw [qi] at e;cases e
    | some z=>
     rw [qi] at e;cases e
     obtain ⟨v,ev,rv⟩:=rs.get qi
     refine ⟨⟨xs,v,sq,ev⟩,λy H' hy=>?_⟩
     obtain ⟨v',p,ev',hp0,rfl,rfl⟩:=hy
     have ev':=ev' xs sq
     rw [ev] at ev';cases ev'
     refine ⟨CA.new hp0,?_⟩
     unfold Rep
     refine ⟨p,[.int i,v],rfl,.inl (.inl ck),.cons (by unfold Rep;rfl) (.cons (Rep.mono (fX hp0 ρ) _ _ rv) .nil)⟩
theorem NU {k:Nat} {pt:Pos} (hm:X.mg "enumerate"=none) (BE:Gl X "enumerate") (ha:QA X EE [a] m) (h:aB [a]=true:=by rfl):QI X EE (.Tuple es k pt) (.Call (.Name "enumerate" p) [a] [] pc) (Hh m):=by
 have h':dQ a=true∧aB []=true:=by simpa [aB] using h
 intro pins s σ H R I hq
 obtain ⟨τ,ρ,G,ab,ok⟩:=hq
 dsimp only [Hh,M.bind] at ok
 refine wpAny_Call_Name_kw (iy I BE hm xw ?_ (by decide) (by decide))
 have hA:ny X.K X.mg EE m σ H λvs H1=>∃ ρ1 G1 ds,Ab X.K X.mg σ H1 τ ρ1 G1∧fh X.K H H1 ρ ρ1∧aC X.K X.mg ρ1 H1 ds vs∧m τ G=.ok ds G1:=by
  refine ⟨τ,ρ,G,ab,?_⟩
  cases e:m τ G with
  | stuck=>rw [e] at ok;exact ok
  | dU c G'=>rw [e] at ok;exact ok
  | ok ds G'=>exact λvs H' ρ' f di r=>⟨ρ',G',ds,di,f,r,rfl⟩
 refine PyProof.Rows.callWith_type1 (gw (ha pc pins s σ H _ I hA) λus s1 yF=>?_) (bR h'.1 _ _) (bY (es:=[]) rfl)
 obtain ⟨vs,H1,I1,r1,ρ1,G1,ds,nB,f1,rs,em⟩:=yF
 rw [em] at ok
 dsimp only at ok
 match ds,rs,ok with
 | [],_,ok=>exact ok.elim
 | _::_::_,_,ok=>exact ok.elim
 | [d],rs,ok=>
  obtain ⟨x,rfl,rx⟩:=jU rs
  obtain ⟨u,rfl,ru⟩:=vals1 r1
  dsimp only at ok
  cases q:bw G1 d with
  | none=>rw [q] at ok;exact ok.elim
  | some sk=>
   rw [q] at ok
   cases sk with
   | tup zs=>exact ok.elim
   | str z=>exact ok.elim
   | lst zs=>
    dsimp only at ok
    obtain ⟨l,ys,rfl,sq,rv⟩:=dm (pins:=pins) (σ0:=σ) (s:=s1) nB.hp rx q
    cases ru
    obtain ⟨its,vv,pl,hz⟩:=I1.list sq
    refine call_enumerate_list pl.isList λh2 hE hL hsz kp=>?_
    refine wpAny_pyIter_enum hE ?_
    have I2:Inv X pins σ H1 {s1 with heap:=h2}:=I1.kept (t':=s1.toks) kp
    refine ⟨s1.heap.objs.size+1,[s1.heap.objs.size+1,s1.heap.objs.size],_,Yi X.K l,H1,rfl,I2,Jh l _ _ (Nat.succ_ne_self _),⟨_,hE,hL⟩,λb hb=>?_,ok _ H1 ρ1 f1 nB (NT rx ⟨zs,q⟩)⟩
    rcases List.mem_cons.mp hb with rfl | hb
    ·exact I1.uZ (Nat.le_succ _) (I1.hok.fresh (Nat.le_succ _))
    ·rw [List.mem_singleton.mp hb]
     exact I1.uZ (Nat.le_refl _) (I1.hok.fresh (Nat.le_refl _))
end
theorem lz (h:n≤2000000):n≤sizeLine:=by rw [sizeLine_eq];nofun
theorem Dp (A:DH) (x:DO) (B:DH):(A++x::B)[A.length]?=some x:=by simp
theorem UB (A:DH) (x y:DO) (B:DH):(A++x::y::B)[A.length+1]?=some y:=by
 rw [List.getElem?_append_right (by nofun)];simp
theorem K3 (A:DH) (x y:DO) (B:DH):(A++x::B).set A.length y=A++y::B:=by
 rw [List.set_append_right _ _ (Nat.le_refl _)];simp
theorem Z6 (A:DH) (x y z:DO) (B:DH):(A++x::y::B).set (A.length+1) z=A++x::z::B:=by
 rw [List.set_append_right _ _ (by nofun)];simp
theorem cB (g:Bool) (i j:Int) (G:DH):mq g (.int i) (.int j) G=.ok (.bl (g ^^ (i==j))) G:=by
 simp [mq,IM,rO,PyData.canLay0,PyData.depth,PyData.eqv]
theorem zb (g:Bool) (a b:Str) (G:DH) (ha:PyData.strOk a=true) (hb:PyData.strOk b=true):mq g (.str a) (.str b) G=.ok (.bl (g ^^ (a==b))) G:=by
 simp [mq,IM,rO,PyData.canLay0,PyData.depth,PyData.eqv,ha,hb]
theorem ye (G:DH):∀ ws:List Str,gH (rO G deep) (ws.map D.str)=some (ws.map PyData.str)
 | []=>rfl
 | w::ws=>by
  have ih:=ye G ws
  simp only [List.map_cons,gH,ih]
  rfl
theorem zW (t:Str) (ws:List Str) (G:DH) (h:PyData.strOk t=true) (hw:PyData.canLayAll0 (ws.map PyData.str)=true):OQ (.str t) (ws.map D.str) G=some (ws.any (·==t)):=by
 have e1:rO G deep (.str t)=some (.str t):=rfl
 unfold OQ
 rw [e1,ye]
 dsimp only
 have c1:(PyData.str t).canLay0=true:=by simpa [PyData.canLay0] using h
 have c3:min (PyData.depthAll (ws.map PyData.str)) (PyData.str t).depth≤580:=by
  have:(PyData.str t).depth≤580:=by simp [PyData.depth]
  nofun
 rw [if_pos (by rw [c1,hw];simpa using c3)]
 simp only [List.any_map]
 congr 1
theorem good_add {a b:Str} (ha:PyData.strOk a=true) (hb:PyData.strOk b=true):PyData.strOk (a++b)=true:=by
 have e:(a++b).cps=a.cps++b.cps:=rfl
 unfold PyData.strOk at *
 rw [e,Array.all_append,ha,hb];rfl
theorem CI (a b:Str):(a++b).length=a.length+b.length:=by
 show (a.cps++b.cps).size=a.cps.size+b.cps.size
 simp
theorem vA {α:Type} {xs:List α} {i:Int} (h0:0≤i) (h1:i<xs.length):∃ v,pX xs i=some v∧xs[i.toNat]?=some v:=by
 have hi:i.toNat<xs.length:=by nofun
 refine ⟨xs[i.toNat],?_,List.getElem?_eq_getElem hi⟩
 have:=yV (xs:=xs) (j:=i.toNat) (v:=xs[i.toNat]) (List.getElem?_eq_getElem hi)
 rwa [show ((i.toNat:Nat):Int)=i by nofun] at this
theorem Rj (z:Str) (i:Int) (G:DH) (h0:0≤i) (h1:i<z.length) (hz:z.length≤1000) (hok:PyData.strOk z=true):∃ s,fB (.str z) (.int i) G=.ok (.str s) G∧PyData.strOk s=true∧s.length=1:=by
 have hs:z.length≤sizeLine:=lz (by nofun)
 have hl:z.length=z.cps.toList.length:=by simp [Str.length]
 have hi:i.toNat<z.cps.toList.length:=by nofun
 obtain ⟨c,e,ec⟩:=vA (xs:=z.cps.toList) (i:=i) h0 (by nofun)
 refine ⟨⟨#[c]⟩,?_,?_,rfl⟩
 ·simp only [fB,bw,if_pos hs,e]
 ·have h2:z.cps.toList.all (·<0x110000)=true:=by simpa [PyData.strOk] using hok
  have:=List.all_eq_true.mp h2 _ (List.mem_of_getElem? ec)
  simpa [PyData.strOk] using this
theorem tu {j:Int} (h0:0≤j) (h1:j<100000):kL [.int j]=some ((List.range' 0 j.toNat).map λ(k:Nat)=>.int (0+(k:Int))):=by
 show (if -(2^62)≤j∧j<2^62 then some ((List.range j.toNat).map λ(k:Nat)=>D.int (0+(k:Int))) else none)=_
 rw [if_pos ⟨by nofun,by nofun⟩,List.range_eq_range']
noncomputable def Res.sq (r:Res) (k:MS):Res:=match r with
 | .nx τ G=>k τ G
 | r=>r
noncomputable def Out.cs (r:Out Bool) (a b:MS) (τ:DS):Res:=match r with
 | .stuck=>.stuck
 | .ok c G=>if c=true then a τ G else b τ G
 | .dU c G=>.xn c τ G
noncomputable def Out.st (r:Out D) (i:Nat) (τ:DS):Res:=match r with
 | .stuck=>.stuck
 | .ok d G=>.nx (τ.set i (some d)) G
 | .dU c G=>.xn c τ G
noncomputable def Out.xp (r:Out D) (τ:DS):Res:=match r with
 | .stuck=>.stuck
 | .ok d G=>.nx τ G
 | .dU c G=>.xn c τ G
noncomputable def Out.rn (r:Out D) (τ:DS):Res:=match r with
 | .stuck=>.stuck
 | .ok d G=>.rt d G
 | .dU c G=>.xn c τ G
noncomputable def Out.bd {α β:Type} (r:Out α) (k:α→M β):Out β:=match r with
 | .stuck=>.stuck
 | .ok a G=>k a G
 | .dU c G=>.dU c G
noncomputable def Out.sb {α:Type} (r:Out α) (τ:DS) (k:α→DH→Res):Res:=match r with
 | .stuck=>.stuck
 | .ok a G=>k a G
 | .dU c G=>.xn c τ G
noncomputable def Res.fn (r:Res):Out D:=match r with
 | .stuck=>.stuck
 | .nx _ G'=>.ok .i9 G'
 | .rt d G'=>.ok d G'
 | .bk _ _=>.stuck
 | .ct _ _=>.stuck
 | .xn c _ G'=>.dU c G'
noncomputable def Res.lp (r:Res) (k:MS):Res:=match r with
 | .nx τ G=>k τ G
 | .ct τ G=>k τ G
 | .bk τ G=>.nx τ G
 | r=>r
noncomputable def Yj (m k:MS):MS:=λτ G=>(m τ G).lp k
section
variable {m k:MS} {t ta tb:DS→M Bool} {a b:MS} {τ:DS} {G:DH} {e ma mb mo:DS→M D} {i n:Nat} {d:D} {c:XD} {α β:Type} {ml:DS→M (List D)} {f:D→D→M D} {fl:List D→M D}
theorem cQ:bq m k τ G=(m τ G).sq k:=by
 unfold bq Res.sq
 cases m τ G<;>rfl
theorem fO:(Res.nx τ G).sq k=k τ G:=Eq.trans rfl rfl
theorem Hi:(Res.rt d G).sq k=.rt d G:=Eq.trans rfl rfl
theorem Hj:Res.stuck.sq k=.stuck:=Eq.trans rfl rfl
theorem Hl:(Res.bk τ G).sq k=.bk τ G:=Eq.trans rfl rfl
theorem Ho:(Res.ct τ G).sq k=.ct τ G:=Eq.trans rfl rfl
theorem Hq:(Res.xn c τ G).sq k=.xn c τ G:=Eq.trans rfl rfl
theorem Hr:p8 t a b τ G=(t τ G).cs a b τ:=by
 unfold p8 fM Out.cs
 cases t τ G<;>rfl
theorem NV:(Out.ok true G).cs a b τ=a τ G:=Eq.trans rfl rfl
theorem NW:(Out.ok false G).cs a b τ=b τ G:=Eq.trans rfl rfl
theorem mC:bP i e τ G=(e τ G).st i τ:=by
 unfold bP fM Out.st
 cases e τ G<;>rfl
theorem rj:(Out.ok d G).st i τ=.nx (τ.set i (some d)) G:=Eq.trans rfl rfl
theorem zc:pC e τ G=(e τ G).xp τ:=by
 unfold pC fM Out.xp
 cases e τ G<;>rfl
theorem Hs:(Out.ok d G).xp τ=.nx τ G:=Eq.trans rfl rfl
theorem K4:fC e τ G=(e τ G).rn τ:=by
 unfold fC fM Out.rn
 cases e τ G<;>rfl
theorem OY:(Out.ok d G).rn τ=.rt d G:=Eq.trans rfl rfl
theorem zd:eg τ G=.nx τ G:=Eq.trans rfl rfl
theorem iE {x:α} {q:α→M β}:(Out.ok x G).bd q=q x G:=Eq.trans rfl rfl
theorem aF {mm:M α} {q:α→M β}:M.bind mm q G=(mm G).bd q:=by
 unfold M.bind Out.bd
 cases mm G<;>rfl
theorem oi {x:α}:M.ret x G=.ok x G:=Eq.trans rfl rfl
theorem je:ai i τ G=match τ[i]? with
 | some (some d)=>.ok d G
 | _=>.stuck:=Eq.trans rfl rfl
theorem zX:eC d τ G=.ok d G:=Eq.trans rfl rfl
theorem vB:aE f ma mb τ G=(ma τ G).bd λx=>(mb τ).bind λy=>f x y:=aF
theorem oj:au fl ml τ G=(ml τ G).bd fl:=aF
theorem iL:aq τ G=.ok [] G:=Eq.trans rfl rfl
theorem iW:af ma ml τ G=(ma τ G).bd λx=>(ml τ).bind λxs=>M.ret (x::xs):=aF
noncomputable def UC:D→M Bool
 | .bl b=>M.ret b
 | _=>M.stop
theorem K5:kK e τ G=(e τ G).bd UC:=by
 unfold kK
 rw [aF]
 unfold Out.bd
 cases e τ G<;>try rfl
theorem FY {b:Bool}:UC (.bl b) G=.ok b G:=Eq.trans rfl rfl
theorem D5:mj q e τ G=(e τ G).bd q:=aF
theorem Ht:tS t τ G=(t τ G).bd λc=>M.ret (!c):=aF
theorem FZ:zC ta tb τ G=(ta τ G).bd λc=>if c=true then M.ret true else tb τ:=aF
theorem Hu:pB ta tb τ G=(ta τ G).bd λc=>if c=true then tb τ else M.ret false:=aF
theorem K6 {y:Ty}:Cw y e τ G=(e τ G).bd (DV y):=aF
theorem vC:bL n mf ml τ G=(ml τ G).bd λds=>if ds.length=n then mf ds else M.stop:=aF
theorem pH {g:D→List D→M D}:gk T g mo ml τ G=(mo τ G).bd λd G=>if jV T G d=true then (ml τ G).bd (g d) else .stuck:=by
 unfold gk
 rw [aF]
 unfold Out.bd
 cases mo τ G with
 | stuck=>rfl
 | dU c G=>rfl
 | ok d G'=>simp only [aF];rfl
theorem xx {body:MS}:lA Iu g ml body τ G=(ml τ G).sb τ λds G=>match Iu ds with
  | some xs=>fE g body xs τ G
  | none=>.stuck:=by
 unfold lA fM Out.sb
 cases ml τ G<;>rfl
theorem D6 {body:MS}:xh g e body τ G=(e τ G).sb τ λd G=>match d with
  | .obj n=>match G[n]? with
   | some (.lst xs)=>Cu g body n (xs.length+1) 0 τ G
   | _=>.stuck
  | .tup xs=>fE g body xs τ G
  | .con xs=>fE g body xs τ G
  | .str z=>fE g body (z.cps.toList.map λc=>.str ⟨#[c]⟩) τ G
  | _=>.stuck:=by
 unfold xh fM Out.sb
 cases e τ G<;>rfl
theorem Hv {body:MS}:tV g mi body τ G=(mi τ G).sb τ λx G=>tM g body x.2 x.1 0 τ G:=by
 unfold tV fM Out.sb
 cases mi τ G<;>rfl
theorem K7 {x:α} {q:α→DH→Res}:(Out.ok x G).sb τ q=q x G:=Eq.trans rfl rfl
theorem CJ:ri gO ks e tt te τ G=(e τ G).bd λd G=>match d with
  | .obj k=>match G[k]? with
   | some (.lst xs)=>yd gO ks tt te G.length k (xs.length+1) 0 τ (G++[.lst []])
   | _=>.stuck
  | .tup xs=>gB gO ks tt te G.length xs τ (G++[.lst []])
  | .con xs=>gB gO ks tt te G.length xs τ (G++[.lst []])
  | .str z=>gB gO ks tt te G.length (z.cps.toList.map λc=>.str ⟨#[c]⟩) τ (G++[.lst []])
  | _=>.stuck:=aF
theorem zY:mz Iu gO ks ml tt te τ G=(ml τ G).bd λds G=>match Iu ds with
  | some xs=>gB gO ks tt te G.length xs τ (G++[.lst []])
  | none=>.stuck:=aF
theorem D7:qh gO ks mi tt te τ G=(mi τ G).bd λx G=>tW gO ks tt te G.length x.2 x.1 0 τ (G++[.lst []]):=aF
theorem nE:dR n m ds G=(m (ds.map some++List.replicate (n - ds.length) none) G).fn:=by
 unfold dR Res.fn
 cases m (ds.map some++List.replicate (n - ds.length) none) G<;>rfl
theorem OZ:(Res.rt d G).fn=.ok d G:=Eq.trans rfl rfl
theorem O0 {lo:DS→M (Option Int)}:BD e lo hi τ G=(e τ G).bd λd=>(lo τ).bind λl=>(hi τ).bind λh=>IP d l h:=aF
theorem Hw:jT τ G=.ok none G:=Eq.trans rfl rfl
noncomputable def O1:D→M (Option Int)
 | .int i=>M.ret (some i)
 | _=>M.stop
theorem Hx:jm e τ G=(e τ G).bd O1:=by
 unfold jm
 rw [aF]
 unfold Out.bd
 cases e τ G<;>try rfl
theorem Hy {i:Int}:O1 (.int i) G=.ok (some i) G:=Eq.trans rfl rfl
noncomputable def UD:D→M D
 | .int i=>M.ret (.int (-i))
 | _=>M.stop
theorem K8:zH e τ G=(e τ G).bd UD:=by
 unfold zH
 rw [aF]
 unfold Out.bd
 cases e τ G<;>try rfl
theorem K9 {i:Int}:UD (.int i) G=.ok (.int (-i)) G:=Eq.trans rfl rfl
theorem D8:uE i n uX ml τ G=match τ[i]? with
 | some (some (.fn y))=>match uX y with
  | some mf=>bL n mf ml τ G
  | none=>.stuck
 | _=>.stuck:=Eq.trans rfl rfl
theorem La:Yj m k τ G=(m τ G).lp k:=Eq.trans rfl rfl
theorem mT:(Res.nx τ G).lp k=k τ G:=Eq.trans rfl rfl
theorem vD:jW t m (n+1) τ G=(t τ G).cs (Yj m (jW t m n)) eg τ:=by
 rw [jW]
 unfold fM Out.cs
 dsimp only
 cases t τ G with
 | stuck=>rfl
 | dU c G=>rfl
 | ok b G'=>
  cases b with
  | false=>rfl
  | true=>
   simp only [if_true]
   unfold Yj Res.lp
   cases m τ G'<;>rfl
theorem jX {body:MS}:fE g body [] τ G=.nx τ G:=Eq.trans rfl rfl
theorem fP {body:MS} {x:D} {r:List D} {τ1:DS} (h:g x τ=some τ1):fE g body (x::r) τ G=(body τ1 G).lp (fE g body r):=by
 rw [fE,h]
 dsimp only
 unfold Res.lp
 cases body τ1 G<;>rfl
end
noncomputable def rp (c:Nat) (s:List Nat) (l:List Nat):List Nat:=l.flatMap λx=>if x=c then s else [x]
section
variable {m k mb me:MS} {τ:DS} {G:DH} {e:DS→M D} {c:XD} {x:Str} {ml:DS→M (List D)} {d:D}
noncomputable def Res.tr (r:Res) (mh:XD→MS) (me:MS):Res:=match r with
 | .nx τ' G'=>me τ' G'
 | .xn c τ' G'=>mh c τ' G'
 | r=>r
end
mutual
noncomputable def D.closed:D→Bool
 | .tup ds=>aX ds
 | .con ds=>aX ds
 | .obj _=>false
 | .DK _ _=>false
 | .pY _ _=>false
 | _=>true
noncomputable def aX:List D→Bool
 | []=>true
 | d::r=>d.closed&&aX r
end
noncomputable def AW (a b:DH):Bool:=@decide (a=b) (Classical.propDecidable _)
theorem BL (a:DH):AW a a=true:=@decide_eq_true _ (Classical.propDecidable _) rfl
theorem ze (a b:DH) (h:AW a b=true):a=b:=@of_decide_eq_true _ (Classical.propDecidable _) h
section
variable {K:PySem.W.Frag} {mg:Str→Option Value} {H H':Hp} {ρ ρ':List Addr} {G G':DH}
mutual
theorem zZ:∀ (d:D) (v:V),d.closed=true→Rep K mg ρ H d v→Rep K mg ρ' H d v
 | .i9,v,c,h=>by unfold Rep at h ⊢;exact h
 | .bl b,v,c,h=>by unfold Rep at h ⊢;exact h
 | .int i,v,c,h=>by unfold Rep at h ⊢;exact h
 | .str x,v,c,h=>by unfold Rep at h ⊢;exact h
 | .tup ds,v,c,h=>by
  unfold Rep at h ⊢
  obtain ⟨a,xs,e,s,r⟩:=h
  exact ⟨a,xs,e,s,lO ds xs (by simpa [D.closed] using c) r⟩
 | .con ds,v,c,h=>by
  unfold Rep at h ⊢
  obtain ⟨a,xs,e,s,r⟩:=h
  exact ⟨a,xs,e,s,lO ds xs (by simpa [D.closed] using c) r⟩
 | .obj n,v,c,h=>by simp [D.closed] at c
 | .fn x,v,c,h=>by unfold Rep at h ⊢;exact h
 | .DK _ _,v,c,h=>by simp [D.closed] at c
 | .pY _ _,v,c,h=>by simp [D.closed] at c
theorem lO:∀ (ds:List D) (vs:List V),aX ds=true→aC K mg ρ H ds vs→aC K mg ρ' H ds vs
 | [],vs,c,h=>by unfold aC at h ⊢;exact h
 | d::ds,vs,c,h=>by
  have c':d.closed=true∧aX ds=true:=by simpa [aX] using c
  unfold aC at h ⊢
  obtain ⟨v,r,e,h1,h2⟩:=h
  exact ⟨v,r,e,zZ d v c'.1 h1,lO ds r c'.2 h2⟩
end
mutual
theorem Rep.back (p:∃ r,ρ'=ρ++r):∀ (d:D) (v0 v:V),Rep K mg ρ H d v0→Rep K mg ρ' H' d v→Rep K mg ρ H' d v
 | .i9,v0,v,h0,h=>by unfold Rep at h ⊢;exact h
 | .bl b,v0,v,h0,h=>by unfold Rep at h ⊢;exact h
 | .int i,v0,v,h0,h=>by unfold Rep at h ⊢;exact h
 | .str x,v0,v,h0,h=>by unfold Rep at h ⊢;exact h
 | .tup ds,v0,v,h0,h=>by
  unfold Rep at h0 h ⊢
  obtain ⟨a,xs,e,s,r⟩:=h
  obtain ⟨a0,Ga,e0,s0,r0⟩:=h0
  exact ⟨a,xs,e,s,aC.back p ds Ga xs r0 r⟩
 | .con ds,v0,v,h0,h=>by
  unfold Rep at h0 h ⊢
  obtain ⟨a,xs,e,s,r⟩:=h
  obtain ⟨a0,Ga,e0,s0,r0⟩:=h0
  exact ⟨a,xs,e,s,aC.back p ds Ga xs r0 r⟩
 | .obj n,v0,v,h0,h=>by
  unfold Rep at h0 h ⊢
  obtain ⟨a,e,q⟩:=h
  obtain ⟨a0,e0,q0⟩:=h0
  obtain ⟨r,rfl⟩:=p
  rw [List.getElem?_append_left (List.getElem?_eq_some_iff.mp q0).1] at q
  exact ⟨a,e,q⟩
 | .fn x,v0,v,h0,h=>by unfold Rep at h ⊢;exact h
 | .DK c as,v0,v,h0,h=>by unfold Rep at h ⊢;exact h
 | .pY y ds,v0,v,h0,h=>by
  unfold Rep at h0 h ⊢
  obtain ⟨k,a,cs,xs,e,q0,q1,q2,r⟩:=h
  obtain ⟨_,_,_,Ga,_,_,_,_,r0⟩:=h0
  exact ⟨k,a,cs,xs,e,q0,q1,q2,aC.back p ds Ga xs r0 r⟩
theorem aC.back (p:∃ r,ρ'=ρ++r):∀ (ds:List D) (WA vs:List V),aC K mg ρ H ds WA→aC K mg ρ' H' ds vs→aC K mg ρ H' ds vs
 | [],WA,vs,h0,h=>by unfold aC at h ⊢;exact h
 | d::ds,WA,vs,h0,h=>by
  unfold aC at h0 h ⊢
  obtain ⟨v,r,e,h1,h2⟩:=h
  obtain ⟨v0,r0,e0,X8,h20⟩:=h0
  exact ⟨v,r,e,Rep.back p d v0 v X8 h1,aC.back p ds r0 r h20 h2⟩
end
theorem jR.cut (h:jR K mg H ρ G) (p:∃ r,ρ'=ρ++r) (h':jR K mg H' ρ' G') (e:G'.take G.length=G):jR K mg H' ρ G:=by
 refine ⟨h.hl,h.nd,λn o q=>?_⟩
 have hn:n<G.length:=(List.getElem?_eq_some_iff.mp q).1
 have q':G'[n]?=some o:=by
  rw [← e,List.getElem?_take] at q
  rw [if_pos hn] at q;exact q
 obtain ⟨a0,e0,r0⟩:=h.ob n o q
 obtain ⟨a,e1,r1⟩:=h'.ob n o q'
 have ea:a=a0:=by
  obtain ⟨r,rfl⟩:=p
  rw [List.getElem?_append_left (by rw [h.hl];exact hn),e0] at e1
  exact (Option.some.inj e1).symm
 subst ea
 refine ⟨a,e0,?_⟩
 cases o with
 | dct kv=>
  obtain ⟨xs,e2,rs⟩:=r1
  obtain ⟨Ga,_,UE⟩:=r0
  exact ⟨xs,e2,aC.back p _ Ga xs UE rs⟩
 | lst ds=>
  obtain ⟨xs,e2,rs⟩:=r1
  obtain ⟨Ga,_,UE⟩:=r0
  exact ⟨xs,e2,aC.back p ds Ga xs UE rs⟩
 | _=>exact r1
theorem zf {xs:List V} (e:H a=some (.lst xs)) (ρ:List Addr):fh K H (upd H a (.iU o (.lst xs))) ρ ρ:=by
 refine ⟨λb zs h=>?_,λb q u h=>by rw [aI (kC h e (by intro z;cases z))];exact h,⟨[],by simp⟩,λb φ h=>by rw [aI (kC h e (by intro z;cases z))];exact h⟩
 ·rcases h with (h | ⟨q,h⟩) | h
  ·exact .inl (.inl (by rw [aI (kC h e (by intro z;cases z))];exact h))
  ·exact .inl (.inr ⟨q,by rw [aI (kC h e (by intro z;cases z))];exact h⟩)
  ·exact .inr h
theorem jR.iU {xs:List V} (h:jR K mg H ρ G) (hn:ρ[n]?=some a) (e:H a=some (.lst xs)):jR K mg (upd H a (.iU o (.lst xs))) ρ (G.set n .dead):=by
 have f:fh K H (upd H a (.iU o (.lst xs))) ρ ρ:=zf e ρ
 refine ⟨by simp [h.hl],h.nd,λm ob q=>?_⟩
 by_cases hm:n=m
 ·subst hm
  rw [List.getElem?_set,if_pos rfl] at q
  split at q
  ·cases q
   exact ⟨a,hn,_,ck⟩
  ·cases q
 ·rw [List.getElem?_set_ne hm] at q
  obtain ⟨b,e1,r'⟩:=h.ob m ob q
  have hb:b≠a:=by
   rintro rfl
   obtain ⟨h1,JI⟩:=List.getElem?_eq_some_iff.mp hn
   obtain ⟨h2,JJ⟩:=List.getElem?_eq_some_iff.mp e1
   exact hm ((List.getElem_inj h.nd).mp (JI.trans JJ.symm))
  exact ⟨b,e1,r'.mono f λu q=>by rw [aI hb];exact q⟩
end
section
variable {X:Cx} {EE:gA}
theorem Hz {xs:List V} (I:Inv X pins σ H s) (e:H a=some (.lst xs)):∃ o,Inv X pins σ (upd H a (.iU o (.lst xs))) s:=by
 obtain ⟨z,its,n,r,hg⟩:=I.hok a _ e
 refine ⟨_,I.un (H':=upd H a (.iU {cls:=.type "list",data:=.seq its.toArray n} (.lst xs))) (h':=s.heap) (t':=s.toks) ⟨λb o q _ _ _=>q,λb o q _ _ _=>⟨o.slots,q⟩,λb o q hn _=>?_,λb o q _=>⟨o,q⟩,λb ys q=>?_,λb o u q=>?_,λb ps q=>⟨#[],?_⟩⟩ λb u q=>?_⟩
 ·rw [aI (by rintro rfl;rw [e] at hn;cases hn)];exact hn
 ·rw [aI (kC q e (by intro z;cases z))];exact q
 ·rw [aI (kC q e (by intro z;cases z))];exact q
 ·rw [aI (kC q e (by intro z;cases z)),q];simp
 ·have ho:∀ c y,H c=some (.own y)→upd H a (.iU {cls:=.type "list",data:=.seq its.toArray n} (.lst xs)) c=some (.own y):=λc y w=>by rw [aI (kC w e (by intro z;cases z))];exact w
  have ht:∀ c ys,H c=some (.tup ys)→upd H a (.iU {cls:=.type "list",data:=.seq its.toArray n} (.lst xs)) c=some (.tup ys):=λc ys w=>by rw [aI (kC w e (by intro z;cases z))];exact w
  by_cases hb:b=a
  ·subst hb
   rw [ck] at q;cases q
   exact ⟨hg,(I.hok b _ e).stay (λ_ _ _ w=>w) (λc w=>ho c b w) ht⟩
  ·rw [aI hb] at q
   exact (I.hok b u q).stay (λ_ _ _ w=>w) (λc w=>ho c b w) ht
noncomputable def Lb (m:DS→M D):DS→M D:=λτ G=>match m τ G with
 | .ok (.obj n) G'=>match G'[n]? with
  | some (.lst ds)=>.ok (.con ds) (G'.set n .dead)
  | _=>.stuck
 | r=>r
noncomputable def eFn (m:DS→M D):DS→M D:=λτ G=>match m τ G with
 | .ok (.obj n) G'=>match G'[n]? with
  | some (.lst ds)=>if n=G.length∧G'.length=n+1∧AW (G'.take G.length) G=true∧aX ds=true then .ok (.con ds) G else .stuck
  | _=>.stuck
 | r=>r
theorem Lc {Q Q':VK} {u:Value} (h:EP X pins σ Q' u s) (hq:∀ v H',Q' v H'→Q v H'∨∃ a xs,v=.ref a∧H' a=some (.lst xs)∧∀ o,Q v (upd H' a (.iU o (.lst xs)))):EP X pins σ Q u s:=by
 obtain ⟨v,H',I,r,q⟩:=h
 rcases hq v H' q with q | ⟨a,xs,rfl,e,q⟩
 ·exact ⟨v,H',I,r,q⟩
 ·obtain ⟨o,I'⟩:=Hz I e
  exact ⟨_,_,I',r,q o⟩
theorem HA (ha:QE X EE e m):QE X EE e (Lb m):=by
 intro pins s σ H Q I ⟨τ,ρ,G,ab,ok⟩
 dsimp only [Lb] at ok
 cases q:m τ G with
 | stuck=>rw [q] at ok;exact ok.elim
 | dU c G'=>rw [q] at ok;exact ha pins s σ H Q I ⟨τ,ρ,G,ab,by rw [q];exact ok⟩
 | ok d G'=>
  rw [q] at ok
  by_cases hd:∃ n,d=.obj n
  ·obtain ⟨n,rfl⟩:=hd
   dsimp only at ok
   cases g:G'[n]? with
   | none=>rw [g] at ok;exact ok.elim
   | some o=>
    rw [g] at ok
    cases o with
    | lst ds=>
     refine gw (ha pins s σ H (λv H'=>∃ a xs,v=.ref a∧H' a=some (.lst xs)∧∀ o,Q v (upd H' a (.iU o (.lst xs)))) I ⟨τ,ρ,G,ab,?_⟩) λu s' h=>Lc h λv H' q=>.inr q
     rw [q]
     intro v H' ρ' f di r
     unfold Rep at r
     obtain ⟨a,rfl,hn⟩:=r
     obtain ⟨a',xs,e1,e2,rs⟩:=di.hp.lst g
     rw [hn] at e1;cases e1
     refine ⟨a,xs,rfl,e2,λob=>?_⟩
     have f2:fh X.K H' (upd H' a (.iU ob (.lst xs))) ρ' ρ':=zf e2 ρ'
     refine ok _ _ ρ' (f.trans f2) ⟨di.st.mono f2,di.hp.iU hn e2⟩ ?_
     unfold Rep
     exact ⟨a,xs,rfl,.inl ⟨ob,ck⟩,rs.mono f2⟩
    | _=>exact ok.elim
  ·have ok':pA X.K X.mg EE H σ τ ρ (.ok d G') Q:=by
    cases d<;>first | exact ok | exact absurd ⟨_,rfl⟩ hd
   exact ha pins s σ H Q I ⟨τ,ρ,G,ab,by rw [q];exact ok'⟩
theorem cJ (ha:QE X EE e m):QE X EE e (eFn m):=by
 intro pins s σ H Q I ⟨τ,ρ,G,ab,ok⟩
 dsimp only [eFn] at ok
 cases q:m τ G with
 | stuck=>rw [q] at ok;exact ok.elim
 | dU c G'=>rw [q] at ok;exact ha pins s σ H Q I ⟨τ,ρ,G,ab,by rw [q];exact ok⟩
 | ok d G'=>
  rw [q] at ok
  by_cases hd:∃ n,d=.obj n
  ·obtain ⟨n,rfl⟩:=hd
   dsimp only at ok
   cases g:G'[n]? with
   | none=>rw [g] at ok;exact ok.elim
   | some o=>
    rw [g] at ok
    cases o with
    | lst ds=>
     dsimp only at ok
     by_cases hc:n=G.length∧G'.length=n+1∧AW (G'.take G.length) G=true∧aX ds=true
     ·rw [if_pos hc] at ok
      obtain ⟨hn0,hl,hb,hcl⟩:=hc
      refine gw (ha pins s σ H (λv H'=>∃ a xs,v=.ref a∧H' a=some (.lst xs)∧∀ o,Q v (upd H' a (.iU o (.lst xs)))) I ⟨τ,ρ,G,ab,?_⟩) λu s' h=>Lc h λv H' q=>.inr q
      rw [q]
      intro v H' ρ' f di r
      unfold Rep at r
      obtain ⟨a,rfl,hn⟩:=r
      obtain ⟨a',xs,e1,e2,rs⟩:=di.hp.lst g
      rw [hn] at e1;cases e1
      refine ⟨a,xs,rfl,e2,λob=>?_⟩
      have f2:fh X.K H' (upd H' a (.iU ob (.lst xs))) ρ' ρ':=zf e2 ρ'
      have f3:fh X.K H (upd H' a (.iU ob (.lst xs))) ρ ρ:=⟨λb ys w=>f2.tup b ys (f.tup b ys w),λb o u w=>f2.iU b o u (f.iU b o u w),⟨[],by simp⟩,λb φ w=>f2.ext b φ (f.ext b φ w)⟩
      have hp2:=di.hp.iU (o:=ob) hn e2
      have Gb:jR X.K X.mg (upd H' a (.iU ob (.lst xs))) ρ G:=ab.hp.cut f.pre hp2 (by
       rw [List.take_set_of_le (by nofun)]
       exact ze _ _ hb)
      refine ok _ _ ρ f3 ⟨ab.st.mono f3,Gb⟩ ?_
      unfold Rep
      exact ⟨a,xs,rfl,.inl ⟨ob,ck⟩,lO ds xs hcl (rs.mono f2)⟩
     ·rw [if_neg hc] at ok;exact ok.elim
    | _=>exact ok.elim
  ·have ok':pA X.K X.mg EE H σ τ ρ (.ok d G') Q:=by
    cases d<;>first | exact ok | exact absurd ⟨_,rfl⟩ hd
   exact ha pins s σ H Q I ⟨τ,ρ,G,ab,by rw [q];exact ok'⟩
end
noncomputable def jn (m:List D→M D):List D→M D:=λds G=>match m ds G with
 | .ok d G'=>if AW (G'.take G.length) G=true∧d.closed=true then .ok d G else .stuck
 | .dU c G'=>if AW (G'.take G.length) G=true then .dU c G else .stuck
 | .stuck=>.stuck
section
variable {K:PySem.W.Frag} {mg:Str→Option Value} {n:Nat} {m:List D→M D}
theorem D9 (f:fh K H H' ρ ρ'):fh K H H' ρ ρ:=⟨f.tup,f.iU,⟨[],by simp⟩,f.ext⟩
theorem gF (vs:List V) (H:Hp) (Q:VK) (E:XK) (h:bJ K mg n (jn m) vs H Q E):bJ K mg n m vs H Q E:=by
 obtain ⟨ds,ρ,G,hl,hp,rs,ok⟩:=h
 refine ⟨ds,ρ,G,hl,hp,rs,?_⟩
 dsimp only [jn] at ok
 cases q:m ds G with
 | stuck=>rw [q] at ok;exact ok
 | ok d G'=>
  rw [q] at ok
  dsimp only at ok
  by_cases hc:AW (G'.take G.length) G=true∧d.closed=true
  ·rw [if_pos hc] at ok
   intro v H' ρ' f JP r
   exact ok v H' ρ (D9 f) (hp.cut f.pre JP (ze _ _ hc.1)) (zZ d v hc.2 r)
  ·rw [if_neg hc] at ok;exact ok.elim
 | dU c G'=>
  rw [q] at ok
  dsimp only at ok
  by_cases hc:AW (G'.take G.length) G=true
  ·rw [if_pos hc] at ok
   intro cls H' ρ' hcl f JP
   exact ok cls H' ρ hcl (D9 f) (hp.cut f.pre JP (ze _ _ hc))
  ·rw [if_neg hc] at ok;exact ok.elim
end
noncomputable def Ci (K:PySem.W.Frag) (a:Addr) (n:Nat):It:=
 ⟨λi H=>∃ xs x,q8 K H a xs∧xs.length=n∧i<n∧xs[n - 1 - i]?=some x,λi H y H'=>H'=H∧∀ xs,q8 K H a xs→xs[n - 1 - i]?=some y,λi H=>i=n⟩
theorem Ld (a it:Addr) (n:Nat):Turn P w K tg (Ci K a n) [it] it (λi h=>h.IsRevIter it a ((n:Int) - 1 - (i:Int))) where
 mem:=by simp
 obj:=λi h st b hb=>by
  have e:b=it:=by simpa using hb
  subst e
  obtain ⟨o,e,c,d⟩:=st
  exact ⟨o,e,λv z=>by rw [d] at z;cases z⟩
 keep:=λi h h' st k=>st.at λo e=>k it (by simp) o e
 item:=by
  intro X hP hw hK hc i pins s σ H E I hf st hg
  subst hP hw hK
  obtain ⟨xs,x,hq,hn,hi,hx⟩:=hg
  obtain ⟨its,rv,p,hz⟩:=I.list hq
  obtain ⟨u,hu,ru⟩:=rv.get hx
  obtain ⟨f0,f1,f2,f3,f4,f5⟩:=hf it (by simp)
  have e:(n:Int) - 1 - (i:Int)=((n - 1 - i:Nat):Int):=by nofun
  rw [e] at st
  refine wpAny_pyNext_rev_item st p.isList (x:=u) (by simpa using hu) λh' st' sb=>?_
  have I1:Inv X pins σ H {s with heap:=h'}:=I.turned (t':=s.toks) (λb o hb e=>(sb.2 b hb).trans e) f0 f1 f3 f4 f5
  have e2:((n - 1 - i:Nat):Int) - 1=(n:Int) - 1 - ((i+1:Nat):Int):=by nofun
  rw [e2] at st'
  obtain ⟨o,e,c,d⟩:=id st'
  exact ⟨u,rfl,Bq (s:={s with heap:=h'}) e c d (by decide) ⟨x,H,I1,ru,⟨rfl,λys hy=>by rw [I.rQ hy hq];exact hx⟩,st',λb hb=>(hf b hb).1⟩⟩
 done:=by
  intro X hP hw hK hc i pins s σ H E I hf st hg
  subst hP hw hK
  have hi:i=n:=hg
  subst hi
  obtain ⟨f0,f1,f2,f3,f4,f5⟩:=hf it (by simp)
  rw [show (i:Int) - 1 - (i:Int)=-1 by nofun] at st
  exact wpAny_pyNext_rev_end (I.ok.hd hc) st λh' eb=>⟨rfl,I.turned (t':=s.toks) (λb o hb e=>eb b o hb e) f0 f1 f3 f4 f5⟩
 self:=λ_ _ _ _ _ st h=>wpAny_pyIter_revIter st h
noncomputable def Gd (d:D) (n:Nat):View:=λG i=>match bw G d with
 | some (.lst xs)=>if xs.length=n then (if i=n then some none else if i<n then some xs[n - 1 - i]? else none) else none
 | _=>none
noncomputable def Le (m:DS→M (List D)):MI:=λτ=>(m τ).bind λds=>match ds with
 | [d]=>λG=>match bw G d with
  | some (.lst xs)=>.ok (xs.length+1,Gd d xs.length) G
  | _=>.stuck
 | _=>M.stop
section
variable {X:Cx} {EE:gA} {tg iter a b:Expr} {g:tK} {mi:MI} {ms:MS} {pos p pc:Pos} {m:DS→M (List D)}
theorem Ge {ws:List D} (f:fh X.K H H' ρ ρ') (rx:Rep X.K X.mg ρ H d (.ref l)) (hp:jR X.K X.mg H' ρ' G') (q:bw G' d=some (.lst ws)):∃ xs,q8 X.K H' l xs∧aC X.K X.mg ρ' H' ws xs:=by
 have WH:=rx.mono f
 cases d with
 | con ds=>
  cases q
  unfold Rep at WH
  obtain ⟨a',xs,e,s,r⟩:=WH
  cases e
  exact ⟨xs,s.seq,r⟩
 | obj n=>
  unfold Rep at WH
  obtain ⟨a',e,r⟩:=WH
  cases e
  dsimp only [bw] at q
  cases g:G'[n]? with
  | none=>rw [g] at q;cases q
  | some o=>
   cases o with
   | lst ys=>
    rw [g] at q;cases q
    obtain ⟨a',xs,e1,e2,rs⟩:=hp.lst g
    rw [r] at e1;cases e1
    exact ⟨xs,.inl (.of e2),rs⟩
   | _=>rw [g] at q;cases q
 | _=>cases q
theorem Rk (rx:Rep X.K X.mg ρ H d (.ref l)):JV X.K X.mg (Ci X.K l n) (Gd d n) H ρ:=by
 intro i H' ρ' G' f hp
 unfold Gd
 cases q:bw G' d with
 | none=>exact ⟨λe=>(by cases e),λx e=>(by cases e)⟩
 | some sk=>
  cases sk with
  | tup zs=>exact ⟨λe=>(by cases e),λx e=>(by cases e)⟩
  | str z=>exact ⟨λe=>(by cases e),λx e=>(by cases e)⟩
  | lst zs=>
   dsimp only
   by_cases hn:zs.length=n
   ·rw [if_pos hn]
    by_cases hi:i=n
    ·rw [if_pos hi]
     exact ⟨λ_=>hi,λx e=>(by cases e)⟩
    ·rw [if_neg hi]
     by_cases hlt:i<n
     ·rw [if_pos hlt]
      obtain ⟨xs,sq,rs⟩:=Ge f rx hp q
      refine ⟨λe=>?_,λx e=>?_⟩
      ·have:=Option.some.inj e
       rw [List.getElem?_eq_none_iff] at this
       nofun
      ·have e':=Option.some.inj e
       obtain ⟨v,hv,rv⟩:=rs.get e'
       refine ⟨⟨xs,v,sq,by rw [← rs.length];exact hn,hlt,hv⟩,λy H2 hy=>?_⟩
       obtain ⟨rfl,hy⟩:=hy
       have:=hy xs sq
       rw [hv] at this;cases this
       exact ⟨⟨.refl,λ_ h=>h⟩,rv⟩
     ·rw [if_neg hlt];exact ⟨λe=>(by cases e),λx e=>(by cases e)⟩
   ·rw [if_neg hn];exact ⟨λe=>(by cases e),λx e=>(by cases e)⟩
theorem Lf (hm:X.mg "reversed"=none) (BE:Gl X "reversed") (ha:QA X EE [a] m) (h:aB [a]=true:=by rfl):QI X EE tg (.Call (.Name "reversed" p) [a] [] pc) (Le m):=by
 have h':dQ a=true∧aB []=true:=by simpa [aB] using h
 intro pins s σ H R I hq
 obtain ⟨τ,ρ,G,ab,ok⟩:=hq
 dsimp only [Le,M.bind] at ok
 refine wpAny_Call_Name_kw (iy I BE hm vn ?_ (by decide) (by decide))
 have hA:ny X.K X.mg EE m σ H λvs H1=>∃ ρ1 G1 ds,Ab X.K X.mg σ H1 τ ρ1 G1∧fh X.K H H1 ρ ρ1∧aC X.K X.mg ρ1 H1 ds vs∧m τ G=.ok ds G1:=by
  refine ⟨τ,ρ,G,ab,?_⟩
  cases e:m τ G with
  | stuck=>rw [e] at ok;exact ok
  | dU c G'=>rw [e] at ok;exact ok
  | ok ds G'=>exact λvs H' ρ' f di r=>⟨ρ',G',ds,di,f,r,rfl⟩
 refine PyProof.Rows.callWith_type1 (gw (ha pc pins s σ H _ I hA) λus s1 yF=>?_) (bR h'.1 _ _) (bY (es:=[]) rfl)
 obtain ⟨vs,H1,I1,r1,ρ1,G1,ds,nB,f1,rs,em⟩:=yF
 rw [em] at ok
 dsimp only at ok
 match ds,rs,ok with
 | [],_,ok=>exact ok.elim
 | _::_::_,_,ok=>exact ok.elim
 | [d],rs,ok=>
  obtain ⟨x,rfl,rx⟩:=jU rs
  obtain ⟨u,rfl,ru⟩:=vals1 r1
  dsimp only at ok
  cases q:bw G1 d with
  | none=>rw [q] at ok;exact ok.elim
  | some sk=>
   rw [q] at ok
   cases sk with
   | tup zs=>exact ok.elim
   | str z=>exact ok.elim
   | lst zs=>
    dsimp only at ok
    obtain ⟨l,ys,rfl,sq,rv⟩:=dm (pins:=pins) (σ0:=σ) (s:=s1) nB.hp rx q
    cases ru
    obtain ⟨its,vv,pl,hz⟩:=I1.list sq
    refine call_reversed_list pl.isList ?_
    have hst:(s1.heap.push (revObj l ((its.toArray.size:Int) - 1))).IsRevIter s1.heap.objs.size l ((its.toArray.size:Int) - 1):=⟨_,Heap.get?_push_size _ rfl,rfl,rfl⟩
    refine wpAny_pyIter_revIter (s:={s1 with heap:=s1.heap.push (revObj l ((its.toArray.size:Int) - 1))}) hst ?_
    have I2:Inv X pins σ H1 {s1 with heap:=s1.heap.push (revObj l ((its.toArray.size:Int) - 1))}:=I1.kept (t':=s1.toks) λb o e=>Heap.get?_push_of_some _ e
    have hlen:its.toArray.size=zs.length:=by rw [List.size_toArray,← vv.length,rv.length]
    refine ⟨s1.heap.objs.size,[s1.heap.objs.size],_,Ci X.K l zs.length,H1,rfl,I2,Ld l _ _,?_,λb hb=>?_,ok _ H1 ρ1 f1 nB (Rk rx)⟩
    ·show (s1.heap.push (revObj l ((its.toArray.size:Int) - 1))).IsRevIter s1.heap.objs.size l ((zs.length:Int) - 1 - ((0:Nat):Int))
     rw [← hlen]
     simpa using hst
    ·rw [List.mem_singleton.mp hb]
     exact I1.uZ (Nat.le_refl _) (I1.hok.fresh (Nat.le_refl _))
end
theorem boot_zip:bootBuiltins "zip"=some (.type "zip"):=by symm
section
open PyProof.Rows
section
variable {X:Cx} {EE:gA} {a b e:Expr} {ma mb:DS→M D} {pos:Pos}
theorem NX:nv X (binaryOp .Add) (λx y H Q=>∃ l b xs zs,x=.ref l∧y=.ref b∧q8 X.K H l xs∧q8 X.K H b zs∧xs.length+zs.length≤sizeLine∧∀ p,H p=none→Q (.ref p) (upd H p (.lst (xs++zs)))):=by
 intro pins s σ H x y v u Q I rx ry h
 obtain ⟨l,b,xs,zs,rfl,rfl,hH,hB,hz,q⟩:=h
 cases rx
 cases ry
 obtain ⟨its,r,⟨o,n,e,c,dn,d⟩,hl⟩:=I.list hH
 obtain ⟨its2,r2,⟨o2,n2,e2,c2,UG,d2⟩,hl2⟩:=I.list hB
 obtain ⟨cls,dd,data,sl⟩:=o
 obtain ⟨Qx,dd2,data2,sl2⟩:=o2
 simp only at c dn d c2 UG d2
 subst c dn d c2 UG d2
 have hlen:=r.length
 have hlen2:=r2.length
 have ea:its.toArray++its2.toArray=(its++its2).toArray:=by simp
 refine concat_meets ⟨_,e,rfl⟩ ⟨_,e2,rfl⟩ noFill_list_add seq_list_add PySem.F.slot_list_add PySem.F.entry_list_add (PySem.F.args_list_add_2 _ _) (list_addW l b its.toArray its2.toArray n n2 _ _ sl sl2 (by simp only [List.size_toArray];nofun)) ⟨e,e2,?_⟩
 rw [ea]
 exact ⟨.ref _,_,I.XN (t':=s.toks) (r.append r2) (by rw [List.length_append];nofun),rfl,q _ I.fresh⟩
theorem NY:nv X (binaryOp .Add) (λx y H Q=>∃ a b ys,x=.ref a∧y=.ref b∧rG X.K H a []∧rG X.K H b ys∧Q (.ref b) H):=by
 intro pins s σ H x y v u Q I rx ry h
 obtain ⟨a,b,ys,rfl,rfl,ha,hb,q⟩:=h
 cases rx
 cases ry
 obtain ⟨its,r1,p1,_⟩:=I.tuple ha
 obtain ⟨its2,r2,p2,_⟩:=I.tuple hb
 have e0:its=[]:=by cases r1;rfl
 subst e0
 obtain ⟨⟨cls,dd,data,sl⟩,ho,hc,n,hd⟩:=id p1
 obtain ⟨⟨Qx,dd2,data2,sl2⟩,ho2,hc2,n2,hd2⟩:=id p2
 simp only at hc hd hc2 hd2
 subst hc hd hc2 hd2
 exact concat_meets ⟨_,ho,rfl⟩ ⟨_,ho2,rfl⟩ noFill_tuple_add seq_tuple_add PySem.F.slot_tuple_add PySem.F.entry_tuple_add (PySem.F.args_tuple_add_2 _ _)
   (tuple_addW0 a b _ _ n n2 dd dd2 sl sl2 (by simp)) ⟨ho,ho2,⟨.ref b,H,I,rfl,q⟩⟩
noncomputable def tN (G:DH):D→Option (List D)
 | .con xs=>some xs
 | .obj n=>match G[n]? with
  | some (.lst xs)=>some xs
  | _=>none
 | _=>none
theorem Aa {xs:List D} (h:tN G d=some xs):bw G d=some (.lst xs):=by
 cases d with
 | con ys=>cases h;rfl
 | obj n=>
  dsimp only [tN] at h
  dsimp only [bw]
  cases g:G[n]? with
  | none=>rw [g] at h;cases h
  | some o=>
   cases o with
   | lst ys=>rw [g] at h;cases h;rfl
   | _=>rw [g] at h;cases h
 | _=>cases h
noncomputable def bO (d e:D):M D:=λG=>match d,e with
 | .int i,.int j=>.ok (.int (i+j)) G
 | .str i,.str j=>if i.length+j.length≤sizeLine then .ok (.str (i++j)) G else .stuck
 | .tup [],.tup ys=>.ok (.tup ys) G
 | .tup (x::xs),.tup ys=>gx (x::xs++ys) G
 | d,e=>match tN G d,tN G e with
  | some xs,some ys=>bU (xs++ys) G
  | _,_=>.stuck
theorem NZ:nv X (binaryOp .Add) (rD X EE bO):=by
 intro pins s σ0 H x y v u Q I rx ry ⟨σ,τ,ρ,G,d,e,ab,r1,r2,ok⟩
 have lists:∀ xs ys,tN G d=some xs→tN G e=some ys→pA X.K X.mg EE H σ τ ρ (bU (xs++ys) G) Q→wpAny (model X.prog X.w) X.A (binaryOp .Add v u) (EP X pins σ0 Q) X.xe s:=λxs ys h1 h2 ok=>by
  obtain ⟨l,vs,rfl,s1,t1⟩:=dm (pins:=pins) (σ0:=σ0) (s:=s) ab.hp r1 (Aa h1)
  obtain ⟨l2,ws,rfl,s2,t2⟩:=dm (pins:=pins) (σ0:=σ0) (s:=s) ab.hp r2 (Aa h2)
  obtain ⟨hl,q1⟩:=w9 ab (t1.append t2) ok
  rw [List.length_append] at hl
  exact NX pins s σ0 H _ _ v u Q I rx ry ⟨l,l2,vs,ws,rfl,rfl,s1,s2,hl,q1⟩
 have rest:(pA X.K X.mg EE H σ τ ρ (match tN G d,tN G e with
  | some xs,some ys=>bU (xs++ys) G
  | _,_=>.stuck) Q)→wpAny (model X.prog X.w) X.A (binaryOp .Add v u) (EP X pins σ0 Q) X.xe s:=λok=>by
  cases h1:tN G d with
  | none=>rw [h1] at ok;exact ok.elim
  | some xs=>
   cases h2:tN G e with
   | none=>rw [h1,h2] at ok;exact ok.elim
   | some ys=>rw [h1,h2] at ok;exact lists xs ys h1 h2 ok
 cases d with
 | int i=>
  cases e with
  | int j=>
   unfold Rep at r1 r2;subst r1 r2
   exact Qe pins s σ0 H _ _ v u Q I rx ry ⟨i,j,rfl,rfl,ok _ H ρ .refl ab (by unfold Rep;rfl)⟩
  | _=>exact rest ok
 | str i=>
  cases e with
  | str j=>
   unfold Rep at r1 r2;subst r1 r2
   dsimp only [bO] at ok
   by_cases h:i.length+j.length≤sizeLine
   ·rw [if_pos h] at ok
    exact Ft pins s σ0 H _ _ v u Q I rx ry ⟨i,j,rfl,rfl,h,ok _ H ρ .refl ab (by unfold Rep;rfl)⟩
   ·rw [if_neg h] at ok;exact ok.elim
  | _=>exact rest ok
 | tup xs=>
  cases e with
  | tup ys=>
   have r2':=r2
   unfold Rep at r1 r2
   obtain ⟨p,vs,rfl,s1,t1⟩:=r1
   obtain ⟨q,ws,rfl,s2,t2⟩:=r2
   cases xs with
   | nil=>
    have hv:vs=[]:=by have:=t1.length;cases vs with | nil=>rfl | cons _ _=>simp at this
    subst hv
    exact NY pins s σ0 H _ _ v u Q I rx ry ⟨p,q,ws,rfl,rfl,s1,s2,ok _ H ρ .refl ab r2'⟩
   | cons x xs=>
    have ok':pA X.K X.mg EE H σ τ ρ (gx (x::xs++ys) G) Q:=ok
    have t12:=t1.append t2
    obtain ⟨hl,q1⟩:=zA ab t12 ok'
    rw [List.length_append] at hl
    have hv:vs≠[]:=by
     intro z;subst z
     have:=t1.length
     simp at this
    refine Na pins s σ0 H _ _ v u Q I rx ry ⟨p,q,vs,ws,rfl,rfl,s1,s2,hv,hl,λz=>?_,λz p hp=>q1 p hp⟩
    subst z
    have hy:ys=[]:=by
     have:=t2.length
     cases ys with
     | nil=>rfl
     | cons _ _=>simp at this
    subst hy
    unfold gx at ok'
    split at ok'
    ·exact ok' _ H ρ .refl ab (by rw [List.append_nil];unfold Rep;exact ⟨p,vs,rfl,s1,t1⟩)
    ·exact ok'.elim
  | _=>cases xs<;>exact rest ok
 | _=>exact rest (by cases e<;>exact ok)
theorem cI (ha:QE X EE a ma) (hb:QE X EE b mb):QE X EE (.BinOp a .Add b pos) (aE bO ma mb):=tR NZ vh ha hb
theorem Rl {f:Flow} (h:SP X pins D' f s) (hb:D'.bk=Dd.bk) (hc:D'.ct=Dd.ct) (hr:D'.rt=Dd.rt)
  (hq:∀ σ H,D'.nx σ H→Dd.nx σ H∨∃ a xs,H a=some (.lst xs)∧∀ o,Dd.nx σ (upd H a (.iU o (.lst xs)))):SP X pins Dd f s:=by
 obtain ⟨nx,bk,ct,rt⟩:=D'
 subst hb hc hr
 cases f with
 | next=>
  obtain ⟨σ',H',I,q⟩:=h
  rcases hq σ' H' q with q | ⟨a,xs,e,q⟩
  ·exact ⟨σ',H',I,q⟩
  ·obtain ⟨o,I'⟩:=Hz I e
   exact ⟨σ',_,I',q o⟩
 | _=>exact h
theorem UH {st:Stmt} (hs:QS X EE st (bP i m)):QS X EE st (bP i (eFn m)):=by
 intro pins s σ H Dd I ⟨τ,ρ,G,ab,ok⟩
 dsimp only [bP,fM,eFn] at ok
 cases q:m τ G with
 | stuck=>rw [q] at ok;exact ok.elim
 | dU c G'=>rw [q] at ok;exact hs pins s σ H Dd I ⟨τ,ρ,G,ab,by dsimp only [bP,fM];rw [q];exact ok⟩
 | ok d G'=>
  rw [q] at ok
  by_cases hd:∃ n,d=.obj n
  ·obtain ⟨n,rfl⟩:=hd
   dsimp only at ok
   cases g:G'[n]? with
   | none=>rw [g] at ok;exact ok.elim
   | some o=>
    rw [g] at ok
    cases o with
    | lst ds=>
     dsimp only at ok
     by_cases hc:n=G.length∧G'.length=n+1∧AW (G'.take G.length) G=true∧aX ds=true
     ·rw [if_pos hc] at ok
      obtain ⟨hn0,hl,hb,hcl⟩:=hc
      refine gw (hs pins s σ H {Dd with nx:=λσ' H'=>∃ a xs,H' a=some (.lst xs)∧∀ o,Dd.nx σ' (upd H' a (.iU o (.lst xs)))} I ⟨τ,ρ,G,ab,?_⟩) λu s' h=>Rl h rfl rfl rfl λσ' H' q=>.inr q
      dsimp only [bP,fM]
      rw [q]
      intro σ' H' ρ' f di
      obtain ⟨a,xs,e1,e2,rs⟩:=di.hp.lst g
      refine ⟨a,xs,e2,λob=>?_⟩
      have f2:fh X.K H' (upd H' a (.iU ob (.lst xs))) ρ' ρ':=zf e2 ρ'
      have f3:fh X.K H (upd H' a (.iU ob (.lst xs))) ρ ρ:=⟨λb ys w=>f2.tup b ys (f.tup b ys w),λb o u w=>f2.iU b o u (f.iU b o u w),⟨[],by simp⟩,λb φ w=>f2.ext b φ (f.ext b φ w)⟩
      have Gb:jR X.K X.mg (upd H' a (.iU ob (.lst xs))) ρ G:=ab.hp.cut f.pre (di.hp.iU (o:=ob) e1 e2) (by
       rw [List.take_set_of_le (by nofun)]
       exact ze _ _ hb)
      refine ok σ' _ ρ f3 ⟨⟨by rw [di.st.1];simp,λj dj ej=>?_⟩,Gb⟩
      by_cases hij:i=j
      ·subst hij
       by_cases hi:i<τ.length
       ·rw [List.getElem?_set,if_pos rfl,if_pos hi] at ej
        cases ej
        obtain ⟨vv,ev,rv⟩:=di.st.2 i (.obj n) (by rw [List.getElem?_set,if_pos rfl,if_pos hi])
        unfold Rep at rv
        obtain ⟨a',rfl,hn'⟩:=rv
        rw [e1] at hn';cases hn'
        refine ⟨_,ev,?_⟩
        unfold Rep
        exact ⟨a,xs,rfl,.inl ⟨ob,ck⟩,lO ds xs hcl (rs.mono f2)⟩
       ·rw [List.getElem?_set,if_pos rfl,if_neg hi] at ej;cases ej
      ·have ej0:=ej
       rw [List.getElem?_set_ne hij] at ej
       obtain ⟨v',ev',rv'⟩:=di.st.2 j dj (by rw [List.getElem?_set_ne hij];exact ej)
       obtain ⟨v0,ev0,rv0⟩:=ab.st.2 j dj ej
       exact ⟨v',ev',Rep.back f.pre dj v0 v' rv0 (rv'.mono f2)⟩
     ·rw [if_neg hc] at ok;exact ok.elim
    | _=>exact ok.elim
  ·have ok':AR X.K X.mg EE H ρ Dd (.nx (τ.set i (some d)) G'):=by
    cases d<;>first | exact ok | exact absurd ⟨_,rfl⟩ hd
   exact hs pins s σ H Dd I ⟨τ,ρ,G,ab,by dsimp only [bP,fM];rw [q];exact ok'⟩
theorem Gf (l:Addr) (items:Array Value) (n:Nat) (b:Addr) (items2:Array Value) (n2:Nat) (sl2:Array (Option Value)) (hc0:¬(!items.isEmpty&&Builtin.List.listTooLong (items.size+items2.size))=true) (hc1:items.size≤sizeLine) (hs2:items.size+items2.size≤sizeLine+1) :
  Meets (Builtin.«list.extend» ⟨[.ref l,.ref b],[]⟩) (λ_ R s=>s.heap.get? l=some {cls:=.type "list",dict:=none,data:=.seq items n,slots:=#[]}∧s.heap.get? b=some {cls:=.type "list",dict:=none,data:=.seq items2 n2,slots:=sl2}∧R (.ok (.ret Value.none)) {s with heap:=s.heap.update l (Obj.mapSeq λx=>x++items2),toks:=s.toks}):=
 .of_wp λprog w A R s h=>by
  obtain ⟨hp,g,d,tk,os⟩:=s;obtain ⟨hl,hb,h⟩:=h;have f1:=AutoSeq1.idx_int;have f2:=AutoSeq1.sub_tuple_tuple;have f3:=AutoSeq1.sub_list_list;have f4:=AutoSeq1.sub_tuple_list;have f5:=AutoSeq1.sub_list_tuple;
  have hz':(items++items2).size≤sizeLine+1:=by rw [Array.size_append];exact hs2
  wp_walk using (wpAny_updateSeq hl rfl (hz:=hc1) (_hz':=hz')),wpAny_loadPart' hl,wpAny_loadPart' hb;exact ⟨_,rfl,h⟩
theorem Gg:ON X "list.extend" (λx vs H Q=>∃ l b xs zs,x=.ref l∧vs=[.ref b]∧H l=some (.lst xs)∧q8 X.K H b zs∧xs.length+zs.length≤sizeLine∧Q .i9 (upd H l (.lst (xs++zs)))):=by
 intro pins s σ H x vs v us Q I rx rv h
 obtain ⟨l,b,xs,zs,rfl,rfl,hH,hB,hz,q⟩:=h
 cases rx
 obtain ⟨u,rfl,ru⟩:=rv.one
 cases ru
 obtain ⟨z,its,n,r,hl,e⟩:=I.Ng hH
 obtain ⟨its2,r2,⟨o2,n2,e2,c2,UG,d2⟩,_⟩:=I.list hB
 obtain ⟨Qx,dd2,data2,sl2⟩:=o2
 simp only at c2 UG d2
 subst c2 UG d2
 have hl2:=r2.length
 have hsz:its.toArray.size+its2.toArray.size≤sizeLine:=by rw [List.size_toArray,List.size_toArray];nofun
 have UI:¬ (!its.toArray.isEmpty&&Builtin.List.listTooLong (its.toArray.size+its2.toArray.size))=true:=by
  rw [J9 hsz,Bool.and_false]
  exact Bool.false_ne_true
 refine call_meets F.slot_list_extend ⟨_,e,rfl⟩ F.entry_list_extend (F.args_list_extend_2 _ _)
  (Gf l its.toArray n b its2.toArray n2 sl2 UI (by rw [List.size_toArray];nofun) (by nofun)) ⟨e,e2,?_⟩
 refine ⟨.i9,_,I.Nf (its':=its++its2) hH e (by simp) (r.append r2) ?_,rfl,q⟩
 rw [List.length_append]
 nofun
noncomputable def Ea:D→List D→M D
 | .obj n,[y]=>λG=>match G[n]?,tN G y with
  | some (.lst xs),some ys=>if xs.length+ys.length≤sizeLine then .ok .i9 (G.set n (.lst (xs++ys))) else .stuck
  | _,_=>.stuck
 | _,_=>M.stop
theorem N1:ON X "list.extend" (Ud X EE Ea):=by
 intro pins s σ0 H x xs v us Q I rx Ue ⟨σ,τ,ρ,G,d,ds,ab,rd,JN,ok⟩
 cases d<;>try exact ok.elim
 rename_i n
 match ds,ok with
 | [],ok=>exact ok.elim
 | a::_::_,ok=>exact ok.elim
 | [y],ok=>
  obtain ⟨yv,rfl,ry⟩:=jU JN
  unfold Rep at rd
  obtain ⟨p,rfl,e1⟩:=rd
  dsimp only [Ea] at ok
  cases g:G[n]? with
  | none=>rw [g] at ok;exact ok.elim
  | some o=>
   cases g2:tN G y with
   | none=>rw [g,g2] at ok;cases o<;>exact ok.elim
   | some ys=>
    rw [g,g2] at ok
    cases o with
    | lst zs=>
     dsimp only at ok
     obtain ⟨p',vs,e3,hp,rs⟩:=ab.hp.lst g
     rw [e1] at e3;cases e3
     obtain ⟨p2,ws,rfl,s2,UJ⟩:=dm (pins:=pins) (σ0:=σ0) (s:=s) ab.hp ry (Aa g2)
     by_cases hz:zs.length+ys.length≤sizeLine
     ·rw [if_pos hz] at ok
      exact Gg pins s σ0 H _ _ v us Q I rx Ue ⟨p,p2,vs,ws,rfl,rfl,hp,s2,by rw [← rs.length,← UJ.length];exact hz,FI (xs:=zs) ab e1 hp (rs.append UJ) (λ_ _=>by unfold Rep;rfl) ok⟩
     ·rw [if_neg hz] at ok;exact ok.elim
    | _=>exact ok.elim
theorem N2 {o:Expr} {apos cpos:Pos} {m:DS→M (List D)} (ho:QE X EE o mo) (ha:QA X EE [e] m) (hb:CC o=true:=by rfl) (h:aB [e]=true:=by rfl) (hline:(apos.endLine==cpos.line)=true:=by rfl):QE X EE (.Call (.Attribute o "extend" apos) [e] [] cpos) (gk "list" Ea mo m):=by
 have h':dQ e=true∧aB []=true:=by simpa [aB] using h
 exact OS F.plainAttrs_list F.slot_list_extend F.type_list_extend N1 ho ha (n6 hb _ _) (KJ h (by simp)) hline (bR h'.1 _ _) (bY (es:=[]) rfl)
end
end
section
open PyProof.Rows
noncomputable def Rm (lo st:Int) (n:Nat):It:=⟨λi _=>i<n,λi H x H'=>H'=H∧x=.int (lo+(i:Int)*st),λi _=>n≤i⟩
theorem Eb (it:Addr) (lo c:Int) (n:Nat):Turn P w K tg (Rm lo c n) [it] it (λi h=>IsRangeIter h it (lo+(i:Nat)*c) ((n:Int) - (i:Nat)) c) where
 mem:=by simp
 obj:=λi h st b hb=>by
  have e:b=it:=by simpa using hb
  subst e
  exact ⟨_,st,λv z=>by
   have z':Data.fields _=Data.cell v:=z
   cases z'⟩
 keep:=λi h h' st k=>k it (by simp) _ st
 item:=by
  intro X hP hw hK hc i pins s σ H E I hf st hg
  subst hP hw hK
  obtain ⟨f0,f1,f2,f3,f4,f5⟩:=hf it (by simp)
  have W:=Walks.range (prog:=X.prog) (w:=X.w) (I.ok.hd hc) it lo c n
  refine nt I.os.2 <| W.item i s _ _ hg st λv h' tk hv st' kk ht=>?_
  obtain ⟨t,rfl⟩:=hv
  have I1:Inv X pins σ H {s with heap:=h',toks:=tk}:=I.turned (λb o hb e=>kk b o (by simpa using hb) e) f0 f1 f3 f4 f5
  exact ⟨_,rfl,Bq (s:={s with heap:=h',toks:=tk}) (n:="range_iterator") st' rfl rfl (by decide) ⟨.int (lo+i*c),H,I1,⟨t,rfl⟩,⟨rfl,rfl⟩,st',λb hb=>(hf b hb).1⟩⟩
 done:=by
  intro X hP hw hK hc i pins s σ H E I hf st hg
  subst hP hw hK
  obtain ⟨f0,f1,f2,f3,f4,f5⟩:=hf it (by simp)
  exact wpAny_pyNext_range_end (I.ok.hd hc) st (by have:n≤i:=hg;nofun) λh' eb=>⟨rfl,I.turned (t':=s.toks) (λb o hb e=>eb b o hb e) f0 f1 f3 f4 f5⟩
 self:=λ_ _ _ _ _ st h=>wpAny_pyIter_rangeiter st h
noncomputable def vE (lo hi c:Int):Nat:=if lo<hi then ((hi - lo - 1) / c+1).toNat else 0
noncomputable def Gh (lo c:Int) (n:Nat):View:=λ_ i=>some (if i<n then some (.int (lo+(i:Int)*c)) else none)
noncomputable def ints3:List D→Option (Int×Int×Int)
 | [.int lo,.int hi,.int c]=>some (lo,hi,c)
 | _=>none
theorem Lg {hi c:Int} (h:ints3 ds=some (lo,hi,c)):ds=[.int lo,.int hi,.int c]:=by
 unfold ints3 at h
 split at h
 ·cases h;rfl
 ·cases h
noncomputable def BN (m:DS→M (List D)):MI:=λτ=>(m τ).bind λds=>match ints3 ds with
 | some (lo,hi,c)=>λG=>if -(2^30)≤lo∧lo<2^30∧-(2^30)≤hi∧hi<2^30∧0<c∧c<2^30 then .ok (vE lo hi c+1,Gh lo c (vE lo hi c)) G else .stuck
 | none=>M.stop
section
variable {X:Cx} {EE:gA} {tg iter a b c:Expr} {pos p pc:Pos} {m:DS→M (List D)}
theorem Rn {c:Int}:JV X.K X.mg (Rm lo c n) (Gh lo c n) H ρ:=by
 intro i H' ρ' G' f hp
 unfold Gh
 by_cases h:i<n
 ·rw [if_pos h]
  refine ⟨λe=>(by cases e),λd e=>⟨h,λx H2 hy=>?_⟩⟩
  cases e
  obtain ⟨rfl,rfl⟩:=hy
  exact ⟨⟨.refl,λ_ h=>h⟩,by unfold Rep;rfl⟩
 ·rw [if_neg h]
  exact ⟨λ_=>Nat.le_of_not_lt h,λd e=>(by cases e)⟩
theorem Ro {hi c:Int} (h1:-(2^30)≤lo) (h2:lo<2^30) (h3:-(2^30)≤hi) (h4:hi<2^30) (h5:0<c) (h6:c<2^30):Builtin.Range.small lo hi c=true:=by
 unfold Builtin.Range.small
 have hs:Builtin.Range.rangeSize lo hi c=if lo<hi then (hi - lo - 1) / c+1 else 0:=by
  unfold Builtin.Range.rangeSize;rw [if_pos h5]
 rw [hs]
 have hd:0≤hi - lo - 1→(hi - lo - 1) / c≤hi - lo - 1:=λh=>Int.ediv_le_self _ h
 have hd2:0≤hi - lo - 1→0≤(hi - lo - 1) / c:=λh=>Int.ediv_nonneg h (by nofun)
 have hm:(hi - lo - 1) / c*c≤hi - lo - 1:=Int.ediv_mul_le _ (by nofun)
 simp only [Builtin.Range.rangeFitsLong,Bool.and_eq_true,Bool.or_eq_true,decide_eq_true_eq,beq_iff_eq,show c > 0 from h5,if_true]
 split<;>nofun
theorem N3 (hm:X.mg "range"=none) (BE:Gl X "range") (ha:QA X EE [a,b,c] m) (h:aB [a,b,c]=true:=by rfl):QI X EE tg (.Call (.Name "range" p) [a,b,c] [] pc) (BN m):=by
 have h':dQ a=true∧aB [b,c]=true:=by simpa [aB] using h
 intro pins s σ H R I hq
 obtain ⟨τ,ρ,G,ab,ok⟩:=hq
 dsimp only [BN,M.bind] at ok
 refine wpAny_Call_Name_kw (iy I BE hm boot_range ?_ (by decide) (by decide))
 have hA:ny X.K X.mg EE m σ H λvs H1=>∃ ρ1 G1 ds,Ab X.K X.mg σ H1 τ ρ1 G1∧fh X.K H H1 ρ ρ1∧aC X.K X.mg ρ1 H1 ds vs∧m τ G=.ok ds G1:=by
  refine ⟨τ,ρ,G,ab,?_⟩
  cases e:m τ G with
  | stuck=>rw [e] at ok;exact ok
  | dU c G'=>rw [e] at ok;exact ok
  | ok ds G'=>exact λvs H' ρ' f di r=>⟨ρ',G',ds,di,f,r,rfl⟩
 refine PyProof.Rows.callWith_type1 (gw (ha pc pins s σ H _ I hA) λus s1 yF=>?_) (bR h'.1 _ _) (bY h'.2)
 obtain ⟨vs,H1,I1,r1,ρ1,G1,ds,nB,f1,rs,em⟩:=yF
 rw [em] at ok
 dsimp only at ok
 cases q:ints3 ds with
 | none=>rw [q] at ok;exact ok.elim
 | some x=>
  obtain ⟨lo,hi,c⟩:=x
  rw [q] at ok
  dsimp only at ok
  have e:=Lg q
  subst e
  by_cases hc:-(2^30)≤lo∧lo<2^30∧-(2^30)≤hi∧hi<2^30∧0<c∧c<2^30
  ·rw [if_pos hc] at ok
   obtain ⟨h1,h2,h3,h4,h5,h6⟩:=hc
   simp only [aC,Rep] at rs
   obtain ⟨v1,w1,rfl,rfl,v2,w2,rfl,rfl,v3,w3,rfl,rfl,rfl⟩:=rs
   cases r1 with
   | cons u1 r1=>
   cases r1 with
   | cons u2 r1=>
   cases r1 with
   | cons u3 r1=>
   cases r1
   obtain ⟨t1,rfl⟩:=u1
   obtain ⟨t2,rfl⟩:=u2
   obtain ⟨t3,rfl⟩:=u3
   refine call_range_3 (by nofun) ?_ (.inl (PyProof.noPylong_small (by nofun)))
   refine wpAny_pyIter_range (s:={s1 with heap:=s1.heap.push {cls:=.type "range",data:=.fields #[.int lo t1,.int hi t2,.int c t3]},toks:=s1.toks}) (IsRange.new ..) (Ro h1 h2 h3 h4 h5 h6) ?_
   have I2:Inv X pins σ H1 {s1 with heap:=s1.heap.push {cls:=.type "range",data:=.fields #[.int lo t1,.int hi t2,.int c t3]},toks:=s1.toks}:=I1.kept λb o e=>Heap.get?_push_of_some _ e
   refine ⟨_,[_],_,Rm lo c (vE lo hi c),H1,rfl,I2.kept (t':=s1.toks) λb o e=>Heap.get?_push_of_some _ e,Eb _ lo c (vE lo hi c),?_,λb hb=>?_,ok _ H1 ρ1 f1 nB Rn⟩
   ·have e1:lo+((0:Nat):Int)*c=lo:=by simp
    have e2:((vE lo hi c:Nat):Int) - ((0:Nat):Int)=Builtin.Range.rangeSize lo hi c:=by
     unfold vE Builtin.Range.rangeSize
     rw [if_pos h5]
     split
     ·have:0≤(hi - lo - 1) / c:=Int.ediv_nonneg (by nofun) (by nofun)
      nofun
     ·simp
    show IsRangeIter _ _ (lo+((0:Nat):Int)*c) (((vE lo hi c:Nat):Int) - ((0:Nat):Int)) c
    rw [e1,e2]
    exact Heap.get?_push_size _ rfl
   ·rw [List.mem_singleton.mp hb]
    exact I2.uZ (Nat.le_refl _) (I2.hok.fresh (Nat.le_refl _))
  ·rw [if_neg hc] at ok;exact ok.elim
end
end
noncomputable def Ac:D→Option Key
 | .int i=>some (Sum.inl i)
 | .str x=>some (Sum.inr x)
 | _=>none
noncomputable def Ad (kvs:List (Key×D)) (k:Key):Option D:=(kvs.find? λkv=>decide (kv.1=k)).map (·.2)
noncomputable def vF (kvs:List (Key×D)) (k:Key) (v:D):List (Key×D):=
 if (kvs.any λkv=>decide (kv.1=k))=true then kvs.map (λkv=>if kv.1=k then (kv.1,v) else kv) else kvs++[(k,v)]
section
variable {K:PySem.W.Frag} {mg:Str→Option Value} {H:Hp} {ρ:List Addr} {G:DH}
theorem Ae (k:Key):∀ {kvs:List (Key×D)} {xs:List V},aC K mg ρ H (kvs.map (·.2)) xs →
  (Ad kvs k=none∧rR ((kvs.map (·.1)).zip xs) k=none)∨∃ d v,Ad kvs k=some d∧rR ((kvs.map (·.1)).zip xs) k=some v∧Rep K mg ρ H d v
 | [],xs,r=>.inl ⟨rfl,rfl⟩
 | p::q,xs,r=>by
  unfold aC at r
  obtain ⟨v,r',rfl,h1,h2⟩:=r
  by_cases e:p.1=k
  ·exact .inr ⟨p.2,v,by simp [Ad,e],by simp [rR,e],h1⟩
  ·have ih:=Ae k h2
   have e1:Ad (p::q) k=Ad q k:=by simp [Ad,e]
   have e2:rR (((p::q).map (·.1)).zip (v::r')) k=rR ((q.map (·.1)).zip r') k:=ve (p:=(p.1,v)) e
   rw [e1,e2];exact ih
theorem HB (k:Key):∀ {kvs:List (Key×D)} {xs:List V},kvs.length=xs.length→(((kvs.map (·.1)).zip xs).any λkv=>decide (kv.1=k))=(kvs.any λkv=>decide (kv.1=k))
 | [],xs,h=>by simp
 | p::q,[],h=>by simp at h
 | p::q,x::xs,h=>by
  have:=HB k (kvs:=q) (xs:=xs) (by simpa using h)
  simp [this]
theorem Ec (k:Key) {d:D} {v:V} (rv:Rep K mg ρ H d v):∀ {kvs:List (Key×D)} {xs:List V},aC K mg ρ H (kvs.map (·.2)) xs →
  ∃ ys,(((kvs.map (·.1)).zip xs).map λkv=>if kv.1=k then (kv.1,v) else kv)=((kvs.map λkv=>if kv.1=k then (kv.1,d) else kv).map (·.1)).zip ys∧aC K mg ρ H ((kvs.map λkv=>if kv.1=k then (kv.1,d) else kv).map (·.2)) ys
 | [],xs,r=>⟨[],by simp,by simpa using aC.nil⟩
 | p::q,xs,r=>by
  unfold aC at r
  obtain ⟨x,r',rfl,h1,h2⟩:=r
  obtain ⟨ys,e,rs⟩:=Ec k rv h2
  by_cases hk:p.1=k
  ·refine ⟨v::ys,?_,?_⟩
   ·simp only [List.map_cons,List.zip_cons_cons,if_pos hk,e]
   ·simp only [List.map_cons,if_pos hk];exact .cons rv rs
  ·refine ⟨x::ys,?_,?_⟩
   ·simp only [List.map_cons,List.zip_cons_cons,if_neg hk,e]
   ·simp only [List.map_cons,if_neg hk];exact .cons h1 rs
theorem Ed {α β:Type}:∀ {a:List α} {b:List β} (x:α) (y:β),a.length=b.length→(a++[x]).zip (b++[y])=a.zip b++[(x,y)]
 | [],[],x,y,_=>rfl
 | [],_::_,_,_,h=>by simp at h
 | _::_,[],_,_,h=>by simp at h
 | p::a,q::b,x,y,h=>by simp [Ed (a:=a) (b:=b) x y (by simpa using h)]
theorem Ef (k:Key) {d:D} {v:V} (rv:Rep K mg ρ H d v) {kvs:List (Key×D)} {xs:List V} (r:aC K mg ρ H (kvs.map (·.2)) xs) :
  ∃ ys,putK ((kvs.map (·.1)).zip xs) k v=((vF kvs k d).map (·.1)).zip ys∧aC K mg ρ H ((vF kvs k d).map (·.2)) ys:=by
 have hl:kvs.length=xs.length:=by simpa using r.length
 unfold putK vF
 rw [HB k hl]
 by_cases e:(kvs.any λkv=>decide (kv.1=k))=true
 ·rw [if_pos e,if_pos e];exact Ec k rv r
 ·rw [if_neg e,if_neg e]
  refine ⟨xs++[v],?_,?_⟩
  ·rw [List.map_append,List.map_cons,List.map_nil,Ed _ _ (by simpa using hl)]
  ·rw [List.map_append];exact r.append (.cons rv .nil)
theorem jR.dct (h:jR K mg H ρ G) (e:G[n]?=some (.dct kvs)):∃ a xs,ρ[n]?=some a∧H a=some (.dK ((kvs.map (·.1)).zip xs))∧aC K mg ρ H (kvs.map (·.2)) xs:=by
 obtain ⟨a,e1,xs,e2,r⟩:=h.ob n _ e
 exact ⟨a,xs,e1,e2,r⟩
theorem vG {w:List (Key×V)} (hp:H p=some (.dK u)) (ρ:List Addr):fh K H (upd H p (.dK w)) ρ ρ:=by
 refine ⟨λa zs h=>?_,λa q u h=>by rw [aI (kC h hp (by intro z;cases z))];exact h,⟨[],by simp⟩,λa φ h=>by rw [aI (kC h hp (by intro z;cases z))];exact h⟩
 ·rcases h with (h | ⟨q,h⟩) | h
  ·exact .inl (.inl (by rw [aI (kC h hp (by intro z;cases z))];exact h))
  ·exact .inl (.inr ⟨q,by rw [aI (kC h hp (by intro z;cases z))];exact h⟩)
  ·exact .inr h
theorem jR.O2 (h:jR K mg H ρ G) (hp:H p=none):jR K mg (upd H p (.dK [])) (ρ++[p]) (G++[.dct []]):=by
 have f:fh K H (upd H p (.dK [])) ρ (ρ++[p]):=(fX hp ρ).trans (jk ρ p)
 refine ⟨by simp [h.hl],?_,λn ob e=>?_⟩
 ·rw [List.nodup_append]
  refine ⟨h.nd,by simp,λa ha b hb=>?_⟩
  have e:b=p:=by simpa using hb
  subst e
  rintro rfl
  exact h.not_mem hp ha
 ·by_cases hn:n<G.length
  ·rw [List.getElem?_append_left hn] at e
   obtain ⟨a,e1,r'⟩:=h.ob n ob e
   exact ⟨a,f.get e1,r'.mono f λu q=>by rw [aI (eZ q hp)];exact q⟩
  ·have hl:n<(G++[DO.dct []]).length:=(List.getElem?_eq_some_iff.mp e).1
   have hn':n=G.length:=by simp at hl;nofun
   subst hn'
   rw [aY] at e
   cases e
   exact ⟨p,by rw [← h.hl,aY],[],ck,.nil⟩
theorem jR.putD {es:List (Key×D)} {ys:List V} (h:jR K mg H ρ G) (hn:ρ[n]?=some a) (ha:H a=some (.dK u)) (r:aC K mg ρ H (es.map (·.2)) ys) :
  jR K mg (upd H a (.dK ((es.map (·.1)).zip ys))) ρ (G.set n (.dct es)):=by
 have f:fh K H (upd H a (.dK ((es.map (·.1)).zip ys))) ρ ρ:=vG ha ρ
 refine ⟨by simp [h.hl],h.nd,λm ob e=>?_⟩
 by_cases hm:n=m
 ·subst hm
  rw [List.getElem?_set,if_pos rfl] at e
  split at e
  ·cases e
   exact ⟨a,hn,ys,ck,r.mono f⟩
  ·cases e
 ·rw [List.getElem?_set_ne hm] at e
  obtain ⟨b,e1,r'⟩:=h.ob m ob e
  have hb:b≠a:=by
   rintro rfl
   obtain ⟨h1,JI⟩:=List.getElem?_eq_some_iff.mp hn
   obtain ⟨h2,JJ⟩:=List.getElem?_eq_some_iff.mp e1
   exact hm ((List.getElem_inj h.nd).mp (JI.trans JJ.symm))
  exact ⟨b,e1,r'.mono f λu q=>by rw [aI hb];exact q⟩
theorem CK {k:Key} (r:Rep K mg ρ H d v) (e:Ac d=some k):v=kV k:=by
 cases d<;>simp [Ac] at e
 ·subst e;unfold Rep at r;exact r
 ·subst e;unfold Rep at r;exact r
end
section
variable {X:Cx} {EE:gA} {e f o i a:Expr} {pos apos cpos tpos:Pos} {mo me mf mv mi:DS→M D}
noncomputable def Lh:DS→M D:=λ_ G=>.ok (.obj G.length) (G++[.dct []])
theorem N4:QE X EE (.Dict [] [] pos) Lh:=PE.mono Kc λσ H Q ⟨τ,ρ,G,ab,ok⟩=>λp hp=>by
 refine ok (.ref p) _ (ρ++[p]) ((fX hp ρ).trans (jk ρ p)) ⟨ab.st.mono ((fX hp ρ).trans (jk ρ p)),ab.hp.O2 hp⟩ ?_
 unfold Rep
 exact ⟨p,rfl,by rw [← ab.hp.hl,aY]⟩
noncomputable def Eg (v d k:D):M D:=λG=>match d,Ac k with
 | .obj n,some y=>match G[n]? with
  | some (.dct kvs)=>if kvs.length<sizeLine then .ok .i9 (G.set n (.dct (vF kvs y v))) else .stuck
  | _=>.stuck
 | _,_=>.stuck
noncomputable def ya (mv mo mi:DS→M D):MS:=λτ=>fM ((mv τ).bind λv=>(mo τ).bind λo=>(mi τ).bind λi=>Eg v o i) (λ_ G=>.nx τ G) λc G=>.xn c τ G
theorem N5 (hu:X.A.units+600<cLine) (hv:QE X EE a mv) (ho:QE X EE o mo) (hi:QE X EE i mi) (h:CB a=true:=by rfl):QS X EE (.Assign [.Subscript o i tpos] a pos) (ya mv mo mi):=
 PS.mono (Nk (by nofun) ho hi hv (CD h _ _ _)) λDd σ H zz=>by
  obtain ⟨τ,ρ,G,ab,ok⟩:=zz
  refine ⟨τ,ρ,G,ab,?_⟩
  dsimp only [ya,fM,M.bind] at ok
  cases e1:mv τ G with
  | stuck=>rw [e1] at ok;exact ok
  | dU c G'=>rw [e1] at ok;exact λH' ρ' f di=>ok σ H' ρ' f di
  | ok v G1=>
   rw [e1] at ok
   intro vv H1 ρ1 f1 nB r1
   refine ⟨τ,ρ1,G1,nB,?_⟩
   dsimp only at ok
   cases e2:mo τ G1 with
   | stuck=>rw [e2] at ok;exact ok
   | dU c G'=>rw [e2] at ok;exact λH' ρ' f di=>ok σ H' ρ' (f1.trans f) di
   | ok ov G2=>
    rw [e2] at ok
    intro vo H2 ρ2 f2 dW r2
    refine ⟨τ,ρ2,G2,dW,?_⟩
    dsimp only at ok
    cases e3:mi τ G2 with
    | stuck=>rw [e3] at ok;exact ok
    | dU c G'=>rw [e3] at ok;exact λH' ρ' f di=>ok σ H' ρ' ((f1.trans f2).trans f) di
    | ok iv G3=>
     rw [e3] at ok
     intro vi H3 ρ3 f3 yZ r3
     dsimp only [Eg] at ok
     cases ov<;>try exact ok.elim
     rename_i n
     cases ek:Ac iv with
     | none=>rw [ek] at ok;exact ok.elim
     | some y=>
      rw [ek] at ok
      have r2':=r2.mono f3
      unfold Rep at r2'
      obtain ⟨p,rfl,e4⟩:=r2'
      dsimp only at ok
      cases g:G3[n]? with
      | none=>rw [g] at ok;exact ok.elim
      | some ob=>
       cases ob with
       | lst _=>rw [g] at ok;exact ok.elim
       | dct kvs=>
        rw [g] at ok
        dsimp only at ok
        obtain ⟨p',xs,e5,hp,rs⟩:=yZ.hp.dct g
        rw [e4] at e5;cases e5
        by_cases hl:kvs.length<sizeLine
        ·rw [if_pos hl] at ok
         have ev:=CK r3 ek
         subst ev
         have rv:=r1.mono (f2.trans f3)
         obtain ⟨ys,ey,ry⟩:=Ef y rv rs
         refine ⟨p,_,rfl,FD.k hp ?_,?_⟩
         ·have:=rs.length
          simp at this
          simp [← this];exact hl
         ·rw [ey]
          refine ok σ _ ρ3 (((f1.trans f2).trans f3).trans (vG hp ρ3)) ⟨yZ.st.mono (vG hp ρ3),yZ.hp.putD e4 hp ry⟩
        ·rw [if_neg hl] at ok;exact ok.elim
       | _=>rw [g] at ok;exact ok.elim
end
section
open PyProof.Rows
theorem Eh {prog:Program} {w:World} {E:Value→Shared→Prop} {Q:List Value→Shared→Prop} (hh:A.handled=none) (hit:s.heap.IsRevIter it l ((items.size:Int) - 1)) (hl:s.heap.IsList l items) (hne:l≠it) (hz:items.size≤sizeLine)
  (hQ:∀ s' acc,(∀ b o,b≠it→s.heap.get? b=some o→s'.heap.get? b=some o)→s'.gens=s.gens→s'.drawn=s.drawn→s'.os=s.os→ItemsOf (λi v=>items[items.size - 1 - i]?=some v) acc items.size→Q acc.toList s') :
  wpAny (model prog w) A (collect (.ref it)) Q E s:=by
 have Yh:l<s.heap.objs.size:=by obtain ⟨o,e,_⟩:=hl;exact Heap.lt_size e
 have lt2:it<s.heap.objs.size:=by obtain ⟨o,e,_⟩:=hit;exact Heap.lt_size e
 unfold collect
 refine wpAny_bind (wpAny_runValue (codeAny_builtin F.entry_proto_collect ?_))
 rw [Around.under_plainId F.plain_proto_collect _]
 show wpAny _ A.in1 (newList [] >>= λl=>again (.builtin "list.__iadd__" ⟨[l,.ref it],[]⟩)) _ _ s
 refine wpAny_bind (wpAny_newObj_type ?_)
 refine wpAny_pure ⟨plainId_quiet F.plain_list_iadd _,codeAny_builtin F.entry_list_iadd ?_⟩
 rw [Around.under_plainId F.plain_list_iadd _]
 show wpAny _ A.in1 (Builtin.List.listExtendWith (.ref s.heap.objs.size) (.ref it) (.ref s.heap.objs.size)) _ _ _
 have up:∀ b o,s.heap.get? b=some o→(s.heap.push {cls:=.type "list",data:=.seq ([]:List Value).toArray}).get? b=some o:=λb o e=>Heap.get?_push_of_some _ e
 have fin':∀ (s':Shared) (acc':Array Value) (c':Nat),Moved [s.heap.objs.size,it] (λa b=>b=a) {s with heap:=s.heap.push {cls:=.type "list",data:=.seq ([]:List Value).toArray}} s'→s'.heap.get? s.heap.objs.size=some {cls:=.type "list",data:=.seq acc' c'} →
   ItemsOf (λi v=>items[items.size - 1 - i]?=some v) acc' items.size→wpAny (model prog w) A (match Value.ref s.heap.objs.size with
   | Value.ref a=>do
    match (← load a).data with
     | Data.seq xs _=>pure xs.toList
     | _=>unsupported "internal:collect"
   | _=>unsupported "internal:collect") Q E s':=λs' acc' c' hm hS' hacc=>by
  show wpAny _ A (load s.heap.objs.size >>= _) _ _ s'
  refine wpAny_bind (wpAny_load hS' ?_)
  refine wpAny_pure (hQ s' acc' (λb o hb e=>hm.heap b o ?_ (up b o e)) hm.gens hm.drawn hm.os hacc)
  simp [hb,Nat.ne_of_lt (Heap.lt_size e)]
 refine wpAny_mono (zT (A:=A) (R:=λr s'=>r=.ok (.ret (.ref s.heap.objs.size))∧∃ acc' c',Moved [s.heap.objs.size,it] (λa b=>b=a) {s with heap:=s.heap.push {cls:=.type "list",data:=.seq ([]:List Value).toArray}} s'∧s'.heap.get? s.heap.objs.size=some {cls:=.type "list",data:=.seq acc' c'} ∧
   ItemsOf (λi v=>items[items.size - 1 - i]?=some v) acc' items.size) (l:=l) (items:=items) (show A.handled=none from hh) ?_ ?_ hne hz s.heap.objs.size (.ref s.heap.objs.size) 0 ?_ (Nat.ne_of_gt Yh) ?_) (λfin s' h=>?_) (λe s' h=>?_)
 ·obtain ⟨o,e,r⟩:=hit
  exact ⟨o,up _ _ e,r⟩
 ·obtain ⟨o,e,r⟩:=hl
  exact ⟨o,up _ _ e,r⟩
 ·exact Heap.get?_push_size _ rfl
 ·intro s' acc' c' hm hS' hacc
  exact ⟨rfl,acc',c',hm,hS',hacc⟩
 ·cases fin with
  | done f=>
   obtain ⟨e,acc',c',h1,h2,h3⟩:=h
   cases e
   exact fin' s' acc' c' h1 h2 h3
  | again c'=>exact ⟨h.1,codeAny_mono h.2 λr s'' hr=>by obtain ⟨rfl,acc',c',h1,h2,h3⟩:=hr;exact fin' s'' acc' c' h1 h2 h3⟩
 ·exact absurd h.1 (by simp)
theorem yJ (it l:Addr) (items:Array Value) (hne:l≠it) (hz:items.size≤sizeLine) :
  Meets (Builtin.«tuple.__new__» ⟨[.type "tuple",.ref it],[]⟩)
   (λA R s=>A.handled=none∧s.heap.IsRevIter it l ((items.size:Int) - 1)∧s.heap.IsList l items∧∀ (s':Shared) (acc:Array Value),(∀ b o,b≠it→s.heap.get? b=some o→s'.heap.get? b=some o)→s'.gens=s.gens→s'.drawn=s.drawn→s'.os=s.os→ItemsOf (λi v=>items[items.size - 1 - i]?=some v) acc items.size →
    R (.ok (.ret (.ref s'.heap.objs.size))) {s' with heap:=s'.heap.push {cls:=.type "tuple",data:=.seq acc}}):=
 .of_wp λprog w A R s h=>by
  obtain ⟨hh,hit,hl,h⟩:=h
  have hsub:=sub_tuple_self
  have Z7:=init_tuple_lookup
  have hmh:=madeHere_tuple
  have hT:s.TypeIs (.ref it) "list_reverseiterator":=by
   obtain ⟨o,e,c,_⟩:=hit
   exact ⟨o,e,c⟩
  have hh1:A.in1.handled=none:=hh
  wp_walk using wpAny_typeOf hT,Eh hh1 hit hl hne hz
  intro s' acc hk hg hd hos hacc
  show wpAny _ _ (Builtin.Tuple.tupleExact acc.toList.toArray >>= λv=>ret v) _ _ _
  unfold Builtin.Tuple.tupleExact
  refine wpAny_bind (wpAny_newObj_type ?_ (show acc.toList.toArray.size≤sizeLine by simp only [Array.toArray_toList];rw [hacc.1];exact hz))
  refine wpAny_pure ⟨_,rfl,?_⟩
  have e:acc.toList.toArray=acc:=by simp
  rw [e]
  exact h s' acc hk hg hd hos hacc
theorem Af {prog:Program} {w:World} {E:Value→Shared→Prop} (hh:A.handled=none) (hit:s.heap.IsRevIter it l ((items.size:Int) - 1)) (hl:s.heap.IsList l items) (hne:l≠it) (hz:items.size≤sizeLine)
  (hQ:∀ (h':Heap) (tk:Nat) (acc:Array Value),(∀ b o,b≠it→s.heap.get? b=some o→h'.get? b=some o)→ItemsOf (λi v=>items[items.size - 1 - i]?=some v) acc items.size→Q (.ref h'.objs.size) {s with heap:=h'.push {cls:=.type "tuple",data:=.seq acc},toks:=tk}) :
  wpAny (model prog w) A (call (.type "tuple") [.ref it]) Q E s:=by
 refine callType_new F.called_tuple (by decide) (F.typeCall_tuple_1 _) (F.newCall_tuple_1 _) (λobj=>F.args_object_init_2 obj _) F.entry_tuple_new
  (yJ it l items hne hz) ⟨hh,hit,hl,λs' acc hk hg hd hos hacc=>⟨⟨_,Heap.get?_push_size _ rfl,rfl⟩,?_⟩⟩
 obtain ⟨h',g',d',tk',os'⟩:=s'
 have e1:g'=s.gens:=hg
 have e2:d'=s.drawn:=hd
 have e3:os'=s.os:=hos
 subst e1 e2 e3
 exact hQ h' tk' acc hk hacc
noncomputable def Ei:List D→M D
 | [d]=>λG=>match bw G d with
  | some (.lst xs)=>gx xs.reverse G
  | _=>.stuck
 | _=>M.stop
section
variable {X:Cx} {EE:gA} {e:Expr} {m:DS→M (List D)} {p p2 pos pos2:Pos}
theorem Ej (hc:X.calm=true) (hm1:X.mg "tuple"=none) (Uy:Gl X "tuple") (hm2:X.mg "reversed"=none) (Uz:Gl X "reversed") (ha:QA X EE [e] m) (h:aB [e]=true:=by rfl) :
  QE X EE (.Call (.Name "tuple" p) [.Call (.Name "reversed" p2) [e] [] pos2] [] pos) (au Ei m):=by
 have h':dQ e=true∧aB []=true:=by simpa [aB] using h
 intro pins s σ H Q I hq
 have hq':=pZ (k:=λ_ ds=>Ei ds) hq
 refine wpAny_Call_Name_kw (iy I Uy hm1 boot_tuple ?_ (by decide) (by decide))
 refine PyProof.Rows.callWith_type1 ?_ (bR rfl _ _) (bY (es:=[]) rfl)
 rw [bR (e:=.Call (.Name "reversed" p2) [e] [] pos2) rfl]
 show wpAny _ _ (spliced ((false,eval _ X.env)::backTo pos (starEach [] X.env))) _ _ s
 refine Calls.spliced_cons ?_
 refine wpAny_Call_Name_kw (iy I Uz hm2 vn ?_ (by decide) (by decide))
 refine PyProof.Rows.callWith_type1 (gw (ha pos2 pins s σ H _ I hq') λus s1 yF=>?_) (bR h'.1 _ _) (bY (es:=[]) rfl)
 obtain ⟨vs,H1,I1,r1,τ,ρ,G,ds,ab,rs,ok⟩:=yF
 match ds,ok with
 | [],ok=>exact ok.elim
 | _::_::_,ok=>exact ok.elim
 | [d],ok=>
  obtain ⟨x,rfl,rx⟩:=jU rs
  obtain ⟨u,rfl,ru⟩:=vals1 r1
  dsimp only [Ei] at ok
  cases q:bw G d with
  | none=>rw [q] at ok;exact ok.elim
  | some sk=>
   rw [q] at ok
   cases sk with
   | tup zs=>exact ok.elim
   | str z=>exact ok.elim
   | lst zs=>
    dsimp only at ok
    obtain ⟨l,ys,rfl,sq,rv⟩:=dm (pins:=pins) (σ0:=σ) (s:=s1) ab.hp rx q
    cases ru
    obtain ⟨its,vv,pl,hz⟩:=I1.list sq
    have hlen:=vv.length
    have hl:=pl.isList
    have hlt:l<s1.heap.objs.size:=by obtain ⟨_,e,_⟩:=hl;exact Heap.lt_size e
    refine call_reversed_list hl ?_
    refine Calls.spliced_nil ?_
    refine nt I1.os.2 <| Af (l:=l) (items:=its.toArray) (show X.A.handled=none from I.ok.hd hc) ⟨_,Heap.get?_push_size _ rfl,rfl,rfl⟩ (hl.push _) (Nat.ne_of_lt hlt) (by simp;nofun) λh' tk acc' kp hacc=>λht=>?_
    have ea:=BJ hacc
    subst ea
    obtain ⟨hlr,hn⟩:=zA ab rv.rev ok
    have I2:Inv X pins σ H1 {s1 with heap:=h',toks:=tk}:=I1.kept (t':=tk) (λb o e=>kp b o (Nat.ne_of_lt (Heap.lt_size e)) (Heap.get?_push_of_some _ e))
    have I3:Inv X pins σ (upd H1 h'.objs.size (.tup ys.reverse)) {s1 with heap:=h'.push {cls:=.type "tuple",data:=.seq its.reverse.toArray},toks:=tk}:=
     I2.laid (t':=tk) (λb o e=>Heap.get?_push_of_some _ e) (Nat.le_refl _) (show ja X.prog X.w _ _ _ (.tup ys.reverse) from ⟨hlr,its.reverse,Vals.rev vv,IsTup.new _ _⟩)
    exact ⟨.ref h'.objs.size,_,I3,rfl,hn _ (I2.hok.fresh (Nat.le_refl _))⟩
end
end
section
variable {prog:Program} {w:World} {A:Around} {E:Value→Shared→Prop} {s:Shared}
theorem rm {t:Addr} {x:Value} (hit:s.heap.IsTupleIter it t i)
  (ht:s.heap.IsTuple t items) (hx:items[i]?=some x)
  (hQ:∀ h',h'.IsTupleIter it t (i+1)→Heap.SameBut it s.heap h'→Q x {s with heap:=h'}) :
  wpAny (model prog w) A (Builtin.SmallTypes.nextOf (.ref it)) Q E s:=by
 obtain ⟨o,ho,hc,hd⟩:=id hit
 obtain ⟨ol,OU,_,nl,hdl⟩:=ht
 unfold Builtin.SmallTypes.nextOf
 refine wpAny_bind (wpAny_callSpecial?_slot (name:=Str.ofString "__next__") hit.typeIs F.slot_tuple_iterator_next
  (wpAny_call_entry F.slot_tuple_iterator_next hit.typeIs F.entry_tuple_iterator_next ?_ (F.args_tuple_iterator_next_1 _)))
 show wpAny _ _ (field (.ref it) 0 >>= _) _ _ s
 refine wpAny_bind (wpAny_field ho hd (x:=.ref t) rfl ?_)
 show wpAny _ _ (if (Value.ref t==Value.none)=true then _ else _) _ _ s
 rw [if_neg (show ¬ ((Value.ref t==Value.none)=true) from Bool.false_ne_true)]
 show wpAny _ _ (field (.ref it) 1 >>= _) _ _ s
 refine wpAny_bind (wpAny_field ho hd (x:=.int i 0) rfl ?_)
 show wpAny _ _ (seqItems? (.ref t) >>= _) _ _ s
 refine wpAny_bind (wpAny_seqItems OU hdl ?_)
 simp only [Int.toNat_natCast,hx]
 refine wpAny_bind (wpAny_setField ho hd (by simp) (wpAny_pure ⟨x,rfl,wpAny_pure (hQ _ ?_ (Heap.SameBut.update ..))⟩))
 exact ⟨_,Heap.get?_update_self _ ho (Obj.isFreed_of_fields (Obj.data_mapFields hd _)),(Obj.cls_mapFields ..).trans hc,by
  rw [Obj.data_mapFields hd];simp [rawInt]⟩
theorem se {t:Addr} {Q:Value→Shared→Prop} (hh:A.handled=none)
  (hit:s.heap.IsTupleIter it t i) (ht:s.heap.IsTuple t items) (hx:items[i]?=none)
  (hE:∀ h' e,Heap.ExtBut it s.heap h'→(∃ o,h'.get? e=some o∧o.cls=.type "StopIteration")→E (.ref e) {s with heap:=h'}) :
  wpAny (model prog w) A (Builtin.SmallTypes.nextOf (.ref it)) Q E s:=by
 obtain ⟨o,ho,hc,hd⟩:=id hit
 obtain ⟨ol,OU,_,nl,hdl⟩:=ht
 unfold Builtin.SmallTypes.nextOf
 refine wpAny_bind (wpAny_callSpecial?_slot (name:=Str.ofString "__next__") hit.typeIs F.slot_tuple_iterator_next
  (wpAny_call_entry F.slot_tuple_iterator_next hit.typeIs F.entry_tuple_iterator_next ?_ (F.args_tuple_iterator_next_1 _)))
 show wpAny _ _ (field (.ref it) 0 >>= _) _ _ s
 refine wpAny_bind (wpAny_field ho hd (x:=.ref t) rfl ?_)
 show wpAny _ _ (if (Value.ref t==Value.none)=true then _ else _) _ _ s
 rw [if_neg (show ¬ ((Value.ref t==Value.none)=true) from Bool.false_ne_true)]
 show wpAny _ _ (field (.ref it) 1 >>= _) _ _ s
 refine wpAny_bind (wpAny_field ho hd (x:=.int i 0) rfl ?_)
 show wpAny _ _ (seqItems? (.ref t) >>= _) _ _ s
 refine wpAny_bind (wpAny_seqItems OU hdl ?_)
 simp only [Int.toNat_natCast,hx]
 refine wpAny_bind (wpAny_rule (wpAny_bind (wpAny_setField ho hd (by simp) ?_)))
 show wpAny _ _ (newExc (.type "StopIteration") [] >>= _) _ _ _
 refine wpAny_bind ?_
 simp only [newExc,newTuple]
 refine wpAny_bind (wpAny_newObj_type ?_ (by size_fits))
 refine wpAny_bind (m:=firstArgMember _ _) (wpAny_of_eq (a:=Value.none) (by first | rfl | (simp only [firstArgMember];rfl)) ?_)
 refine wpAny_newObj_type ?_ (by size_fits)
 simp only [raiseNew]
 refine wpAny_bind (wpAny_handled ?_)
 first | rw [show A.in1.handled=none from hh] | rw [hh]
 refine wpAny_bind (wpAny_pure (wpAny_throw ?_))
 exact hE _ _ (((Heap.SameBut.update ..).extBut.push _).push _) ⟨_,Heap.get?_push_size _ rfl,rfl⟩
end
theorem BO (hh:A.handled=none) (it l:Addr) (hne:l≠it) (items:Array Value) :
  Draws prog w A it [it,l] items.size (λi v=>items[i]?=some v) (λi h=>h.IsTupleIter it l i∧h.IsTuple l items) where
 live:=λ_ _ st=>let ⟨o,ho,_⟩:=st.1;⟨o,ho⟩
 frame:=λ_ _ _ st hk=>⟨st.1.at λo e=>hk it (by simp) o e,st.2.at λo e=>hk l (by simp) o e⟩
 item:=λi s Q E hi st hQ=>by
  refine rm st.1 st.2 (x:=items[i]) (by simp [hi]) λh' N6 hs'=>?_
  exact hQ _ h' s.toks (by simp [hi]) ⟨N6,st.2.extBut hs'.extBut hne⟩ hs'
 done:=λs Q E st hE=>se hh st.1 st.2 (by simp) hE
theorem Ek (l:Addr) (items:Array Value) (n:Nat) (dct:Option Addr) (sl:Array (Option Value)) :
  Meets (Builtin.«enumerate.__new__» ⟨[.type "enumerate",.ref l],[]⟩) (λ_ R s=>s.heap.get? l=some {cls:=.type "tuple",dict:=dct,data:=.seq items n,slots:=sl} ∧
   R (.ok (.ret (.ref (s.heap.push {cls:=.type "tuple_iterator",data:=.fields #[.ref l,.int 0 0]}).objs.size)))
    {s with heap:=(s.heap.push {cls:=.type "tuple_iterator",data:=.fields #[.ref l,.int 0 0]}).push {cls:=.type "enumerate",data:=.fields #[.none,.bool false,.ref s.heap.objs.size,rawInt 0,.none,.none]}}):=
 .of_wp λprog w A R s h=>by
  obtain ⟨hp,g,d,tk,os⟩:=s;obtain ⟨hl,h⟩:=h
  have hsub:=sub_enumerate
  have hL:Heap.IsTuple (Shared.heap ⟨hp,g,d,tk,os⟩) l items:=⟨_,hl,rfl,n,rfl⟩
  wp_walk using AutoSeq1.wpAny_loadPart' hl
  refine wpAny_stack_any λst=>wpAny_pure ?_
  split
  ·rename_i c _ _ _ _ _
   cases (c==Value.type "enumerate")
   ·wp_walk using AutoSeq1.wpAny_loadPart' hl,wpAny_pyIter_tuple hL
    exact ⟨_,rfl,h⟩
   ·wp_walk using AutoSeq1.wpAny_loadPart' hl,wpAny_pyIter_tuple hL
    exact ⟨_,rfl,h⟩
  ·wp_walk using AutoSeq1.wpAny_loadPart' hl,wpAny_pyIter_tuple hL
   exact ⟨_,rfl,h⟩
theorem AX {prog:Program} {w:World} {A:Around} {E:Value→Shared→Prop} (hL:s.heap.IsTuple l items)
  (h:∀ h',IsEnum h' (s.heap.objs.size+1) s.heap.objs.size 0 .none→h'.IsTupleIter s.heap.objs.size l 0→h'.objs.size=s.heap.objs.size+2 →
   (∀ b o,s.heap.get? b=some o→h'.get? b=some o)→Q (.ref (s.heap.objs.size+1)) {s with heap:=h'}) :
  wpAny (model prog w) A (call (.type "enumerate") [.ref l]) Q E s:=by
 obtain ⟨⟨c,dct,dt,sl⟩,hl,hc,n,hd⟩:=hL
 replace hc:c=.type "tuple":=hc
 replace hd:dt=.seq items n:=hd
 subst hc hd
 refine callType_new F.called_enumerate (by decide) (F.typeCall_enumerate_1 _) (F.newCall_enumerate_1 _) (λobj=>F.args_object_init_2 obj _) F.entry_enumerate_new
  (Ek l items n dct sl) ⟨hl,?_⟩
 have hz:(s.heap.push {cls:=.type "tuple_iterator",data:=.fields #[.ref l,.int 0 0]}).objs.size=s.heap.objs.size+1:=Heap.size_push ..
 show _∧_
 rw [hz]
 have he:IsEnum ((s.heap.push {cls:=.type "tuple_iterator",data:=.fields #[.ref l,.int 0 0]}).push
   {cls:=.type "enumerate",data:=.fields #[.none,.bool false,.ref s.heap.objs.size,rawInt 0,.none,.none]}) (s.heap.objs.size+1) s.heap.objs.size 0 .none:=by
  have:=Heap.get?_push_size (s.heap.push {cls:=.type "tuple_iterator",data:=.fields #[.ref l,.int 0 0]})
   (o:={cls:=.type "enumerate",data:=.fields #[.none,.bool false,.ref s.heap.objs.size,rawInt 0,.none,.none]}) rfl
  rw [hz] at this;exact this
 refine ⟨⟨_,he,rfl⟩,h _ he ⟨_,Heap.get?_push_of_some _ (Heap.get?_push_size _ rfl),rfl,rfl⟩ (by rw [Heap.size_push,hz]) λb o x=>Heap.get?_push_of_some _ (Heap.get?_push_of_some _ x)⟩
noncomputable def Rp (K:PySem.W.Frag) (a:Addr):It:=
 ⟨λi H=>∃ xs x,rG K H a xs∧xs[i]?=some x,λi H y H'=>∃ x p,(∀ xs,rG K H a xs→xs[i]?=some x)∧H p=none∧y=.ref p∧H'=upd H p (.tup [.int i,x]),λi H=>∃ xs,rG K H a xs∧xs.length=i⟩
theorem Gi {k:Nat} {pt:Pos} (l e it:Addr) (hne:e≠it) (hle:l≠e) (hli:l≠it):Turn P w K (.Tuple es k pt) (Rp K l) [e,it] e (λi h=>∃ old,IsEnum h e it i old∧h.IsTupleIter it l i) where
 mem:=by simp
 obj:=λi h ⟨old,st1,st2⟩ b hb=>by
  rcases List.mem_cons.mp hb with rfl | hb
  ·exact ⟨_,st1,λv z=>by cases z⟩
  ·have e:b=it:=by simpa using hb
   subst e
   obtain ⟨o,e,c,d⟩:=st2
   exact ⟨o,e,λv z=>by rw [d] at z;cases z⟩
 keep:=λi h h' ⟨old,st1,st2⟩ kp=>⟨old,kp e (by simp) _ st1,st2.at λo q=>kp it (by simp) o q⟩
 item:=by
  intro X hP hw hK hc i pins s σ H E I hf ⟨old,st1,st2⟩ hg
  subst hP hw hK
  obtain ⟨xs,x,hq,hx⟩:=hg
  obtain ⟨its,rv,p,hz⟩:=I.tuple hq
  obtain ⟨u,hu,ru⟩:=rv.get hx
  have UA:e<s.heap.objs.size:=Heap.lt_size st1
  have K1:it<s.heap.objs.size:=by obtain ⟨o,q,_⟩:=st2;exact Heap.lt_size q
  have hlen:i<its.length:=(List.getElem?_eq_some_iff.mp hu).1
  refine wpAny_pyNext_enum_itemD (BO (show X.A.in1.handled=none from I.ok.hd hc) it l hli its.toArray) st1 ⟨st2,p⟩ (by simpa using hlen) hne (by simp [hne,Ne.symm hle]) λx' h' tk hx' hO hst htup hsz kp=>?_
  have Yk:x'=u:=by
   have e:its.toArray[i]?=some x':=hx'
   rw [List.getElem?_toArray,hu] at e
   exact (Option.some.inj e).symm
  subst Yk
  have hL:=hst.1
  refine ⟨.ref s.heap.objs.size,rfl,?_⟩
  have I1:Inv X pins σ (upd H s.heap.objs.size (.tup [.int i,x])) {s with heap:=s.heap.push {cls:=.type "tuple",data:=.seq #[.int i tk,x']}}:=
   I.laid (t':=s.toks) (λb o q=>Heap.get?_push_of_some _ q) (Nat.le_refl _) ⟨by simp [sizeLine_eq],[.int i tk,x'],.cons ⟨_,rfl⟩ (.cons ru .nil),PyProof.Rows.IsTup.new _ _⟩
  have hfree:=I.hok.fresh (Nat.le_refl s.heap.objs.size)
  have hf1:∀ b∈[e,it],pq X pins (upd H s.heap.objs.size (.tup [.int i,x])) b:=λb hb=>by
   have hlt:b≠s.heap.objs.size:=by
    rcases List.mem_cons.mp hb with rfl | hb
    ·exact Nat.ne_of_lt UA
    ·rw [List.mem_singleton.mp hb];exact Nat.ne_of_lt K1
   exact ⟨by rw [aI hlt];exact (hf b hb).1,(hf b hb).2⟩
  unfold letOwnedTupleGo
  refine wpAny_bind (wpAny_load hO ?_)
  dsimp only
  rw [if_pos (by simp)]
  refine wpAny_bind (wpAny_rule ?_)
  unfold updateField
  refine wpAny_bind (wpAny_load hO ?_)
  dsimp only
  rw [if_pos (by simp)]
  refine wpAny_update hO ?_
  have tT:∀ b,b≠e→(h'.update e (Obj.mapFields λx=>x.setIfInBounds 0 Value.none)).get? b=h'.get? b:=λb hb=>Heap.get?_update_other _ _ (Ne.symm hb)
  refine ⟨.ref s.heap.objs.size,_,oh (t':=tk+1) (s:={s with heap:=s.heap.push {cls:=.type "tuple",data:=.seq #[.int i tk,x']}}) (ch:=[e,it]) I1 (λb o hb q=>?_) hf1,rfl,⟨x,s.heap.objs.size,λys hy=>by rw [I.wU hy hq];exact hx,hfree,rfl,rfl⟩,⟨x',?_,?_⟩,λb hb=>(hf1 b hb).1⟩
  ·have hb1:b≠e:=λz=>hb (by simp [z])
   have hb2:b≠it:=λz=>hb (by simp [z])
   show (h'.update e _).get? b=some o
   rw [tT b hb1]
   by_cases K2:b=s.heap.objs.size
   ·subst K2
    have:=Heap.get?_push_size (o:={cls:=.type "tuple",data:=.seq #[.int (i:Int) tk,x']}) s.heap rfl
    rw [this] at q;cases q
    exact htup
   ·have q':(s.heap.push {cls:=.type "tuple",data:=.seq #[.int (i:Int) tk,x']}).get? b=some o:=q
    refine kp b o hb1 hb2 ?_
    rwa [Heap.get?_push_ne _ _ _ K2] at q'
  ·show (h'.update e _).get? e=_
   rw [Heap.get?_update_self _ hO rfl]
   rfl
  ·exact hL.at λo q=>(tT it (Ne.symm hne)).trans q
 done:=by
  intro X hP hw hK hc i pins s σ H E I hf ⟨old,st1,st2⟩ hg
  subst hP hw hK
  obtain ⟨xs,hq,hx⟩:=hg
  obtain ⟨its,rv,p,hz⟩:=I.tuple hq
  obtain ⟨f0,f1,f2,f3,f4,f5⟩:=hf it (by simp)
  have hl:=rv.length
  have hi:i=its.toArray.size:=by simp;nofun
  subst hi
  exact wpAny_pyNext_enum_endD (BO (show X.A.in1.handled=none from I.ok.hd hc) it l hli its.toArray) st1 ⟨st2,p⟩ λh' eb=>⟨rfl,I.turned (t':=s.toks) (λb o hb e=>eb b o hb e) f0 f1 f3 f4 f5⟩
 self:=λ_ _ _ _ _ ⟨old,st1,_⟩ h=>wpAny_pyIter_enum st1 h
noncomputable def uG (xs:List D):View:=λ_ i=>if i≤xs.length then some (xs[i]?.map λx=>.tup [.int i,x]) else none
noncomputable def sf (m:DS→M (List D)):MI:=λτ=>(m τ).bind λds=>match ds with
 | [d]=>λG=>match bw G d with
  | some (.lst xs)=>.ok (xs.length+1,tX d) G
  | some (.tup xs)=>.ok (xs.length+1,uG xs) G
  | _=>.stuck
 | _=>M.stop
theorem Li (sq0:rG K H0 l Ga) (UE:aC K mg ρ0 H0 zs Ga):JV K mg (Rp K l) (uG zs) H0 ρ0:=by
 intro i H ρ G f hp
 have sq:=f.tup _ _ sq0
 have rs:=UE.mono f
 unfold uG
 constructor
 ·intro e
  by_cases hi:i≤zs.length
  ·rw [if_pos hi] at e
   cases qi:zs[i]? with
   | some z=>rw [qi] at e;cases e
   | none=>
    have:=List.getElem?_eq_none_iff.mp qi
    exact ⟨Ga,sq,by rw [← rs.length];nofun⟩
  ·rw [if_neg hi] at e;cases e
 ·intro dd e
  by_cases hi:i≤zs.length
  ·rw [if_pos hi] at e
   cases qi:zs[i]? with
   | none=>rw [qi] at e;cases e
   | some z=>
    rw [qi] at e;cases e
    obtain ⟨v,ev,rv⟩:=rs.get qi
    refine ⟨⟨Ga,v,sq,ev⟩,λy H' hy=>?_⟩
    obtain ⟨v',p,ev',hp0,rfl,rfl⟩:=hy
    have ev':=ev' Ga sq
    rw [ev] at ev';cases ev'
    refine ⟨CA.new hp0,?_⟩
    unfold Rep
    refine ⟨p,[.int i,v],rfl,.inl (.inl ck),.cons (by unfold Rep;rfl) (.cons (Rep.mono (fX hp0 ρ) _ _ rv) .nil)⟩
  ·rw [if_neg hi] at e;cases e
section
variable {X:Cx} {EE:gA} {a:Expr} {p pc:Pos} {m:DS→M (List D)}
theorem Ag {k:Nat} {pt:Pos} (hm:X.mg "enumerate"=none) (BE:Gl X "enumerate") (ha:QA X EE [a] m) (h:aB [a]=true:=by rfl):QI X EE (.Tuple es k pt) (.Call (.Name "enumerate" p) [a] [] pc) (sf m):=by
 have h':dQ a=true∧aB []=true:=by simpa [aB] using h
 intro pins s σ H R I hq
 obtain ⟨τ,ρ,G,ab,ok⟩:=hq
 by_cases hT:∃ d G1 zs,m τ G=.ok [d] G1∧bw G1 d=some (.tup zs)
 ·obtain ⟨d,G1,zs,em,q⟩:=hT
  dsimp only [sf,M.bind] at ok
  rw [em] at ok
  dsimp only at ok
  rw [q] at ok
  dsimp only at ok
  refine wpAny_Call_Name_kw (iy I BE hm xw ?_ (by decide) (by decide))
  have hA:ny X.K X.mg EE m σ H λvs H1=>∃ ρ1,Ab X.K X.mg σ H1 τ ρ1 G1∧fh X.K H H1 ρ ρ1∧aC X.K X.mg ρ1 H1 [d] vs:=by
   refine ⟨τ,ρ,G,ab,?_⟩
   rw [em]
   exact λvs H' ρ' f di r=>⟨ρ',di,f,r⟩
  refine PyProof.Rows.callWith_type1 (gw (ha pc pins s σ H _ I hA) λus s1 yF=>?_) (bR h'.1 _ _) (bY (es:=[]) rfl)
  obtain ⟨vs,H1,I1,r1,ρ1,nB,f1,rs⟩:=yF
  obtain ⟨x,rfl,rx⟩:=jU rs
  obtain ⟨u,rfl,ru⟩:=vals1 r1
  obtain ⟨l,ys,rfl,sq,rv⟩:=iV rx q
  cases ru
  obtain ⟨its,vv,pl,hz⟩:=I1.tuple sq
  have hlt:l<s1.heap.objs.size:=by obtain ⟨_,e,_⟩:=pl;exact Heap.lt_size e
  refine AX pl λh2 hE hL hsz kp=>?_
  refine wpAny_pyIter_enum hE ?_
  have I2:Inv X pins σ H1 {s1 with heap:=h2}:=I1.kept (t':=s1.toks) kp
  refine ⟨s1.heap.objs.size+1,[s1.heap.objs.size+1,s1.heap.objs.size],_,Rp X.K l,H1,rfl,I2,Gi l _ _ (Nat.succ_ne_self _) (Nat.ne_of_lt (Nat.lt_succ_of_lt hlt)) (Nat.ne_of_lt hlt),⟨_,hE,hL⟩,λb hb=>?_,ok _ H1 ρ1 f1 nB (Li sq rv)⟩
  rcases List.mem_cons.mp hb with rfl | hb
  ·exact I1.uZ (Nat.le_succ _) (I1.hok.fresh (Nat.le_succ _))
  ·rw [List.mem_singleton.mp hb]
   exact I1.uZ (Nat.le_refl _) (I1.hok.fresh (Nat.le_refl _))
 ·refine NU hm BE ha h pins s σ H R I ⟨τ,ρ,G,ab,?_⟩
  have e:Hh m τ G=sf m τ G:=by
   dsimp only [sf,Hh,M.bind]
   cases em:m τ G with
   | stuck=>rfl
   | dU c G'=>rfl
   | ok ds G'=>
    dsimp only
    match ds with
    | []=>rfl
    | _::_::_=>rfl
    | [d]=>
     dsimp only
     cases q:bw G' d with
     | none=>rfl
     | some sk=>
      cases sk with
      | lst _=>rfl
      | str _=>rfl
      | tup zs=>exact absurd ⟨d,G',zs,em,q⟩ hT
  rw [e];exact ok
end
noncomputable abbrev DN (s:Str):Prop:=(s==("__debug__":Str))=false∧(s==("__classdict__":Str))=false
noncomputable abbrev LK (f:Scope) (s:Str) (k:NameKind):Prop:=f.names.lookup s=some k
noncomputable def Out.fw (r:Out D) (G:DH):Out D:=match r with
 | .ok (.obj n) G'=>match G'[n]? with
  | some (.lst ds)=>if n=G.length∧G'.length=n+1∧AW (G'.take G.length) G=true∧aX ds=true then .ok (.con ds) G else .stuck
  | _=>.stuck
 | r=>r
noncomputable def Out.fz (r:Out D):Out D:=match r with
 | .ok (.obj n) G'=>match G'[n]? with
  | some (.lst ds)=>.ok (.con ds) (G'.set n .dead)
  | _=>.stuck
 | r=>r
section
variable {τ:DS} {G G' A B R:DH} {e ma mb mc:DS→M D} {n i:Nat} {d:D} {c:XD} {ml:DS→M (List D)} {ds xs ys:List D} {m:List D→M D}
theorem dS:eFn e τ G=(e τ G).fw G:=Eq.trans rfl rfl
theorem O3:Lb e τ G=(e τ G).fz:=Eq.trans rfl rfl
theorem Lj:(Out.ok (.tup xs) G').fw G=.ok (.tup xs) G':=Eq.trans rfl rfl
theorem Ll {z:Str}:(Out.ok (.str z) G').fw G=.ok (.str z) G':=Eq.trans rfl rfl
theorem xy (h:aX ds=true):(Out.ok (.obj G.length) (G++[.lst ds])).fw G=.ok (.con ds) G:=by
 simp [Out.fw,h,BL]
theorem fZ (hz:ds.length≤sizeLine) (h:aX ds=true):(bU ds G).fw G=.ok (.con ds) G:=by
 rw [bU,if_pos hz,xy h]
theorem HC:(Out.ok (.obj A.length) (A++.lst ds::B)).fz=.ok (.con ds) (A++.dead::B):=by
 simp [Out.fz,K3]
theorem mZ (h:m ds G=.ok d (G++R)) (hc:d.closed=true):jn m ds G=.ok d G:=by
 simp [jn,h,hc,BL]
theorem dw (h:m ds G=.ok d G) (hc:d.closed=true):jn m ds G=.ok d G:=mZ (R:=[]) (by simpa using h) hc
theorem Lm:Le ml τ G=(ml τ G).bd λds=>match ds with
 | [d]=>λG=>match bw G d with
  | some (.lst xs)=>.ok (xs.length+1,Gd d xs.length) G
  | _=>.stuck
 | _=>M.stop:=aF
theorem El:sf ml τ G=(ml τ G).bd λds=>match ds with
 | [d]=>λG=>match bw G d with
  | some (.lst xs)=>.ok (xs.length+1,tX d) G
  | some (.tup xs)=>.ok (xs.length+1,uG xs) G
  | _=>.stuck
 | _=>M.stop:=aF
theorem HE:BN ml τ G=(ml τ G).bd λds=>match ints3 ds with
 | some (lo,hi,c)=>λG=>if -(2^30)≤lo∧lo<2^30∧-(2^30)≤hi∧hi<2^30∧0<c∧c<2^30 then .ok (vE lo hi c+1,Gh lo c (vE lo hi c)) G else .stuck
 | none=>M.stop:=aF
theorem HF:Lh τ G=.ok (.obj G.length) (G++[.dct []]):=Eq.trans rfl rfl
theorem HG:ya ma mb mc τ G=((ma τ G).bd λv=>(mb τ).bind λo=>(mc τ).bind λi=>Eg v o i).xp τ:=by
 unfold ya fM Out.xp
 rw [aF]
 cases ((ma τ G).bd λv=>(mb τ).bind λo=>(mc τ).bind λi=>Eg v o i)<;>rfl
theorem pI {g:tK} {body:MS} {vw:View} (hv:∀ G i,i≤xs.length→vw G i=some xs[i]?):∀ (fuel i:Nat) (τ:DS) (G:DH),i≤xs.length→xs.length<fuel+i→tM g body vw fuel i τ G=fE g body (xs.drop i) τ G
 | 0,i,τ,G,h1,h2=>by nofun
 | fuel+1,i,τ,G,h1,h2=>by
  rw [tM]
  dsimp only
  rw [hv G i h1]
  by_cases hi:i<xs.length
  ·rw [List.getElem?_eq_getElem hi,List.drop_eq_getElem_cons hi,fE]
   dsimp only
   cases g xs[i] τ with
   | none=>rfl
   | some τ1=>
    dsimp only
    cases body τ1 G with
    | nx τ2 G2=>exact pI hv fuel (i+1) τ2 G2 (by nofun) (by nofun)
    | ct τ2 G2=>exact pI hv fuel (i+1) τ2 G2 (by nofun) (by nofun)
    | _=>rfl
  ·rw [List.getElem?_eq_none (by nofun),List.drop_eq_nil_of_le (by nofun),fE]
theorem BP {gO:D→Option (List D)} {ks:List Bool} {tt:DS→M Bool} {te:DS→M D} {vw:View} (hv:∀ G i,i≤xs.length→vw G i=some xs[i]?):∀ (fuel i:Nat) (τ:DS) (G:DH),i≤xs.length→xs.length<fuel+i→tW gO ks tt te n vw fuel i τ G=gB gO ks tt te n (xs.drop i) τ G
 | 0,i,τ,G,h1,h2=>by nofun
 | fuel+1,i,τ,G,h1,h2=>by
  rw [tW]
  rw [hv G i h1]
  by_cases hi:i<xs.length
  ·rw [List.getElem?_eq_getElem hi,List.drop_eq_getElem_cons hi,gB]
   dsimp only
   cases gW gO ks tt te n xs[i] τ G with
   | ok u G2=>exact BP hv fuel (i+1) τ G2 (by nofun) (by nofun)
   | _=>rfl
  ·rw [List.getElem?_eq_none (by nofun),List.drop_eq_nil_of_le (by nofun),gB]
theorem HH {body:MS}:tM g body (Gd (.con xs) xs.length) (xs.length+1) 0 τ G=fE g body xs.reverse τ G:=by
 have:=pI (g:=g) (body:=body) (xs:=xs.reverse) (vw:=Gd (.con xs) xs.length) (λG i h=>by
  simp only [List.length_reverse] at h
  simp only [Gd,bw,if_true]
  by_cases hi:i=xs.length
  ·rw [if_pos hi,List.getElem?_eq_none (by simp;nofun)]
  ·rw [if_neg hi,if_pos (by nofun),List.getElem?_reverse (by nofun)]) (xs.length+1) 0 τ G (by simp) (by simp)
 simpa using this
theorem Ln {c:Int} {k:Nat}:tW gO ks tt te n (Gh lo c k) (k+1) 0 τ G=gB gO ks tt te n ((List.range k).map λ(i:Nat)=>.int (lo+(i:Int)*c)) τ G:=by
 have:=BP (n:=n) (gO:=gO) (ks:=ks) (tt:=tt) (te:=te) (xs:=(List.range k).map λ(i:Nat)=>D.int (lo+(i:Int)*c)) (vw:=Gh lo c k) (λG i h=>by
  simp only [List.length_map,List.length_range] at h
  simp only [Gh,List.getElem?_map]
  by_cases hi:i<k
  ·rw [if_pos hi,List.getElem?_range hi];rfl
  ·rw [if_neg hi,List.getElem?_eq_none (by simp;nofun)];rfl) (k+1) 0 τ G (by simp) (by simp)
 simpa using this
theorem Gj {x v:D} (h1:gO x=some os) (h2:te (os.map some++mask ks τ) (G++[.lst acc])=.ok v (G++[.lst acc])) (hz:acc.length<sizeLine) :
  gW gO ks lN te G.length x τ (G++[.lst acc])=.ok () (G++[.lst (acc++[v])]):=by
 simp only [gW,h1,lN,M.ret,h2,Dp,if_pos hz,K3]
theorem tw {gO:D→Option (List D)} {ks:List Bool} {te:DS→M D} {own:D→List D} {f:D→D}:∀ (xs acc:List D),acc.length+xs.length≤1000000→(∀ x∈xs,gO x=some (own x))→(∀ x∈xs,∀ acc,te ((own x).map some++mask ks τ) (G++[.lst acc])=.ok (f x) (G++[.lst acc])) →
  gB gO ks lN te G.length xs τ (G++[.lst acc])=.ok (.obj G.length) (G++[.lst (acc++xs.map f)])
 | [],acc,_,_,_=>by simp [gB]
 | x::xs,acc,hl,h1,h2=>by
  have hz:acc.length<sizeLine:=Nat.lt_of_lt_of_le (by simp at hl;nofun) (lz (n:=1000001) (by nofun))
  rw [gB,Gj (h1 x (by simp)) (h2 x (by simp) acc) hz]
  dsimp only
  rw [tw xs (acc++[f x]) (by simp at hl ⊢;nofun) (λy hy=>h1 y (by simp [hy])) (λy hy=>h2 y (by simp [hy]))]
  simp
end
theorem Ah:∀ {xs:List D},(∀ x∈xs,x.closed=true)→aX xs=true
 | [],_=>rfl
 | x::xs,h=>by rw [aX,h x (by simp),Ah λy hy=>h y (by simp [hy])];rfl
theorem bz {α:Type} {f:α→D} {l:List α} (h:∀ x,(f x).closed=true):aX (l.map f)=true:=Ah (by
 intro x hx
 obtain ⟨a,_,rfl⟩:=List.mem_map.mp hx
 exact h a)
theorem gy {xs:List D}:(D.con xs).closed=aX xs:=by rw [D.closed]
theorem fj {i:Int}:(D.int i).closed=true:=by rw [D.closed]<;>simp
theorem cy {i:Str}:(D.str i).closed=true:=by rw [D.closed]<;>simp
theorem aP:aX []=true:=rfl
theorem aJ {x:D} {xs:List D}:aX (x::xs)=(x.closed&&aX xs):=by rw [aX]
theorem lP:∀ {xs ys:List D},aX (xs++ys)=(aX xs&&aX ys)
 | [],ys=>by simp [aX]
 | x::xs,ys=>by simp [aX,lP (xs:=xs),Bool.and_assoc]
mutual
noncomputable def D.pd:D→PyData
 | .bl b=>.bool b
 | .int i=>.int i
 | .str x=>.str x
 | .tup ds=>.tuple (E9 ds)
 | .con ds=>.list (E9 ds)
 | _=>.none
noncomputable def E9:List D→List PyData
 | []=>[]
 | d::r=>d.pd::E9 r
end
mutual
noncomputable def D.plain:D→Bool
 | .tup ds=>gX ds
 | .con ds=>gX ds
 | .str x=>PyData.strOk x
 | .obj _=>false
 | .DK _ _=>false
 | .pY _ _=>false
 | .fn _=>false
 | _=>true
noncomputable def gX:List D→Bool
 | []=>true
 | d::r=>d.plain&&gX r
end
mutual
noncomputable def D.dp:D→Nat
 | .tup ds=>Em ds+1
 | .con ds=>Em ds+1
 | _=>0
noncomputable def Em:List D→Nat
 | []=>0
 | d::r=>max d.dp (Em r)
end
mutual
theorem Lo (G:DH):∀ (d:D) (n:Nat),d.plain=true→d.dp<n→rO G n d=some d.pd
 | .i9,n+1,_,_=>by simp [rO,D.pd]
 | .bl b,n+1,_,_=>by simp [rO,D.pd]
 | .int b,n+1,_,_=>by simp [rO,D.pd]
 | .str b,n+1,_,_=>by simp [rO,D.pd]
 | .tup ds,n+1,h,hn=>by
  rw [rO,CL G ds n (by simpa [D.plain] using h) (by rw [D.dp] at hn;nofun),D.pd];rfl
 | .con ds,n+1,h,hn=>by
  rw [rO,CL G ds n (by simpa [D.plain] using h) (by rw [D.dp] at hn;nofun),D.pd];rfl
 | .obj k,n+1,h,_=>by simp [D.plain] at h
 | .DK _ _,n+1,h,_=>by simp [D.plain] at h
 | .pY _ _,n+1,h,_=>by simp [D.plain] at h
 | .fn _,n+1,h,_=>by simp [D.plain] at h
theorem CL (G:DH):∀ (ds:List D) (n:Nat),gX ds=true→Em ds<n→gH (rO G n) ds=some (E9 ds)
 | [],n,_,_=>by simp [gH,E9]
 | d::ds,n,h,hn=>by
  have h':d.plain=true∧gX ds=true:=by simpa [gX] using h
  rw [Em] at hn
  rw [gH,Lo G d n h'.1 (by nofun),CL G ds n h'.2 (by nofun),E9]
end
mutual
theorem lay_of:∀ (d:D),d.plain=true→d.pd.canLay0=true
 | .i9,_=>by simp [D.pd,PyData.canLay0]
 | .bl b,_=>by simp [D.pd,PyData.canLay0]
 | .int b,_=>by simp [D.pd,PyData.canLay0]
 | .str b,h=>by simpa [D.pd,PyData.canLay0,D.plain] using h
 | .tup ds,h=>by
  rw [D.pd,PyData.canLay0];exact CM ds (by simpa [D.plain] using h)
 | .con ds,h=>by
  rw [D.pd,PyData.canLay0];exact CM ds (by simpa [D.plain] using h)
 | .obj k,h=>by simp [D.plain] at h
 | .DK _ _,h=>by simp [D.plain] at h
 | .pY _ _,h=>by simp [D.plain] at h
 | .fn _,h=>by simp [D.plain] at h
theorem CM:∀ (ds:List D),gX ds=true→PyData.canLayAll0 (E9 ds)=true
 | [],_=>by simp [E9,PyData.canLayAll0]
 | d::ds,h=>by
  have h':d.plain=true∧gX ds=true:=by simpa [gX] using h
  rw [E9,PyData.canLayAll0,lay_of d h'.1,CM ds h'.2];rfl
end
mutual
theorem O4:∀ (d:D),d.pd.depth≤d.dp
 | .i9=>by simp [D.pd,PyData.depth]
 | .bl b=>by simp [D.pd,PyData.depth]
 | .int b=>by simp [D.pd,PyData.depth]
 | .str b=>by simp [D.pd,PyData.depth]
 | .tup ds=>by rw [D.pd,PyData.depth,D.dp];exact Nat.succ_le_succ (Gk ds)
 | .con ds=>by rw [D.pd,PyData.depth,D.dp];exact Nat.succ_le_succ (Gk ds)
 | .obj k=>by simp [D.pd,PyData.depth]
 | .DK _ _=>by simp [D.pd,PyData.depth]
 | .pY _ _=>by simp [D.pd,PyData.depth]
 | .fn _=>by simp [D.pd,PyData.depth]
theorem Gk:∀ (ds:List D),PyData.depthAll (E9 ds)≤Em ds
 | []=>by simp [E9,PyData.depthAll]
 | d::ds=>by
  rw [E9,PyData.depthAll,Em]
  have:=O4 d
  have:=Gk ds
  nofun
end
mutual
theorem En:∀ (d:D),PyData.eqv d.pd d.pd=true
 | .i9=>by simp [D.pd,PyData.eqv]
 | .bl b=>by simp [D.pd,PyData.eqv]
 | .int b=>by simp [D.pd,PyData.eqv]
 | .str b=>by simp [D.pd,PyData.eqv]
 | .tup ds=>by rw [D.pd,PyData.eqv];exact xA ds
 | .con ds=>by rw [D.pd,PyData.eqv];exact xA ds
 | .obj k=>by simp [D.pd,PyData.eqv]
 | .DK _ _=>by simp [D.pd,PyData.eqv]
 | .pY _ _=>by simp [D.pd,PyData.eqv]
 | .fn _=>by simp [D.pd,PyData.eqv]
theorem xA:∀ (ds:List D),PyData.eqvAll (E9 ds) (E9 ds)=true
 | []=>by simp [E9,PyData.eqvAll]
 | d::ds=>by rw [E9,PyData.eqvAll,En d,xA ds];rfl
end
theorem Eo (g:Bool) (d:D) (G:DH) (h:d.plain=true) (hn:d.dp≤580):mq g d d G=.ok (.bl (g ^^ true)) G:=by
 have hd:=O4 d
 unfold mq IM
 rw [Lo G d deep h (by show d.dp<600;nofun)]
 dsimp only
 rw [if_pos (by rw [lay_of d h];simp;nofun),En]
noncomputable def pU (tp:Bool) (h:Heap) (it l:Addr) (i:Nat):Prop:=if tp=true then h.IsTupleIter it l i else h.IsListIter it l i
noncomputable def uW (tp:Bool) (h:Heap) (l:Addr) (xs:Array Value):Prop:=if tp=true then h.IsTuple l xs else h.IsList l xs
theorem pU.at (x:pU tp h it l i) (k:∀ o,h.get? it=some o→h'.get? it=some o):pU tp h' it l i:=by
 cases tp
 ·exact Heap.IsListIter.at (show h.IsListIter it l i from x) k
 ·exact Heap.IsTupleIter.at (show h.IsTupleIter it l i from x) k
theorem uW.at (x:uW tp h l xs) (k:∀ o,h.get? l=some o→h'.get? l=some o):uW tp h' l xs:=by
 cases tp
 ·obtain ⟨o,e,r⟩:=(show h.IsList l xs from x)
  exact (⟨o,k o e,r⟩:h'.IsList l xs)
 ·exact Heap.IsTuple.at (show h.IsTuple l xs from x) k
theorem pU.get (x:pU tp h it l i):∃ o,h.get? it=some o∧∀ v,o.data≠.cell v:=by
 cases tp
 ·obtain ⟨o,e,c,d⟩:=(show h.IsListIter it l i from x)
  exact ⟨o,e,λv q=>by rw [d] at q;cases q⟩
 ·obtain ⟨o,e,c,d⟩:=(show h.IsTupleIter it l i from x)
  exact ⟨o,e,λv q=>by rw [d] at q;cases q⟩
section
variable {prog:Program} {w:World} {A:Around} {E:Value→Shared→Prop} {s:Shared}
theorem nF {x:Value} (hit:pU tp s.heap it l i)
  (ht:uW tp s.heap l items) (hx:items[i]?=some x)
  (hQ:∀ h',pU tp h' it l (i+1)→Heap.SameBut it s.heap h'→Q x {s with heap:=h'}) :
  wpAny (model prog w) A (Builtin.SmallTypes.nextOf (.ref it)) Q E s:=by
 cases tp
 ·exact wpAny_nextOf_list_item (show s.heap.IsListIter it l i from hit) (show s.heap.IsList l items from ht) hx hQ
 ·exact rm (show s.heap.IsTupleIter it l i from hit) (show s.heap.IsTuple l items from ht) hx hQ
theorem Ji {TI TO:Addr} {k:Nat} {a x y:Value} (D:ZipApart z TI TO i1 i2 l1 l2) (hz:IsZip s.heap z TI TO Value.none) (hTI:IsPair s.heap TI (.ref i1) (.ref i2)) (hTO:IsPair s.heap TO a b)
  (h1:pU t1 s.heap i1 l1 k) (h2:pU t2 s.heap i2 l2 k) (p1:uW t1 s.heap l1 xs) (p2:uW t2 s.heap l2 ys) (hx:xs[k]?=some x) (hy:ys[k]?=some y)
  (hQ:∀ h',IsZip h' z TI TO (rawInt s.heap.objs.size)→IsPair h' TO x y→pU t1 h' i1 l1 (k+1)→pU t2 h' i2 l2 (k+1)→IsPair h' s.heap.objs.size x y→h'.objs.size=s.heap.objs.size+1 →
   (∀ c o,c≠z→c≠TO→c≠i1→c≠i2→s.heap.get? c=some o→h'.get? c=some o)→Q (.ref s.heap.objs.size) {s with heap:=h'}) :
  wpAny (model prog w) A (Builtin.«zip.__next__» {pos:=[Value.ref z]}) (λfin s'=>∃ v,fin=Fin.done (Flow.ret v)∧Q v s') E s:=by
 unfold «Builtin».«zip.__next__»
 refine wpAny_bind (wpAny_pure ?_)
 dsimp only
 refine wpAny_bind (wpAny_field hz rfl (x:=.bool false) rfl ?_)
 refine wpAny_bind (wpAny_field hz rfl (x:=.ref TI) rfl ?_)
 refine wpAny_bind (wpAny_seqItems hTI rfl ?_)
 dsimp only
 rw [if_neg (by simp)]
 refine wpAny_bind ?_
 unfold Builtin.SmallTypes.ownedTupleIsFree
 refine wpAny_bind (wpAny_field hz rfl (x:=.none) rfl ?_)
 dsimp only
 refine wpAny_pure ?_
 rw [if_pos rfl]
 refine wpAny_bind (wpAny_rule ?_)
 refine wpAny_bind (wpAny_field hz rfl (x:=.ref TO) rfl ?_)
 dsimp only
 refine wpAny_bind (wpAny_setField_rec hz (by simp) λMJ z1 s1=>?_)
 have k1:∀ c o,c≠z→s.heap.get? c=some o→MJ.get? c=some o:=λc o hc q=>(s1.2 c hc).trans q
 refine wpAny_bind ?_
 rw [show [Value.ref i1,Value.ref i2].zipIdx=[(.ref i1,0),(.ref i2,1)] from rfl,List.forIn_cons]
 refine wpAny_bind ?_
 dsimp only
 refine wpAny_bind (wpAny_onRaise ?_)
 refine wpAny_bind (nF (h1.at λo q=>k1 _ _ D.i1z q) (p1.at λo q=>k1 _ _ D.l1z q) hx λh2' m1 s2=>wpAny_pure ?_)
 have k2:∀ c o,c≠z→c≠i1→s.heap.get? c=some o→h2'.get? c=some o:=λc o hc hd q=>(s2.2 c hd).trans (k1 c o hc q)
 dsimp only
 have UK:IsPair h2' TO a b:=k2 _ _ D.TOz D.TOi1 hTO
 refine wpAny_bind (wpAny_seqItems UK rfl ?_)
 dsimp only
 refine wpAny_bind (wpAny_updateSeq_pair UK λh3' e3 s3=>?_)
 refine wpAny_bind (wpAny_letGo (wpAny_pure ?_))
 have k3:∀ c o,c≠z→c≠i1→c≠TO→s.heap.get? c=some o→h3'.get? c=some o:=λc o hc hd he q=>(s3.2 c he).trans (k2 c o hc hd q)
 have TO3:IsPair h3' TO x b:=e3
 dsimp only
 rw [List.forIn_cons]
 refine wpAny_bind ?_
 dsimp only
 refine wpAny_bind (wpAny_onRaise ?_)
 refine wpAny_bind (nF (h2.at λo q=>k3 _ _ D.i2z D.i12.symm D.TOi2.symm q) (p2.at λo q=>k3 _ _ D.l2z D.l2i1 D.l2TO q) hy λZ8 m2 s4=>wpAny_pure ?_)
 dsimp only
 have Z9:IsPair Z8 TO x b:=(s4.2 _ D.TOi2).trans TO3
 refine wpAny_bind (wpAny_seqItems Z9 rfl ?_)
 dsimp only
 refine wpAny_bind (wpAny_updateSeq_pair Z9 λRq e5 s5=>?_)
 refine wpAny_bind (wpAny_letGo (wpAny_pure ?_))
 have k5:∀ c o,c≠z→c≠i1→c≠TO→c≠i2→s.heap.get? c=some o→Rq.get? c=some o:=λc o hc hd he hf q=>(s5.2 c he).trans ((s4.2 c hf).trans (k3 c o hc hd he q))
 have TO5:IsPair Rq TO x y:=e5
 dsimp only
 rw [List.forIn_nil]
 refine wpAny_pure ?_
 dsimp only
 refine wpAny_bind (wpAny_seqItems TO5 rfl ?_)
 dsimp only
 refine wpAny_bind (wpAny_newTuple ?_)
 refine wpAny_bind ?_
 unfold Builtin.SmallTypes.ownedTupleHandOut
 dsimp only
 have hsz:Rq.objs.size=s.heap.objs.size:=by
  have a1:=s1.1;have a2:=s2.1;have a3:=s3.1;have a4:=s4.1;have a5:=s5.1
  dsimp only at a2 a3 a4 a5
  nofun
 have z5:=(s5.2 z D.TOz.symm).trans ((s4.2 z D.i2z.symm).trans ((s3.2 z D.TOz.symm).trans ((s2.2 z D.i1z.symm).trans z1)))
 have zn:z≠s.heap.objs.size:=Nat.ne_of_lt (Heap.lt_size hz)
 rw [hsz]
 refine wpAny_bind (wpAny_setField_rec (Heap.get?_push_of_some _ z5) (by simp) λh6' z6 s6=>?_)
 refine wpAny_setField_rec z6 (by simp) λYl z7 s7=>?_
 refine wpAny_pure ⟨_,rfl,?_⟩
 have k7:∀ c,c≠z→Yl.get? c=(Rq.push {cls:=.type "tuple",data:=.seq #[x,y]}).get? c:=λc hc=>(s7.2 c hc).trans (s6.2 c hc)
 have k8:∀ c o,c≠z→Rq.get? c=some o→Yl.get? c=some o:=λc o hc q=>(k7 c hc).trans (Heap.get?_push_of_some _ q)
 refine hQ Yl z7 (k8 _ _ D.TOz TO5) (m1.at λo q=>?_) (m2.at λo q=>?_) ?_ ?_ (λc o c1 c2 c3 c4 q=>k8 c o c1 (k5 c o c1 c3 c2 c4 q))
 ·exact k8 _ _ D.i1z ((s5.2 _ D.TOi1.symm).trans ((s4.2 _ D.i12).trans ((s3.2 _ D.TOi1.symm).trans q)))
 ·exact k8 _ _ D.i2z ((s5.2 _ D.TOi2.symm).trans q)
 ·refine (k7 _ zn.symm).trans ?_
  rw [← hsz];exact Heap.get?_push_size _ rfl
 ·have a6:=s6.1;have a7:=s7.1
  have a8:=Heap.size_push Rq {cls:=.type "tuple",data:=.seq #[x,y]}
  dsimp only at a6 a7
  nofun
end
section
variable {prog:Program} {w:World} {A:Around} {E:Value→Shared→Prop} {s:Shared}
theorem xB {Q:Value→Shared→Prop} (hh:A.handled=none) (hit:pU tp s.heap it l i)
  (ht:uW tp s.heap l items) (hx:items[i]?=none)
  (hE:∀ h' e,Heap.ExtBut it s.heap h'→(∃ o,h'.get? e=some o∧o.cls=.type "StopIteration")→E (.ref e) {s with heap:=h'}) :
  wpAny (model prog w) A (Builtin.SmallTypes.nextOf (.ref it)) Q E s:=by
 cases tp
 ·exact wpAny_nextOf_list_end hh (show s.heap.IsListIter it l i from hit) (show s.heap.IsList l items from ht) hx hE
 ·exact se hh (show s.heap.IsTupleIter it l i from hit) (show s.heap.IsTuple l items from ht) hx hE
theorem Lp {t1 t2:Bool} {TI TO:Addr} {k:Nat} {a:Value} {xs ys:Array Value} {Q:PySem.Fin→Shared→Prop} (hh:A.handled=none) (D:ZipApart z TI TO i1 i2 l1 l2) (hz:IsZip s.heap z TI TO Value.none) (hTI:IsPair s.heap TI (.ref i1) (.ref i2)) (hTO:IsPair s.heap TO a b)
  (h1:pU t1 s.heap i1 l1 k) (h2:pU t2 s.heap i2 l2 k) (p1:uW t1 s.heap l1 xs) (p2:uW t2 s.heap l2 ys) (hx:xs[k]?=none∨ys[k]?=none)
  (hE:∀ h' e,(∀ c o,c≠z→c≠TO→c≠i1→c≠i2→s.heap.get? c=some o→h'.get? c=some o)→(∃ o,h'.get? e=some o∧o.cls=.type "StopIteration")→E (.ref e) {s with heap:=h'}) :
  wpAny (model prog w) A (Builtin.«zip.__next__» {pos:=[Value.ref z]}) Q E s:=by
 unfold «Builtin».«zip.__next__»
 refine wpAny_bind (wpAny_pure ?_)
 dsimp only
 refine wpAny_bind (wpAny_field hz rfl (x:=.bool false) rfl ?_)
 refine wpAny_bind (wpAny_field hz rfl (x:=.ref TI) rfl ?_)
 refine wpAny_bind (wpAny_seqItems hTI rfl ?_)
 dsimp only
 rw [if_neg (by simp)]
 refine wpAny_bind ?_
 unfold Builtin.SmallTypes.ownedTupleIsFree
 refine wpAny_bind (wpAny_field hz rfl (x:=.none) rfl ?_)
 dsimp only
 refine wpAny_pure ?_
 rw [if_pos rfl]
 refine wpAny_bind (wpAny_rule ?_)
 refine wpAny_bind (wpAny_field hz rfl (x:=.ref TO) rfl ?_)
 dsimp only
 refine wpAny_bind (wpAny_setField_rec hz (by simp) λMJ z1 s1=>?_)
 have k1:∀ c o,c≠z→s.heap.get? c=some o→MJ.get? c=some o:=λc o hc q=>(s1.2 c hc).trans q
 refine wpAny_bind ?_
 rw [show [Value.ref i1,Value.ref i2].zipIdx=[(.ref i1,0),(.ref i2,1)] from rfl,List.forIn_cons]
 refine wpAny_bind ?_
 dsimp only
 refine wpAny_bind (wpAny_onRaise ?_)
 cases WI:xs[k]? with
 | none=>
  refine wpAny_bind (xB hh (h1.at λo q=>k1 _ _ D.i1z q) (p1.at λo q=>k1 _ _ D.l1z q) WI λh2' e s2 he=>?_)
  obtain ⟨oe,ge,ce⟩:=he
  have z2:=s2 _ _ D.i1z.symm z1
  have Ym:e≠z:=by
   rintro rfl
   rw [z2] at ge;cases ge;exact absurd (show Value.type "zip"=Value.type "StopIteration" from ce) (by decide)
  refine wpAny_setField_rec z2 (by simp) λh3' z3 s3=>?_
  exact hE _ _ (λc o c1 c2 c3 c4 q=>(s3.2 c c1).trans (s2 _ _ c3 (k1 c o c1 q))) ⟨oe,(s3.2 e Ym).trans ge,ce⟩
 | some x=>
 refine wpAny_bind (nF (h1.at λo q=>k1 _ _ D.i1z q) (p1.at λo q=>k1 _ _ D.l1z q) WI λh2' m1 s2=>wpAny_pure ?_)
 have hy:ys[k]?=none:=by
  rcases hx with hx | hx
  ·rw [WI] at hx;cases hx
  ·exact hx
 have k2:∀ c o,c≠z→c≠i1→s.heap.get? c=some o→h2'.get? c=some o:=λc o hc hd q=>(s2.2 c hd).trans (k1 c o hc q)
 dsimp only
 have UK:IsPair h2' TO a b:=k2 _ _ D.TOz D.TOi1 hTO
 refine wpAny_bind (wpAny_seqItems UK rfl ?_)
 dsimp only
 refine wpAny_bind (wpAny_updateSeq_pair UK λh3' e3 s3=>?_)
 refine wpAny_bind (wpAny_letGo (wpAny_pure ?_))
 have k3:∀ c o,c≠z→c≠i1→c≠TO→s.heap.get? c=some o→h3'.get? c=some o:=λc o hc hd he q=>(s3.2 c he).trans (k2 c o hc hd q)
 dsimp only
 rw [List.forIn_cons]
 refine wpAny_bind ?_
 dsimp only
 refine wpAny_bind (wpAny_onRaise ?_)
 refine wpAny_bind (xB hh (h2.at λo q=>k3 _ _ D.i2z D.i12.symm D.TOi2.symm q) (p2.at λo q=>k3 _ _ D.l2z D.l2i1 D.l2TO q) hy λZ8 e s4 he=>?_)
 obtain ⟨oe,ge,ce⟩:=he
 have z4:=s4 _ _ D.i2z.symm ((s3.2 z D.TOz.symm).trans ((s2.2 z D.i1z.symm).trans z1))
 have Ym:e≠z:=by
  rintro rfl
  rw [z4] at ge;cases ge;exact absurd (show Value.type "zip"=Value.type "StopIteration" from ce) (by decide)
 refine wpAny_setField_rec z4 (by simp) λRq z5 s5=>?_
 exact hE _ _ (λc o c1 c2 c3 c4 q=>(s5.2 c c1).trans (s4 _ _ c4 (k3 c o c1 c3 c2 q))) ⟨oe,(s5.2 e Ym).trans ge,ce⟩
end
section
variable {prog:Program} {w:World} {A:Around} {E:Value→Shared→Prop} {s:Shared}
theorem tY {TI TO:Addr} {k:Nat} {a x y:Value} {Q:Option Value→Shared→Prop} (D:ZipApart z TI TO i1 i2 l1 l2) (hz:IsZip s.heap z TI TO Value.none) (hTI:IsPair s.heap TI (.ref i1) (.ref i2)) (hTO:IsPair s.heap TO a b)
  (h1:pU t1 s.heap i1 l1 k) (h2:pU t2 s.heap i2 l2 k) (p1:uW t1 s.heap l1 xs) (p2:uW t2 s.heap l2 ys) (hx:xs[k]?=some x) (hy:ys[k]?=some y)
  (hQ:∀ h',IsZip h' z TI TO (rawInt s.heap.objs.size)→IsPair h' TO x y→pU t1 h' i1 l1 (k+1)→pU t2 h' i2 l2 (k+1)→IsPair h' s.heap.objs.size x y→h'.objs.size=s.heap.objs.size+1 →
   (∀ c o,c≠z→c≠TO→c≠i1→c≠i2→s.heap.get? c=some o→h'.get? c=some o)→Q (some (.ref s.heap.objs.size)) {s with heap:=h'}) :
  wpAny (model prog w) A (pyNext (.ref z)) Q E s:=by
 have ht:s.TypeIs (.ref z) "zip":=⟨_,hz,rfl⟩
 unfold pyNext
 refine wpAny_bind (wpAny_attempt (wpAny_callSpecial?_slot (name:=Str.ofString "__next__") ht F.slot_zip_next (wpAny_call_entry F.slot_zip_next ht F.entry_zip_next ?_ (F.args_zip_next_1 _))))
 exact Ji D hz hTI hTO h1 h2 p1 p2 hx hy λh' a1 a2 a3 a4 a5 a6 a7=>wpAny_pure (hQ h' a1 a2 a3 a4 a5 a6 a7)
theorem vH {TI TO:Addr} {k:Nat} {a:Value} {Q:Option Value→Shared→Prop} (hh:A.handled=none) (D:ZipApart z TI TO i1 i2 l1 l2) (hz:IsZip s.heap z TI TO Value.none) (hTI:IsPair s.heap TI (.ref i1) (.ref i2)) (hTO:IsPair s.heap TO a b)
  (h1:pU t1 s.heap i1 l1 k) (h2:pU t2 s.heap i2 l2 k) (p1:uW t1 s.heap l1 xs) (p2:uW t2 s.heap l2 ys) (hx:xs[k]?=none∨ys[k]?=none)
  (hQ:∀ h',(∀ c o,c≠z→c≠TO→c≠i1→c≠i2→s.heap.get? c=some o→h'.get? c=some o)→Q none {s with heap:=h'}) :
  wpAny (model prog w) A (pyNext (.ref z)) Q E s:=by
 have ht:s.TypeIs (.ref z) "zip":=⟨_,hz,rfl⟩
 unfold pyNext
 refine wpAny_bind (wpAny_attempt (wpAny_callSpecial?_slot (name:=Str.ofString "__next__") ht F.slot_zip_next (wpAny_call_entry F.slot_zip_next ht F.entry_zip_next ?_ (F.args_zip_next_1 _))))
 refine Lp hh D hz hTI hTO h1 h2 p1 p2 hx λh' e hk he=>?_
 refine wpAny_bind (wpAny_isInstance (T:="StopIteration") (v:=.ref e) he isSubtype_stop ?_)
 rw [if_pos rfl]
 exact wpAny_pure (hQ _ hk)
noncomputable def Sz (tp:Bool) (l:Addr):Obj:={cls:=.type (if tp=true then "tuple_iterator" else "list_iterator"),data:=.fields #[.ref l,.int 0 0]}
theorem O5 (h:uW tp s.heap l xs) (hQ:Q (.ref s.heap.objs.size) {s with heap:=s.heap.push (Sz tp l)}):wpAny (model prog w) A (pyIter (.ref l)) Q E s:=by
 cases tp
 ·exact wpAny_pyIter_list (show s.heap.IsList l xs from h) hQ
 ·exact wpAny_pyIter_tuple (show s.heap.IsTuple l xs from h) hQ
end
noncomputable abbrev SD (t1:Bool) (h:Heap) (l1:Addr):Heap:=h.push (Sz t1 l1)
noncomputable abbrev Rr (t1 t2:Bool) (h:Heap) (l1 l2:Addr):Heap:=(SD t1 h l1).push (Sz t2 l2)
noncomputable abbrev Rt (t1 t2:Bool) (h:Heap) (l1 l2:Addr):Heap:=(Rr t1 t2 h l1 l2).push {cls:=.type "tuple",data:=.seq #[.ref h.objs.size,.ref (SD t1 h l1).objs.size]}
noncomputable abbrev SE (t1 t2:Bool) (h:Heap) (l1 l2:Addr):Heap:=(Rt t1 t2 h l1 l2).push {cls:=.type "tuple",data:=.seq #[.none,.none]}
noncomputable abbrev WJ (t1 t2:Bool) (h:Heap) (l1 l2:Addr):Heap:=(SE t1 t2 h l1 l2).push {cls:=.type "zip",data:=.fields #[.none,.bool false,.bool false,.ref (Rr t1 t2 h l1 l2).objs.size,.ref (Rt t1 t2 h l1 l2).objs.size]}
theorem Gm (t1 t2:Bool) (l1 l2:Addr) (xs ys:Array Value) :
  Meets (Builtin.«zip.__new__» ⟨[.type "zip",.ref l1,.ref l2],[]⟩) (λ_ R s=>uW t1 s.heap l1 xs∧uW t2 s.heap l2 ys ∧
   R (.ok (.ret (.ref (SE t1 t2 s.heap l1 l2).objs.size))) {s with heap:=WJ t1 t2 s.heap l1 l2}):=
 .of_wp λprog w A R s h=>by
  obtain ⟨h1,h2,h⟩:=h
  have hsub:=sub_zip
  have h2':uW t2 (s.heap.push (Sz t1 l1)) l2 ys:=h2.at λo q=>Heap.get?_push_of_some _ q
  unfold «Builtin».«zip.__new__»
  refine wpAny_bind ?_
  unfold Builtin.SmallTypes.newClass
  dsimp only
  refine wpAny_bind (wpAny_pure ?_)
  rw [if_neg (by decide),hsub]
  refine wpAny_bind (wpAny_pure ?_)
  rw [if_neg (by decide)]
  refine wpAny_pure ?_
  dsimp only
  rw [if_neg (by simp)]
  refine wpAny_bind ?_
  unfold Builtin.SmallTypes.iterAll
  dsimp only
  refine wpAny_bind ?_
  rw [List.forIn_cons]
  refine wpAny_bind (wpAny_bind (wpAny_holding (O5 h1 (wpAny_pure ?_))))
  dsimp only
  rw [List.forIn_cons]
  refine wpAny_bind (wpAny_bind (wpAny_holding (O5 h2' (wpAny_pure ?_))))
  dsimp only
  rw [List.forIn_nil]
  refine wpAny_pure (wpAny_pure ?_)
  refine wpAny_bind (wpAny_newTuple ?_ (by simp [sizeLine_eq]))
  refine wpAny_bind (wpAny_newTuple ?_ (by simp [sizeLine_eq]))
  refine wpAny_bind ?_
  unfold Builtin.SmallTypes.newRecord
  dsimp only
  exact wpAny_newObj_type (wpAny_pure ⟨_,rfl,h⟩) (by simp [sizeOk,sizeLine_eq,Builtin.SmallTypes.ownedTupleFields])
theorem BQ {prog:Program} {w:World} {A:Around} {E:Value→Shared→Prop} (h1:uW t1 s.heap l1 xs) (h2:uW t2 s.heap l2 ys)
  (h:∀ h',IsZip h' (s.heap.objs.size+4) (s.heap.objs.size+2) (s.heap.objs.size+3) .none→IsPair h' (s.heap.objs.size+2) (.ref s.heap.objs.size) (.ref (s.heap.objs.size+1))→IsPair h' (s.heap.objs.size+3) .none .none →
   pU t1 h' s.heap.objs.size l1 0→pU t2 h' (s.heap.objs.size+1) l2 0→h'.objs.size=s.heap.objs.size+5→(∀ c o,s.heap.get? c=some o→h'.get? c=some o)→Q (.ref (s.heap.objs.size+4)) {s with heap:=h'}) :
  wpAny (model prog w) A (call (.type "zip") [.ref l1,.ref l2]) Q E s:=by
 refine callType_new F.called_zip (by decide) (F.typeCall_zip_2 _ _) (F.newCall_zip_2 _ _) (λobj=>F.args_object_init_3 obj _ _) F.entry_zip_new
  (Gm t1 t2 l1 l2 xs ys) ⟨h1,h2,?_⟩
 have n1:(SD t1 s.heap l1).objs.size=s.heap.objs.size+1:=Heap.size_push ..
 have n2:(Rr t1 t2 s.heap l1 l2).objs.size=s.heap.objs.size+2:=by rw [Rr,Heap.size_push,n1]
 have n3:(Rt t1 t2 s.heap l1 l2).objs.size=s.heap.objs.size+3:=by rw [Rt,Heap.size_push,n2]
 have n4:(SE t1 t2 s.heap l1 l2).objs.size=s.heap.objs.size+4:=by rw [SE,Heap.size_push,n3]
 have n5:(WJ t1 t2 s.heap l1 l2).objs.size=s.heap.objs.size+5:=by rw [WJ,Heap.size_push,n4]
 have gz:=Heap.get?_push_size (SE t1 t2 s.heap l1 l2) (o:={cls:=.type "zip",data:=.fields #[.none,.bool false,.bool false,.ref (Rr t1 t2 s.heap l1 l2).objs.size,.ref (Rt t1 t2 s.heap l1 l2).objs.size]}) rfl
 have gO:=Heap.get?_push_size (Rt t1 t2 s.heap l1 l2) (o:={cls:=.type "tuple",data:=.seq #[.none,.none]}) rfl
 have gI:=Heap.get?_push_size (Rr t1 t2 s.heap l1 l2) (o:={cls:=.type "tuple",data:=.seq #[.ref s.heap.objs.size,.ref (SD t1 s.heap l1).objs.size]}) rfl
 have g2:pU t2 (Rr t1 t2 s.heap l1 l2) (s.heap.objs.size+1) l2 0:=by
  have:=Heap.get?_push_size (SD t1 s.heap l1) (o:=Sz t2 l2) rfl
  rw [n1] at this
  cases t2<;>exact ⟨_,this,rfl,rfl⟩
 have g1:pU t1 (SD t1 s.heap l1) s.heap.objs.size l1 0:=by
  have:=Heap.get?_push_size s.heap (o:=Sz t1 l1) rfl
  cases t1<;>exact ⟨_,this,rfl,rfl⟩
 replace gz:IsZip (WJ t1 t2 s.heap l1 l2) (s.heap.objs.size+4) (s.heap.objs.size+2) (s.heap.objs.size+3) .none:=by rw [IsZip,← n4,← n2,← n3];exact gz
 replace gO:IsPair (SE t1 t2 s.heap l1 l2) (s.heap.objs.size+3) .none .none:=by rw [IsPair,← n3];exact gO
 replace gI:IsPair (Rt t1 t2 s.heap l1 l2) (s.heap.objs.size+2) (.ref s.heap.objs.size) (.ref (s.heap.objs.size+1)):=by rw [IsPair,← n2,← n1];exact gI
 have kp:∀ {h:Heap} {o':Obj} {c:Addr} {o:Obj},h.get? c=some o→(h.push o').get? c=some o:=λq=>Heap.get?_push_of_some _ q
 refine ⟨?_,?_⟩
 ·rw [n4];exact ⟨_,gz,rfl⟩
 ·rw [n4]
  exact h _ gz (kp (kp gI)) (kp gO) (g1.at λo q=>kp (kp (kp (kp q)))) (g2.at λo q=>kp (kp (kp q))) n5 λc o q=>kp (kp (kp (kp (kp q))))
noncomputable def Lq (t:Bool) (K:PySem.W.Frag) (H:Hp) (a:Addr) (xs:List V):Prop:=if t=true then rG K H a xs else q8 K H a xs
section
variable {X:Cx} {pins:List (Addr×Obj)} {σ:L2.St} {H:Hp} {s:Shared} {a:Addr} {xs ys:List V} {t:Bool}
theorem _root_.L2.Inv.Ep (I:Inv X pins σ H s) (h:Lq t X.K H a xs):∃ its:List Value,Vals xs its∧uW t s.heap a its.toArray:=by
 cases t
 ·obtain ⟨its,r,p,_⟩:=I.list (show q8 X.K H a xs from h)
  exact ⟨its,r,p.isList⟩
 ·obtain ⟨its,r,p,_⟩:=I.tuple (show rG X.K H a xs from h)
  exact ⟨its,r,p⟩
theorem _root_.L2.Inv.Er (I:Inv X pins σ H s) (h:Lq t X.K H a xs) (h':Lq t X.K H a ys):xs=ys:=by
 cases t
 ·exact I.rQ (show q8 X.K H a xs from h) (show q8 X.K H a ys from h')
 ·exact I.wU (show rG X.K H a xs from h) (show rG X.K H a ys from h')
theorem uW.lt (p:uW t h a its):a<h.objs.size:=by
 cases t
 ·obtain ⟨o,e,_⟩:=(show h.IsList a its from p);exact Heap.lt_size e
 ·obtain ⟨o,e,_⟩:=(show h.IsTuple a its from p);exact Heap.lt_size e
end
noncomputable def Ru (K:PySem.W.Frag) (t1 t2:Bool) (a b:Addr):It:=
 ⟨λi H=>∃ xs ys x y,Lq t1 K H a xs∧Lq t2 K H b ys∧xs[i]?=some x∧ys[i]?=some y,λi H v H'=>∃ x y p,(∀ xs,Lq t1 K H a xs→xs[i]?=some x)∧(∀ ys,Lq t2 K H b ys→ys[i]?=some y)∧H p=none∧v=.ref p∧H'=upd H p (.tup [x,y]),λi H=>∃ xs ys,Lq t1 K H a xs∧Lq t2 K H b ys∧(xs.length≤i∨ys.length≤i)⟩
theorem Jj {k:Nat} {pt:Pos} (t1 t2:Bool) (l1 l2 z TI TO i1 i2:Addr) (D:ZipApart z TI TO i1 i2 l1 l2):Turn P w K (.Tuple es k pt) (Ru K t1 t2 l1 l2) [z,TI,TO,i1,i2] z
  (λi h=>IsZip h z TI TO .none∧IsPair h TI (.ref i1) (.ref i2)∧(∃ a b,IsPair h TO a b)∧pU t1 h i1 l1 i∧pU t2 h i2 l2 i) where
 mem:=by simp
 obj:=λi h ⟨hz,hTI,⟨a,b,hTO⟩,h1,h2⟩ c hc=>by
  simp only [List.mem_cons,List.not_mem_nil,or_false] at hc
  rcases hc with rfl | rfl | rfl | rfl | rfl
  ·exact ⟨_,hz,λv e=>by cases e⟩
  ·exact ⟨_,hTI,λv e=>by cases e⟩
  ·exact ⟨_,hTO,λv e=>by cases e⟩
  ·exact h1.get
  ·exact h2.get
 keep:=λi h h' ⟨hz,hTI,⟨a,b,hTO⟩,h1,h2⟩ kp=>⟨kp z (by simp) _ hz,kp TI (by simp) _ hTI,⟨a,b,kp TO (by simp) _ hTO⟩,h1.at λo q=>kp i1 (by simp) o q,h2.at λo q=>kp i2 (by simp) o q⟩
 item:=by
  intro X hP hw hK hc i pins s σ H E I hf ⟨hz,hTI,⟨a,b,hTO⟩,h1,h2⟩ hg
  subst hP hw hK
  obtain ⟨xs,ys,x,y,hq1,hq2,hx,hy⟩:=hg
  obtain ⟨Lr,UL,p1⟩:=I.Ep hq1
  obtain ⟨its2,Ls,p2⟩:=I.Ep hq2
  obtain ⟨u1,hu1,Yn⟩:=UL.get hx
  obtain ⟨u2,WK,Rv⟩:=Ls.get hy
  have lt:∀ {c o},s.heap.get? c=some o→c≠s.heap.objs.size:=λe=>Nat.ne_of_lt (Heap.lt_size e)
  have Rw:i1≠s.heap.objs.size:=by obtain ⟨o,q,_⟩:=h1.get;exact lt q
  have Rx:i2≠s.heap.objs.size:=by obtain ⟨o,q,_⟩:=h2.get;exact lt q
  refine tY D hz hTI hTO h1 h2 p1 p2 (x:=u1) (y:=u2) (by simpa using hu1) (by simpa using WK) λh' a1 a2 a3 a4 a5 a6 hk=>?_
  refine ⟨.ref s.heap.objs.size,rfl,?_⟩
  have I1:Inv X pins σ (upd H s.heap.objs.size (.tup [x,y])) {s with heap:=s.heap.push {cls:=.type "tuple",data:=.seq #[u1,u2]}}:=
   I.laid (t':=s.toks) (λb o q=>Heap.get?_push_of_some _ q) (Nat.le_refl _) ⟨by simp [sizeLine_eq],[u1,u2],.cons Yn (.cons Rv .nil),PyProof.Rows.IsTup.new _ _⟩
  have hfree:=I.hok.fresh (Nat.le_refl s.heap.objs.size)
  have hne:∀ c∈[z,TI,TO,i1,i2],c≠s.heap.objs.size:=λc hc=>by
   simp only [List.mem_cons,List.not_mem_nil,or_false] at hc
   rcases hc with rfl | rfl | rfl | rfl | rfl
   ·exact lt hz
   ·exact lt hTI
   ·exact lt hTO
   ·exact Rw
   ·exact Rx
  have hf1:∀ c∈[z,TI,TO,i1,i2],pq X pins (upd H s.heap.objs.size (.tup [x,y])) c:=λc hc=>⟨by rw [aI (hne c hc)];exact (hf c hc).1,(hf c hc).2⟩
  refine wpAny_letOwnedTupleGo_zip (s:={s with heap:=h'}) a1 λh2' hz' hs'=>?_
  have Ry:IsPair h' TI (.ref i1) (.ref i2):=hk _ _ D.TIz D.TITO D.TIi1 D.TIi2 hTI
  refine ⟨.ref s.heap.objs.size,_,oh (t':=s.toks) (s:={s with heap:=s.heap.push {cls:=.type "tuple",data:=.seq #[u1,u2]}}) (ch:=[z,TI,TO,i1,i2]) I1 (λc o hc q=>?_) hf1,rfl,⟨x,y,s.heap.objs.size,λzs hz=>by rw [I.Er hz hq1];exact hx,λzs hz=>by rw [I.Er hz hq2];exact hy,hfree,rfl,rfl⟩,⟨hz',hs'.extBut _ _ D.TIz Ry,⟨_,_,hs'.extBut _ _ D.TOz a2⟩,a3.at λo q=>hs'.extBut _ _ D.i1z q,a4.at λo q=>hs'.extBut _ _ D.i2z q⟩,λc hc=>(hf1 c hc).1⟩
  have c1:c≠z:=λq=>hc (by simp [q])
  have c2:c≠TO:=λq=>hc (by simp [q])
  have c3:c≠i1:=λq=>hc (by simp [q])
  have c4:c≠i2:=λq=>hc (by simp [q])
  refine hs'.extBut _ _ c1 ?_
  by_cases hcs:c=s.heap.objs.size
  ·subst hcs
   have:=Heap.get?_push_size (o:={cls:=.type "tuple",data:=.seq #[u1,u2]}) s.heap rfl
   rw [this] at q;cases q
   exact a5
  ·have q':(s.heap.push {cls:=.type "tuple",data:=.seq #[u1,u2]}).get? c=some o:=q
   refine hk c o c1 c2 c3 c4 ?_
   rwa [Heap.get?_push_ne _ _ _ hcs] at q'
 done:=by
  intro X hP hw hK hc i pins s σ H E I hf ⟨hz,hTI,⟨a,b,hTO⟩,h1,h2⟩ hg
  subst hP hw hK
  obtain ⟨xs,ys,hq1,hq2,hx⟩:=hg
  obtain ⟨Lr,UL,p1⟩:=I.Ep hq1
  obtain ⟨its2,Ls,p2⟩:=I.Ep hq2
  have hl1:=UL.length
  have hl2:=Ls.length
  refine vH (I.ok.hd hc) D hz hTI hTO h1 h2 p1 p2 (by
   rcases hx with hx | hx
   ·left;simp;nofun
   ·right;simp;nofun) λh' hk=>⟨rfl,oh (t':=s.toks) (ch:=[z,TI,TO,i1,i2]) I (λc o hc q=>hk c o (λe=>hc (by simp [e])) (λe=>hc (by simp [e])) (λe=>hc (by simp [e])) (λe=>hc (by simp [e])) q) hf⟩
 self:=λ_ _ _ _ _ ⟨hz,_⟩ h=>wpAny_pyIter_zip hz h
noncomputable def fG (G:DH) (d:D):Option (Bool×List D):=match bw G d with
 | some (.lst xs)=>some (false,xs)
 | some (.tup xs)=>some (true,xs)
 | _=>none
noncomputable def Lu (d e:D):View:=λG i=>match fG G d,fG G e with
 | some (_,xs),some (_,ys)=>some (match xs[i]?,ys[i]? with
  | some x,some y=>some (.tup [x,y])
  | _,_=>none)
 | _,_=>none
noncomputable def Lv (m:DS→M (List D)):MI:=λτ=>(m τ).bind λds=>match ds with
 | [d,e]=>λG=>match fG G d,fG G e with
  | some (_,xs),some (_,ys)=>.ok (min xs.length ys.length+1,Lu d e) G
  | _,_=>.stuck
 | _=>M.stop
section
variable {X:Cx} {EE:gA} {tg iter a b:Expr} {g:tK} {mi:MI} {ms:MS} {pos p pc:Pos} {m:DS→M (List D)}
theorem vI {pins:List (Addr×Obj)} {σ0:L2.St} {s:Shared} {x:V} {t:Bool} (h:jR X.K X.mg H ρ G) (r:Rep X.K X.mg ρ H d x) (e:fG G d=some (t,ds)) :
  ∃ p xs,x=.ref p∧Lq t X.K H p xs∧aC X.K X.mg ρ H ds xs:=by
 unfold fG at e
 cases q:bw G d with
 | none=>rw [q] at e;cases e
 | some k=>
  rw [q] at e
  cases k with
  | lst zs=>
   cases e
   obtain ⟨p,xs,h1,h2,h3⟩:=dm (pins:=pins) (σ0:=σ0) (s:=s) h r q
   exact ⟨p,xs,h1,h2,h3⟩
  | tup zs=>
   cases e
   obtain ⟨p,xs,h1,h2,h3⟩:=iV r q
   exact ⟨p,xs,h1,h2,h3⟩
  | str z=>cases e
theorem HJ {x:V} {t:Bool} (r:Rep X.K X.mg ρ H d x) (h:jR X.K X.mg H ρ G) (e:fG G d=some (t,ds)) :
  ∃ p xs,x=.ref p∧Lq t X.K H p xs∧aC X.K X.mg ρ H ds xs:=by
 unfold fG at e
 cases q:bw G d with
 | none=>rw [q] at e;cases e
 | some k=>
  rw [q] at e
  cases k with
  | lst zs=>
   cases e
   cases d with
   | con ds=>
    cases q
    unfold Rep at r
    obtain ⟨a',xs,e,s,r⟩:=r
    exact ⟨a',xs,e,s.seq,r⟩
   | obj n=>
    obtain ⟨a',rfl,e⟩:=(show ∃ a,x=.ref a∧ρ[n]?=some a by unfold Rep at r;exact r)
    obtain ⟨xs,h1,h2⟩:=Ge fh.refl r h q
    exact ⟨a',xs,rfl,h1,h2⟩
   | _=>cases q
  | tup zs=>
   cases e
   obtain ⟨p,xs,h1,h2,h3⟩:=iV r q
   exact ⟨p,xs,h1,h2,h3⟩
  | str z=>cases e
theorem BR {H H':Hp} {ρ ρ':List Addr} {l:Addr} {t t':Bool} (q:fG G d=some (t,ds)) (q':fG G' d=some (t',ds')):t=t':=by
 unfold fG at q q'
 cases d with
 | tup xs=>cases q;cases q';rfl
 | con xs=>cases q;cases q';rfl
 | obj n=>
  dsimp only [bw] at q q'
  have f:∀ {G:DH} {t:Bool} {ds:List D},(match (match G[n]? with | some (.lst xs)=>some (T9.lst xs) | _=>none) with | some (.lst xs)=>some (false,xs) | some (.tup xs)=>some (true,xs) | _=>none)=some (t,ds)→t=false:=by
   intro G t ds h
   cases g:G[n]? with
   | none=>rw [g] at h;cases h
   | some o=>cases o<;>(rw [g] at h;cases h)<;>rfl
  exact (f q).trans (f q').symm
 | _=>cases q
theorem N7 {e:D} {es:List D} (r1:Rep X.K X.mg ρ H d (.ref l1)) (r2:Rep X.K X.mg ρ H e (.ref l2)) (k1:fG G d=some (t1,ds)) (k2:fG G e=some (t2,es)):JV X.K X.mg (Ru X.K t1 t2 l1 l2) (Lu d e) H ρ:=by
 intro i H' ρ' G' f hp
 unfold Lu
 cases q1:fG G' d with
 | none=>exact ⟨λe=>(by cases e),λx e=>(by cases e)⟩
 | some s1=>
  cases q2:fG G' e with
  | none=>exact ⟨λe=>(by cases e),λx e=>(by cases e)⟩
  | some s2=>
     obtain ⟨u1,zs⟩:=s1
     obtain ⟨u2,ws⟩:=s2
     have e1:=BR (H:=H) (H':=H') (ρ:=ρ) (ρ':=ρ') (l:=l1) k1 q1
     have e2:=BR (H:=H) (H':=H') (ρ:=ρ) (ρ':=ρ') (l:=l2) k2 q2
     subst e1 e2
     dsimp only
     obtain ⟨p1,xs,y1,WL,rs1⟩:=HJ (r1.mono f) hp q1
     obtain ⟨p2,ys,y2,O6,UJ⟩:=HJ (r2.mono f) hp q2
     cases y1;cases y2
     have l1e:=rs1.length
     have l2e:=UJ.length
     cases h1:zs[i]? with
     | none=>
      refine ⟨λ_=>⟨xs,ys,WL,O6,.inl ?_⟩,λx e=>(by cases e)⟩
      rw [List.getElem?_eq_none_iff] at h1;nofun
     | some x=>
      cases h2:ws[i]? with
      | none=>
       refine ⟨λ_=>⟨xs,ys,WL,O6,.inr ?_⟩,λx e=>(by cases e)⟩
       rw [List.getElem?_eq_none_iff] at h2;nofun
      | some y=>
       refine ⟨λe=>(by cases e),λt e=>?_⟩
       cases e
       obtain ⟨v1,hv1,UL⟩:=rs1.get h1
       obtain ⟨v2,hv2,Ls⟩:=UJ.get h2
       refine ⟨⟨xs,ys,v1,v2,WL,O6,hv1,hv2⟩,λv H2 hy=>?_⟩
       obtain ⟨x',y',pp,hx',hy',hfree,rfl,rfl⟩:=hy
       have e1:=hx' xs WL
       rw [hv1] at e1;cases e1
       have e2:=hy' ys O6
       rw [hv2] at e2;cases e2
       have ff:fh X.K H' (upd H' pp (.tup [v1,v2])) ρ' ρ':=fX hfree ρ'
       refine ⟨⟨ff,λG hG=>hG.new hfree⟩,?_⟩
       unfold Rep
       exact ⟨pp,[v1,v2],rfl,.of ck,.cons (UL.mono ff) (.cons (Ls.mono ff) .nil)⟩
theorem N8 {k:Nat} {pt:Pos} (hm:X.mg "zip"=none) (BE:Gl X "zip") (ha:QA X EE [a,b] m) (h:aB [a,b]=true:=by rfl):QI X EE (.Tuple es k pt) (.Call (.Name "zip" p) [a,b] [] pc) (Lv m):=by
 have h':dQ a=true∧aB [b]=true:=by simpa [aB] using h
 intro pins s σ H R I hq
 obtain ⟨τ,ρ,G,ab,ok⟩:=hq
 dsimp only [Lv,M.bind] at ok
 refine wpAny_Call_Name_kw (iy I BE hm boot_zip ?_ (by decide) (by decide))
 have hA:ny X.K X.mg EE m σ H λvs H1=>∃ ρ1 G1 ds,Ab X.K X.mg σ H1 τ ρ1 G1∧fh X.K H H1 ρ ρ1∧aC X.K X.mg ρ1 H1 ds vs∧m τ G=.ok ds G1:=by
  refine ⟨τ,ρ,G,ab,?_⟩
  cases e:m τ G with
  | stuck=>rw [e] at ok;exact ok
  | dU c G'=>rw [e] at ok;exact ok
  | ok ds G'=>exact λvs H' ρ' f di r=>⟨ρ',G',ds,di,f,r,rfl⟩
 refine PyProof.Rows.callWith_type1 (gw (ha pc pins s σ H _ I hA) λus s1 yF=>?_) (bR h'.1 _ _) (bY h'.2)
 obtain ⟨vs,H1,I1,r1,ρ1,G1,ds,nB,f1,rs,em⟩:=yF
 rw [em] at ok
 dsimp only at ok
 match ds,rs,ok with
 | [],_,ok=>exact ok.elim
 | [_],_,ok=>exact ok.elim
 | _::_::_::_,_,ok=>exact ok.elim
 | [d,e],rs,ok=>
  unfold aC at rs
  obtain ⟨x,rest,rfl,rx,rs⟩:=rs
  obtain ⟨y,rfl,ry⟩:=jU rs
  cases r1 with
  | cons ru rr=>
  rename_i u us'
  obtain ⟨u2,rfl,Rv⟩:=vals1 rr
  dsimp only at ok
  cases q:fG G1 d with
  | none=>rw [q] at ok;exact ok.elim
  | some sk=>
   cases q2:fG G1 e with
   | none=>rw [q,q2] at ok;exact ok.elim
   | some Yo=>
      rw [q,q2] at ok
      dsimp only at ok
      obtain ⟨t1,zs⟩:=sk
      obtain ⟨t2,ws⟩:=Yo
      obtain ⟨l,ys,rfl,sq,rv⟩:=vI (pins:=pins) (σ0:=σ) (s:=s1) nB.hp rx q
      obtain ⟨l2,ys2,rfl,O6,Ls⟩:=vI (pins:=pins) (σ0:=σ) (s:=s1) nB.hp ry q2
      cases ru
      cases Rv
      obtain ⟨its,vv,pl⟩:=I1.Ep sq
      obtain ⟨its2,UM,SG⟩:=I1.Ep O6
      refine BQ pl SG λh2 b1 b2 b3 b4 b5 hsz kp=>?_
      refine wpAny_pyIter_zip (s:={s1 with heap:=h2}) b1 ?_
      have I2:Inv X pins σ H1 {s1 with heap:=h2}:=I1.kept (t':=s1.toks) kp
      have ll:l<s1.heap.objs.size:=pl.lt
      have ll2:l2<s1.heap.objs.size:=SG.lt
      have ll':(l:Nat)<s1.heap.objs.size:=ll
      have UN:(l2:Nat)<s1.heap.objs.size:=ll2
      have D:ZipApart (s1.heap.objs.size+4) (s1.heap.objs.size+2) (s1.heap.objs.size+3) s1.heap.objs.size (s1.heap.objs.size+1) l l2:=by
       constructor<;>(intro q;simp only [Addr] at *;nofun)
      refine ⟨s1.heap.objs.size+4,_,_,Ru X.K t1 t2 l l2,H1,rfl,I2,Jj t1 t2 l l2 _ _ _ _ _ D,⟨b1,b2,⟨_,_,b3⟩,b4,b5⟩,λc hc=>?_,ok _ H1 ρ1 f1 nB (N7 rx ry q q2)⟩
      have hge:s1.heap.objs.size≤c:=by
       simp only [List.mem_cons,List.not_mem_nil,or_false] at hc
       rcases hc with rfl | rfl | rfl | rfl | rfl<;>nofun
      exact I1.uZ hge (I1.hok.fresh hge)
end
section
open PyProof.Rows
end
theorem Yp {i j:Int}:bO (.int i) (.int j) G=.ok (.int (i+j)) G:=Eq.trans rfl rfl
section
variable {τ:DS} {G:DH} {ma mb mo mi:DS→M D}
theorem Lw:Cs ma mb τ G=(ma τ G).bd λd=>match d with
 | .bl true=>mb τ
 | .bl false=>M.ret (.bl false)
 | _=>M.stop:=aF
theorem Gn {x:D} (h1:gO x=some os) (h2:tt (os.map some++mask ks τ) (G++[.lst acc])=.ok false (G++[.lst acc])) :
  gW gO ks tt te G.length x τ (G++[.lst acc])=.ok () (G++[.lst acc]):=by
 simp only [gW,h1,h2]
theorem Es {x v:D} (h1:gO x=some os) (h2:tt (os.map some++mask ks τ) (G++[.lst acc])=.ok true (G++[.lst acc])) (h3:te (os.map some++mask ks τ) (G++[.lst acc])=.ok v (G++[.lst acc])) (hz:acc.length<sizeLine) :
  gW gO ks tt te G.length x τ (G++[.lst acc])=.ok () (G++[.lst (acc++[v])]):=by
 simp only [gW,h1,h2,h3,Dp,if_pos hz,K3]
theorem m5 {gO:D→Option (List D)} {ks:List Bool} {tt:DS→M Bool} {te:DS→M D} {α:Type} {own:α→List D} {dat f:α→D} {c:α→Bool}:∀ (as:List α) (acc:List D),acc.length+as.length≤1000000→(∀ x∈as,gO (dat x)=some (own x)) →
  (∀ x∈as,∀ acc,tt ((own x).map some++mask ks τ) (G++[.lst acc])=.ok (c x) (G++[.lst acc]))→(∀ x∈as,∀ acc,te ((own x).map some++mask ks τ) (G++[.lst acc])=.ok (f x) (G++[.lst acc])) →
  gB gO ks tt te G.length (as.map dat) τ (G++[.lst acc])=.ok (.obj G.length) (G++[.lst (acc++(as.filter c).map f)])
 | [],acc,_,_,_,_=>by simp [gB]
 | x::as,acc,hl,h1,h2,h3=>by
  have hz:acc.length<sizeLine:=Nat.lt_of_lt_of_le (by simp at hl;nofun) (lz (n:=1000001) (by nofun))
  rw [List.map_cons,gB]
  have hp:=h2 x (by simp) acc
  cases hc:c x with
  | false=>
   rw [hc] at hp
   rw [Gn (h1 x (by simp)) hp]
   dsimp only
   rw [m5 as acc (by simp at hl;nofun) (λq hq=>h1 q (by simp [hq])) (λq hq=>h2 q (by simp [hq])) (λq hq=>h3 q (by simp [hq])),List.filter_cons_of_neg (by rw [hc];decide)]
  | true=>
   rw [hc] at hp
   rw [Es (h1 x (by simp)) hp (h3 x (by simp) acc) hz]
   dsimp only
   rw [m5 as (acc++[f x]) (by simp at hl ⊢;nofun) (λq hq=>h1 q (by simp [hq])) (λq hq=>h2 q (by simp [hq])) (λq hq=>h3 q (by simp [hq])),List.filter_cons_of_pos hc]
   simp
end
section
open PyProof.Rows
end
section
variable {τ:DS} {G:DH} {e:DS→M D} {ml:DS→M (List D)} {d:D}
end
section
variable {X:Cx} {EE:gA}
theorem aC.eraseIdx:∀ (n:Nat) {ds:List D} {vs:List V},aC K mg ρ H ds vs→aC K mg ρ H (ds.eraseIdx n) (vs.eraseIdx n)
 | _,[],vs,h=>by unfold aC at h;subst h;exact .nil
 | 0,d::ds,vs,h=>by
  unfold aC at h
  obtain ⟨v,r,rfl,h1,h2⟩:=h
  exact h2
 | n+1,d::ds,vs,h=>by
  unfold aC at h
  obtain ⟨v,r,rfl,h1,h2⟩:=h
  exact .cons h1 (aC.eraseIdx n h2)
end
theorem HK {CX:yE} {k:Nat} {f:Addr} {ps:List Str}:bV P w K mg base CX k f fd ps (bJ K mg n (λ_=>M.stop)):=
 ⟨λvs H Q E zz=>by obtain ⟨ds,ρ,G,hn,hp,rs,ok⟩:=zz;exact ok.elim,λA outer s H args us vs Q E _ _ _ _ _ ⟨ds,ρ,G,hn,hp,rs,ok⟩=>ok.elim⟩
structure sj (N ps names:List Str) (sc:Scope):Prop where
 kind:sc.kind=.function
 co:sc.isCoroutine=false
 gen:sc.isGenerator=false
 nd:N.Nodup
 pre:N.take (ps.length+names.length)=ps++names
 par:∀ x∈ps,sc.names.lookup x=some .local
 fr:∀ x∈names,sc.names.lookup x=some .free
 xj:∀ y∈sc.names,y.2≠.cell
 frs:∀ y∈sc.names,y.2=.free→y.1∈names
noncomputable abbrev Et (k:oO) (cs:List Addr) (L a c:Addr):Env:=PySem.W.envX k.qual k.scope L a (.ref c) (k.names.zip cs)
noncomputable def O7 (CX:yE) (P:Program) (w:World) (K:PySem.W.Frag) (mg:Str→Option Value) (base:Heap) (N:List Str) (k:oO) (cs:List Addr) (a c:Addr) (A:Around) (outer:List Env) (s:Shared) (H:Hp) (E:XK):Cx where
 prog:=P
 w:=w
 K:=K
 mg:=mg
 base:=base
 A:=A.deeper (Et k cs s.heap.objs.size a c)
 N:=N
 s₀:=s
 H₀:=H
 env:=Et k cs s.heap.objs.size a c
 outer:=outer
 stack:=Et k cs s.heap.objs.size a c::outer
 ex:=[]
 fn:=λ_=>false
 calm:=true
 pn:=[]
 xe:=λe s'=>wpAny (model P w) (A.deeper (Et k cs s.heap.objs.size a c)) (leaving (Et k cs s.heap.objs.size a c) e) (λ_ s''=>CX outer H s E e s'') (λe' s''=>CX outer H s E e' s'') s'
theorem qk:∀ {ns:List Str} {cs:List Addr} {y:Str} {c:Addr},(ns.zip cs).lookup y=some c→∃ i:Nat,ns[i]?=some y∧cs[i]?=some c
 | [],cs,y,c,h=>by simp at h
 | n::ns,[],y,c,h=>by simp at h
 | n::ns,d::cs,y,c,h=>by
  rw [List.zip_cons_cons,List.lookup_cons] at h
  cases e:(y==n) with
  | true=>
   rw [e] at h
   cases h
   exact ⟨0,by rw [beq_iff_eq.mp e];rfl,rfl⟩
  | false=>
   rw [e] at h
   obtain ⟨i,h1,h2⟩:=qk h
   exact ⟨i+1,by simpa using h1,by simpa using h2⟩
theorem uH:∀ {ns:List Str} {cs:List Addr} {y:Str} {c:Addr} {i:Nat},ns.Nodup→ns[i]?=some y→cs[i]?=some c→(ns.zip cs).lookup y=some c
 | [],cs,y,c,i,_,h,_=>by simp at h
 | n::ns,[],y,c,i,_,_,h=>by simp at h
 | n::ns,d::cs,y,c,0,_,h,h2=>by
  simp at h h2
  subst h h2
  simp
 | n::ns,d::cs,y,c,i+1,nd,h,h2=>by
  have h':ns[i]?=some y:=by simpa using h
  have ne:(y==n)=false:=beq_eq_false_iff_ne.mpr λz=>(List.nodup_cons.mp nd).1 (z▸List.mem_of_getElem? h')
  rw [List.zip_cons_cons,List.lookup_cons,ne]
  exact uH (List.nodup_cons.mp nd).2 h' (by simpa using h2)
theorem gU.get:∀ {cs:List Addr} {xs:List V} {i:Nat} {c:Addr},gU H cs xs→cs[i]?=some c→∃ x o u,xs[i]?=some x∧DM H c o∧o.data=.cell (some u)∧RelV x u
 | [],xs,i,c,_,h=>by simp at h
 | d::cs,xs,0,c,⟨x,r,o,u,e,h1,h2,h3,_⟩,h=>by
  simp at h
  subst h e
  exact ⟨x,o,u,rfl,h1,h2,h3⟩
 | d::cs,xs,i+1,c,⟨x,r,o,u,e,_,_,_,h4⟩,h=>by
  subst e
  obtain ⟨x',o',u',g⟩:=gU.get h4 (i:=i) (by simpa using h)
  exact ⟨x',o',u',by simpa using g⟩
theorem gU.len:∀ {cs:List Addr} {xs:List V},gU H cs xs→xs.length=cs.length
 | [],xs,h=>by rw [show xs=[] from h];rfl
 | d::cs,xs,⟨x,r,o,u,e,_,_,_,h4⟩=>by rw [e,List.length_cons,List.length_cons,h4.len]
theorem CN:∀ {ps:List Str} {us:List Value} {y:Str} {u:Value} {i:Nat},ps.Nodup→ps[i]?=some y→us[i]?=some u→(ps.zip us).reverse.lookup y=some u:=by
 intro ps us y u i nd h1 h2
 have key:∀ {ps:List Str} {us:List Value} {i:Nat} (r:List (Str×Value)),ps.Nodup→ps[i]?=some y→us[i]?=some u→((ps.zip us).reverse++r).lookup y=some u:=by
  intro ps
  induction ps with
  | nil=>intro us i r _ h;simp at h
  | cons p ps ih=>
   intro us i r nd h1 h2
   cases us with
   | nil=>simp at h2
   | cons w us=>
    rw [List.zip_cons_cons,List.reverse_cons,List.append_assoc]
    cases i with
    | zero=>
     simp at h1 h2
     subst h1 h2
     have none:∀ (q:List (Str×Value)) (r:List (Str×Value)),(∀ z∈q,z.1≠p)→(q++r).lookup p=r.lookup p:=by
      intro q
      induction q with
      | nil=>intro r _;rfl
      | cons z q ihq=>
       intro r hz
       rw [List.cons_append,List.lookup_cons,beq_eq_false_iff_ne.mpr (Ne.symm (hz z (by simp)))]
       exact ihq r λz' h'=>hz z' (by simp [h'])
     rw [none _ _ (λz hz=>by
      have:=(List.of_mem_zip (List.mem_reverse.mp hz)).1
      intro e
      exact (List.nodup_cons.mp nd).1 (e▸this))]
     simp
    | succ i=>exact ih ([(p,w)]++r) (List.nodup_cons.mp nd).2 (by simpa using h1) (by simpa using h2)
 have:=key (ps:=ps) (us:=us) (i:=i) [] nd h1 h2
 rwa [List.append_nil] at this
theorem HL {CX:yE} {P:Program} {w:World} {K:PySem.W.Frag} {mg:Str→Option Value} {base h1:Heap} {N ps:List Str} {k:oO} {cs:List Addr} {a c:Addr} {A:Around} {outer:List Env} {s:Shared} {H:Hp} {E:XK} {us:List Value} {vs xs:List V}
  (S:sj N ps k.names k.scope) (hd:A.handled=none) (e0:wX P w K mg base A outer s H) (hl:vs.length=ps.length) (r:Vals vs us) (hcl:cs.length=k.names.length) (hnd:cs.Nodup) (hc:gU H cs xs)
  (hns:h1.Ns s.heap.objs.size λy=>(ps.zip us).reverse.lookup y) (hk:∀ b o,s.heap.get? b=some o→h1.get? b=some o) {n:Nat} (ht:0<n) :
  Inv (O7 CX P w K mg base N k cs a c A outer s H E) [] (start N (vs++xs)) H {s with heap:=h1,toks:=n}:=by
 have UO:(ps++k.names).Nodup:=by rw [← S.pre];exact S.nd.sublist (List.take_sublist _ _)
 have Ww:ps.Nodup:=(List.nodup_append.mp UO).1
 have ndN:k.names.Nodup:=(List.nodup_append.mp UO).2.1
 have hxl:xs.length=k.names.length:=by rw [hc.len,hcl]
 have hpl:ps.length+k.names.length≤N.length:=by have:=congrArg List.length S.pre;rw [List.length_take,List.length_append] at this;nofun
 have cellAt:∀ y d,(k.names.zip cs).lookup y=some d→∃ i x o u,k.names[i]?=some y∧xs[i]?=some x∧DM H d o∧o.data=.cell (some u)∧RelV x u∧s.heap.get? d=some o:=λy d e=>by
  obtain ⟨i,h1,h2⟩:=qk e
  obtain ⟨x,o,u,g1,g2,g3,g4⟩:=hc.get h2
  exact ⟨i,x,o,u,h1,g1,g2,g3,g4,(e0.hok d _ g2).1⟩
 have M5:∀ b:Addr,b∉(O7 CX P w K mg base N k cs a c A outer s H E).ex:=λb z=>absurd (show b∈([]:List Addr) from z) (by simp)
 refine ⟨⟨e0.mod,S.kind,rfl,rfl,Nat.le_refl _,λy z d h1 h2=>?_,λy hy=>?_,λy d h _=>absurd (show false=true from h) Bool.false_ne_true,λ_=>hd,Around.frames_deeper e0.frames,.inr ⟨rfl,rfl⟩,λb z=>absurd z (M5 b),e0.bs,e0.MG,λb _ _=>M5 b,λb z=>absurd z (M5 b),e0.uY,e0.MP⟩,
  ⟨rfl,ht⟩,e0.bare,Un.kept hk,⟨_,hns,λi y v h1 h2 h3=>?_⟩,λy d h=>?_,e0.hok.fresh (Nat.le_refl _),λy d h=>?_,λp hp=>absurd (show p∈([]:List (Addr×Obj)) from hp) (by simp),e0.hok.kept hk,?_⟩
 ·obtain ⟨i,a1,a2⟩:=qk h1
  obtain ⟨j,b1,b2⟩:=qk h2
  have ij:i=j:=by
   obtain ⟨l1,e1⟩:=List.getElem?_eq_some_iff.mp a2
   obtain ⟨l2,e2⟩:=List.getElem?_eq_some_iff.mp b2
   exact (List.getElem_inj hnd).mp (e1.trans e2.symm)
  subst ij
  rw [a1] at b1
  exact Option.some.inj b1
 ·have hy:k.scope.names.lookup y=some .cell∨k.scope.names.lookup y=some .free:=hy
  rcases hy with hy | hy
  ·exact absurd rfl (S.xj _ (PySem.mem_of_lookup hy))
  ·have hm:=S.frs _ (PySem.mem_of_lookup hy) rfl
   obtain ⟨i,hi,e⟩:=List.getElem_of_mem hm
   have e':k.names[i]?=some y:=by rw [List.getElem?_eq_getElem hi,e]
   exact ⟨_,uH ndN e' (List.getElem?_eq_getElem (by nofun))⟩
 ·have hi:i<(vs++xs).length:=by
   unfold L2.start at h2
   by_cases hi:i<(vs++xs).length
   ·exact hi
   ·rw [List.getElem?_append_right (by simpa using hi)] at h2
    rw [List.getElem?_replicate] at h2
    split at h2<;>cases h2
  have ha:(vs++xs)[i]?=some v:=by
   unfold L2.start at h2
   rw [List.getElem?_append_left (by simpa using hi),List.getElem?_map] at h2
   cases e:(vs++xs)[i]? with
   | none=>rw [e] at h2;cases h2
   | some a=>rw [e] at h2;cases h2;rfl
  rw [List.length_append] at hi
  have hy:(ps++k.names)[i]?=some y:=by
   rw [← S.pre,List.getElem?_take_of_lt (by nofun)];exact h1
  by_cases hiv:i<vs.length
  ·rw [List.getElem?_append_left hiv] at ha
   rw [List.getElem?_append_left (by nofun)] at hy
   obtain ⟨u,hu,rv⟩:=r.get ha
   exact ⟨u,rv,.inl ⟨S.par y (List.mem_of_getElem? hy),CN Ww hy hu⟩⟩
  ·rw [List.getElem?_append_right (by nofun)] at ha hy
   rw [hl] at ha
   have hic:i - ps.length<cs.length:=by nofun
   have ec:=List.getElem?_eq_getElem hic
   obtain ⟨x,o,u,g1,g2,g3,g4⟩:=hc.get ec
   rw [g1] at ha
   cases ha
   refine ⟨u,g4,.inr ⟨.inr (S.fr y (List.mem_of_getElem? hy)),_,uH ndN hy ec,o,hk _ _ (e0.hok _ _ g2).1,g3⟩⟩
 ·obtain ⟨i,x,o,u,_,_,_,g3,_,g5⟩:=cellAt y d h
  exact ⟨_,o,hk _ _ g5,g3⟩
 ·obtain ⟨i,x,o,u,_,_,g2,_⟩:=cellAt y d h
  exact .inr ⟨rfl,o,_,g2⟩
 ·unfold L2.start
  show _=N.length
  rw [List.length_append,List.length_map,List.length_replicate,List.length_append]
  nofun
noncomputable def Eu (P:Program) (w:World) (K:PySem.W.Frag) (mg:Str→Option Value) (base:Heap) (CX:yE) (k:Nat) (c:oO) (n:Nat) (m:List D→M D):Prop:=
 ∀ (A:Around) (outer:List Env) (s:Shared) (H:Hp) (us:List Value) (vs xs:List V) (Q:VK) (E:XK) (a:Addr) (cs:List Addr),iH k A→wX P w K mg base A outer s H→0<s.toks→yb H c a cs→gU H cs xs→Vals vs us→us.length=n →
  bJ K mg (n+c.names.length) m (vs++xs) H Q E→codeAny (model P w) A (.call (.ref a) ⟨us,[]⟩) (CR CX outer P w H s Q E) s
noncomputable def yf (r:Out D):Out D:=match r with
 | .dU _ _=>.stuck
 | r=>r
noncomputable def N9 (n:Nat) (m:DS→M D) (ds:List D):M D:=m (ds.map some++List.replicate (n - ds.length) none)
theorem Oa {P:Program} {w:World} {K:PySem.W.Frag} {mg:Str→Option Value} {base:Heap} {c:oO} {ps:List Str} {k:Nat} {m:List D→M D} (S:sj N ps c.names c.scope) (hps:ps.length=n) (hN:N.length=nn) (hm:∀ ds G,m ds G=yf (N9 nn me ds G))
  (hbind:∀ (doc pm ctv:Value) (c':Addr) (cs:List Addr) (us:List Value) (s:Shared),us.length=ps.length→bindArgs (DL c cs doc pm c' ctv) ⟨us,[]⟩=pure (ps.zip us)) {bd:Expr} (hbd:c.body=.expr bd)
  (hbody:∀ (X:Cx) (EE:gA) (cs:List Addr) (a c':Addr) (A:Around) (outer:List Env) (s:Shared) (H:Hp) (E:XK),X=O7 (eO P w) P w K mg base N c cs a c' A outer s H E→iH k (A.deeper (Et c cs s.heap.objs.size a c')) →
   oQ X EE→PassesOwn (model P w) X.A X.env X.xe→QE X EE bd me) :
  Eu P w K mg base (eO P w) (k+1) c n m:=by
 intro A outer s H us vs xs Q E a cs hr e0 htk hca hce r Rz GS
 obtain ⟨hcl,hnd,doc,pm,ctv,c',fo,oc,ws,t,fc,hd,hv⟩:=hca
 subst hps hN
 obtain ⟨ds,ρ,G,hn,hp,rs,ok⟩:=GS
 have hvl:vs.length=ps.length:=by rw [r.length];exact Rz
 have ho:=(e0.hok a _ fo).1
 have hoc:=(e0.hok c' _ fc).1
 have lim:s.heap.NoLimit:=e0.mod.nolimit.keeps λb o e=>(e0.bs b o e).1
 refine PySem.W.kla_callFunE (fd:=DL c cs doc pm c' ctv) hr.depth ho rfl S.co S.gen hbd ⟨c',oc,ws,t,rfl,hoc,hd,hv⟩ ?_
 rw [hbind doc pm ctv c' cs us s Rz]
 refine wpAny_pure (wpAny_newFunctionEnv S.xj (λy hy=>S.par y.1 (List.of_mem_zip hy).1) (λh1 hns hsb=>⟨lim.fresh _ hsb,?_⟩) S.kind)
 have hk1:∀ b o,s.heap.get? b=some o→h1.get? b=some o:=λb o e=>hsb.extBut b o (Nat.ne_of_lt (Heap.lt_size e)) (Heap.get?_push_of_some _ e)
 have I:Inv (O7 (eO P w) P w K mg base N c cs a c' A outer s H E) [] (L2.start N (vs++xs)) H {s with heap:=h1,toks:=s.toks+(ps.zip us).length}:=HL S hr.hd e0 hvl r hcl hnd hce hns hk1 (Nat.lt_of_lt_of_le htk (Nat.le_add_right _ _))
 have hB:=hbody _ (λ_ _ _=>False) cs a c' A outer s H E rfl (hr.deeper _) (λ_ _ _ _ _ _ _ _ _ _ z=>z.elim) PassesOwn.leaving
 have hq:cS K mg (λ_ _ _=>False) me (L2.start N (vs++xs)) H Q:=by
  refine ⟨ds.map some++List.replicate (N.length - ds.length) none,ρ,G,⟨p9 rs,hp⟩,?_⟩
  rw [hm] at ok
  unfold N9 at ok
  cases q:me (ds.map some++List.replicate (N.length - ds.length) none) G with
  | stuck=>rw [q] at ok;exact ok
  | ok d G'=>rw [q] at ok;exact λv H' ρ' f ab r=>ok v H' ρ' f ab.hp r
  | dU c G'=>rw [q] at ok;exact ok.elim
 show codeAny _ _ (.expr bd (Et c cs s.heap.objs.size a c')) _ _
 refine PySem.W.kla_codeExpr (wpAny_mono (hB [] _ (L2.start N (vs++xs)) H Q I hq) (λu s' hs=>?_) λe s' hs=>hs)
 obtain ⟨v,H',J,rv,q⟩:=hs
 exact ⟨v,H',J.os,J.bare,J.base,J.hok,rv,q⟩
noncomputable def CO (i n:Nat) (O8:Str→Option (Nat×(List D→M D))) (τ:DS) (ds:List D):M D:=match τ[i]? with
 | some (some (.pY y caps))=>match O8 y with
  | some (c,mf)=>if ds.length=n∧caps.length=c then mf (ds++caps) else M.stop
  | none=>M.stop
 | _=>M.stop
noncomputable def Ai (i n:Nat) (O8:Str→Option (Nat×(List D→M D))) (m:DS→M (List D)):DS→M D:=λτ G=>match τ[i]? with
 | some (some (.pY _ _))=>((m τ).bind (CO i n O8 τ)) G
 | _=>.stuck
section
variable {X:Cx} {CX:yE} {EE:gA} {k n:Nat} {x:Str} {p pos:Pos} {e:Expr} {es:List Expr} {m:DS→M (List D)}
theorem Lx {pins:List (Addr×Obj)} {σ:L2.St} {H:Hp} {s:Shared} {Q:VK} {us:List Value} {vs xs:List V} {τ:DS} {ρ:List Addr} {G:DH} {ds caps:List D} {a:Addr} {cs:List Addr} (F:Eu X.prog X.w X.K X.mg X.base CX k JQ n mf) (hr:iH k X.A)
  (hx:OR CX X EE) (I:Inv X pins σ H s) (r:Vals vs us) (ab:Ab X.K X.mg σ H τ ρ G) (rs:aC X.K X.mg ρ H ds vs) (hn:ds.length=n) (hca:yb H JQ a cs) (hce:gU H cs xs) (rc:aC X.K X.mg ρ H caps xs) (ok:pA X.K X.mg EE H σ τ ρ (mf (ds++caps) G) Q):wpAny (model X.prog X.w) X.A (call (.ref a) us) (EP X pins σ Q) X.xe s:=by
 have h:bJ X.K X.mg (n+JQ.names.length) mf (vs++xs) H Q (Uc X.mg EE σ):=by
  refine ⟨ds++caps,ρ,G,?_,ab.hp,rs.append rc,?_⟩
  ·rw [List.length_append,hn,rc.length,hce.len,hca.1]
  cases q:mf (ds++caps) G with
  | stuck=>rw [q] at ok;exact ok
  | ok d G'=>rw [q] at ok;exact λv H' ρ' f hp r=>ok v H' ρ' f (jR.ab ab f hp) r
  | dU c G'=>rw [q] at ok;exact λcls H' ρ' hc f hp=>⟨c,hc,ok H' ρ' f (jR.ab ab f hp)⟩
 refine wpAny_call (codeAny_mono (F X.A X.stack s H us vs xs Q (Uc X.mg EE σ) a cs hr I.lK I.os.2 hca hce r (by rw [← r.length,← rs.length,hn]) h) λr s' hq=>?_)
 cases r with
 | error e=>exact hx pins σ H s e s' I hq
 | ok fl=>
  cases fl with
  | ret u=>exact I.after hq
  | next=>exact False.elim hq
  | brk=>exact False.elim hq
  | cont=>exact False.elim hq
theorem yb.fn {cs:List Addr} (hok:pV P w H h) (hc:yb H JQ a cs):PySem.W.FnAt a h:=by
 obtain ⟨_,_,doc,pm,ctv,c,fo,_⟩:=hc
 exact ⟨_,_,_,_,(hok a _ fo).1⟩
theorem Ly {O8:Str→Option (Nat×(List D→M D))} (hN:X.N[i]?=some x) (hv:OI X.env.scope x) (hd:(x==("__debug__":Str))=false∧(x==("__classdict__":Str))=false)
  (hC:∀ y c mf,O8 y=some (c,mf)→∃ k JQ,zw X.K X.mg y=some JQ∧Eu X.prog X.w X.K X.mg X.base CX k JQ n mf∧iH k X.A) (hx:OR CX X EE)
  (ha:QA X EE (e::es) m) (h:aB (e::es)=true:=by rfl):QE X EE (.Call (.Name x p) (e::es) [] pos) (Ai i n O8 m):=by
 have h':dQ e=true∧aB es=true:=by simpa [aB] using h
 intro pins s σ H Q I hq
 obtain ⟨τ,ρ,G,ab,ok⟩:=hq
 unfold Ai at ok
 cases q:τ[i]? with
 | none=>rw [q] at ok;exact ok.elim
 | some od=>
  cases od with
  | none=>rw [q] at ok;exact ok.elim
  | some d=>
   rw [q] at ok
   cases d<;>try exact ok.elim
   rename_i y caps
   dsimp only at ok
   obtain ⟨v,ev,rv⟩:=ab.st.2 i (.pY y caps) q
   unfold Rep at rv
   obtain ⟨JQ,a,cs,xs,rfl,hk,hca,hce,rc⟩:=rv
   obtain ⟨τ1,ρ1,G1,nB,JL⟩:=pZ (m:=m) (k:=CO i n O8) ⟨τ,ρ,G,ab,ok⟩
   refine wpAny_Call_Name_kw (wpAny_mono (Fi hN hv hd.1 hd.2 pins s σ H (λv' H'=>v'=.ref a∧H'=H) I ⟨_,ev,rfl,rfl⟩) (λu s0 hu=>?_) λ_ _ z=>z)
   obtain ⟨v',H',I0,r0,rfl,rfl⟩:=hu
   cases r0
   refine PySem.W.callWith_F (hca.fn I0.hok) (gw (ha pos pins s0 σ H' _ I0 ⟨τ1,ρ1,G1,nB,JL⟩) λus s1 zz=>?_) (bR h'.1 _ _) (bY h'.2)
   obtain ⟨vs,H1,I1,r,q⟩:=zz
   obtain ⟨τ2,ρ2,G2,ds,dW,rs,bD⟩:=q
   unfold CO at bD
   cases q2:τ2[i]? with
   | none=>rw [q2] at bD;exact bD.elim
   | some od=>
    cases od with
    | none=>rw [q2] at bD;exact bD.elim
    | some d=>
     rw [q2] at bD
     cases d<;>try exact bD.elim
     rename_i y2 O9
     dsimp only at bD
     obtain ⟨v2,Yr,Ls⟩:=dW.st.2 i (.pY y2 O9) q2
     unfold Rep at Ls
     obtain ⟨acI,a2,cs2,xs2,rfl,hk2,UP,Ys,rc2⟩:=Ls
     rw [ev] at Yr
     cases Yr
     refine ⟨UP.fn I1.hok,?_⟩
     cases qt:O8 y2 with
     | none=>rw [qt] at bD;exact bD.elim
     | some z=>
      obtain ⟨c,mf⟩:=z
      rw [qt] at bD
      dsimp only at bD
      obtain ⟨k,acK,e3,F,hr⟩:=hC y2 c mf qt
      rw [hk2] at e3
      cases e3
      by_cases hn:ds.length=n∧O9.length=c
      ·rw [if_pos hn] at bD
       exact Lx F hr hx I1 r dW rs hn.1 UP Ys rc2 bD
      ·rw [if_neg hn] at bD
       exact bD.elim
end
noncomputable def Cx.held (X:Cx) (ns:List Str):Cx:={X with fn:=λx=>X.fn x&&!(ns.contains x)}
structure Lz (X:Cx) (H':Hp) (s':Shared):Prop where
 os:s'.os=X.s₀.os∧0<s'.toks
 bare:PyProof.Rows.AllBare s'.gens
 base:Un X.fs X.ex X.H₀ H' X.s₀.heap s'.heap
 hok:pV X.prog X.w H' s'.heap
noncomputable def SPF (X:Cx) (D:Ends) (fl:Flow) (s':Shared):Prop:=match fl with
 | .ret u=>∃ v H',Lz X H' s'∧RelV v u∧D.rt v H'
 | .next=>∃ σ' H',Lz X H' s'∧D.nx σ' H'
 | .brk=>∃ σ' H',D.bk σ' H'
 | .cont=>∃ σ' H',D.ct σ' H'
noncomputable def Ob (X:Cx) (EE:gA) (st:List Stmt) (m:MS):Prop:=∀ (pins:List (Addr×Obj)) (s:Shared) (σ:L2.St) (H:Hp) (D:Ends),Inv X pins σ H s→jl X.K X.mg EE m D σ H→wpAny (model X.prog X.w) X.A (execs st X.env) (SPF X D) X.xe s
section
variable {X:Cx} {EE:gA} {pins:List (Addr×Obj)} {σ:L2.St} {H:Hp} {s:Shared} {st:Stmt} {rest:List Stmt} {ms mt:MS}
theorem Lz.of (I:Inv X pins σ H s):Lz X H s:=⟨I.os,I.bare,I.base,I.hok⟩
theorem LA (h1:QS X EE st ms) (h2:Ob X EE rest mt):Ob X EE (st::rest) (bq ms mt):=by
 intro pins s σ H D I h
 refine wpAny_execs_cons (gw (h1 pins s σ H {D with nx:=jl X.K X.mg EE mt D} I (zJ h)) λf s1 q=>?_)
 cases f with
 | next=>
  obtain ⟨σ',H',I',q⟩:=q
  exact h2 pins s1 σ' H' D I' q
 | ret v=>
  obtain ⟨v,σ',H',J,r,q⟩:=q
  exact ⟨v,H',.of J,r,q⟩
 | brk=>
  obtain ⟨σ',H',J,q⟩:=q
  exact ⟨σ',H',q⟩
 | cont=>
  obtain ⟨σ',H',J,q⟩:=q
  exact ⟨σ',H',q⟩
noncomputable def vJ (y:Str):DO→Bool
 | .tab z=>z==y
 | _=>false
theorem HM {K:PySem.W.Frag} {mg:Str→Option Value} {ρ:List Addr} {τ:DS} (h:zx K mg H ρ σ τ):∀ (js:List Nat) (caps:List D),js.mapM (λj=>(τ[j]?).join)=some caps→∃ xs,aC K mg ρ H caps xs∧xs.length=js.length∧∀ (l j:Nat),js[l]?=some j→∃ x:V,xs[l]?=some x∧σ[j]?=some (some x)
 | [],caps,e=>by
  simp at e
  subst e
  exact ⟨[],.nil,rfl,λl j h=>by simp at h⟩
 | j::js,caps,e=>by
  rw [List.mapM_cons] at e
  cases q:(τ[j]?).join with
  | none=>rw [q] at e;cases e
  | some d=>
   rw [q] at e
   cases q2:js.mapM (λj=>(τ[j]?).join) with
   | none=>rw [q2] at e;cases e
   | some ds=>
    rw [q2] at e
    cases e
    obtain ⟨xs,r,hl,hx⟩:=HM h js ds q2
    have qj:τ[j]?=some (some d):=by
     cases z:τ[j]? with
     | none=>rw [z] at q;cases q
     | some o=>rw [z] at q;cases q;rfl
    obtain ⟨v,e1,rv⟩:=h.2 j d qj
    refine ⟨v::xs,.cons rv r,by simp [hl],λl j' hj=>?_⟩
    cases l with
    | zero=>
     simp at hj
     subst hj
     exact ⟨v,rfl,e1⟩
    | succ l=>exact hx l j' (by simpa using hj)
theorem Aj {H:Hp}:∀ {cs:List Addr} {xs:List V},xs.length=cs.length→(∀ (l:Nat) (c:Addr) (x:V),cs[l]?=some c→xs[l]?=some x→∃ (o:Obj) (u:Value),DM H c o∧o.data=.cell (some u)∧RelV x u)→gU H cs xs
 | [],[],_,_=>rfl
 | [],x::xs,h,_=>by simp at h
 | c::cs,[],h,_=>by simp at h
 | c::cs,x::xs,h,k=>by
  obtain ⟨o,u,h1,h2,h3⟩:=k 0 c x rfl rfl
  exact ⟨x,xs,o,u,rfl,h1,h2,h3,Aj (by simpa using h) λl c' x' e1 e2=>k (l+1) c' x' (by simpa using e1) (by simpa using e2)⟩
noncomputable def mD (H:Hp) (h:Heap) (cs:List Addr):Hp:=λb=>if b∈cs then (h.get? b).map λo=>.iU o (.own 0) else H b
theorem jx {cs:List Addr} {b:Addr} (e:b∉cs):mD H h cs b=H b:=if_neg e
theorem xC {cs:List Addr} {b:Addr} (e:b∈cs) (q:h.get? b=some o):DM (mD H h cs) b o:=by
 unfold DM mD
 rw [if_pos e,q];rfl
theorem LB {cs:List Addr} (I:Inv X pins σ H s) (hfn:∀ x,X.fn x=true) (hlen:cs.length=ns.length) (hcs:∀ (l:Nat) (y:Str),ns[l]?=some y→∃ c,cs[l]?=some c∧X.env.cells.lookup y=some c):Inv (Cx.held X ns) pins σ (mD H s.heap cs) s:=by
 have name:∀ c∈cs,∃ y∈ns,X.env.cells.lookup y=some c:=λc hc=>by
  obtain ⟨l,hl,e⟩:=List.getElem_of_mem hc
  have hl2:l<ns.length:=by nofun
  obtain ⟨c',e1,e2⟩:=hcs l ns[l] (List.getElem?_eq_getElem hl2)
  rw [List.getElem?_eq_getElem hl,e] at e1
  cases e1
  exact ⟨ns[l],List.getElem_mem hl2,e2⟩
 have hnone:∀ c∈cs,H c=none:=λc hc=>by
  obtain ⟨y,_,e⟩:=name c hc
  exact (I.qZ y c e).resolve_right λz=>by rw [hfn] at z;cases z.1
 have out:∀ {b:Addr} {u:HO},H b=some u→mD H s.heap cs b=some u:=λ{b u} e=>by
  rw [jx (λhb=>by rw [hnone b hb] at e;cases e)];exact e
 have obj:∀ c∈cs,∃ o v,s.heap.get? c=some o∧o.data=.cell v:=λc hc=>by
  obtain ⟨y,_,e⟩:=name c hc
  obtain ⟨v,o,h1,h2⟩:=I.cell y c e
  exact ⟨o,v,h1,h2⟩
 refine ⟨⟨I.ok.mod,I.ok.kind,I.ok.glob,I.ok.blt,I.ok.above,I.ok.inj,I.ok.has,λx c h e=>I.ok.S7 x c (hfn x) e,I.ok.hd,I.ok.frames,I.ok.stk,I.ok.exf,I.ok.bs,I.ok.MG,I.ok.MN,I.ok.MO,I.ok.uY,I.ok.MP⟩,I.os,I.bare,
  ⟨I.base.keep,I.base.slot,λb o e n hx=>?_,I.base.there,λb xs e=>out (I.base.tups b xs e),λb o u e=>out (I.base.rF b o u e),λb ps e=>?_⟩,I.loc,I.cell,?_,λx c e=>?_,λp hp=>?_,λb ob e=>?_,I.len⟩
 ·rw [jx (λhb=>?_)]
  ·exact I.base.free b o e n hx
  ·obtain ⟨y,_,ec⟩:=name b hb
   exact absurd (Nat.lt_of_lt_of_le (Heap.lt_size e) (I.ok.S7 y b (hfn y) ec)) (Nat.lt_irrefl _)
 ·obtain ⟨more,z⟩:=I.base.tG b ps e
  exact ⟨more,out z⟩
 ·show mD H s.heap cs X.env.locals=none
  rw [jx (λhb=>?_)]
  ·exact I.free
  ·obtain ⟨y,_,ec⟩:=name _ hb
   exact I.JT y _ ec rfl
 ·by_cases hc:c∈cs
  ·obtain ⟨o,v,h1,_⟩:=obj c hc
   obtain ⟨y,hy,ec⟩:=name c hc
   have e':X.env.cells.lookup x=some c:=e
   have hxy:x=y:=I.ok.inj x y c e' ec
   subst hxy
   refine .inr ⟨?_,o,_,xC hc h1⟩
   show (X.fn x&&!(ns.contains x))=false
   rw [List.contains_iff_mem.mpr hy]
   simp
  ·refine .inl ?_
   rw [jx hc]
   exact (I.qZ x c e).resolve_right λz=>by rw [hfn] at z;cases z.1
 ·obtain ⟨e,n,ne,nf,d⟩:=I.pin p hp
  refine ⟨e,?_,ne,nf,d⟩
  rw [jx (λhb=>?_)]
  ·exact n
  ·obtain ⟨o,v,h1,h2⟩:=obj _ hb
   rw [e] at h1
   cases h1
   exact d v h2
 ·by_cases hb:b∈cs
  ·obtain ⟨o,v,h1,h2⟩:=obj b hb
   have z:some (HO.iU o (.own 0))=some ob:=(xC (H:=H) hb h1).symm.trans e
   cases z
   exact ⟨h1,o,h1⟩
  ·rw [jx hb] at e
   exact (I.hok b ob e).stay (λc u hc q=>q) (λc q=>out q) λc xs q=>out q
end
section
variable {X:Cx} {EE:gA} {pins:List (Addr×Obj)} {σ:L2.St} {H:Hp} {s:Shared} {st:Stmt} {rest:List Stmt} {ms mt:MS}
structure Made (P c':Addr) (H:Hp) (h h':Heap) (ps ps':Array Value) (oc:Obj):Prop where
 ext:∀ b o,b≠P→h.get? b=some o→h'.get? b=some o
 tab:h'.get? P=some (PySem.W.tabObj ps')
 code:h'.get? c'=some oc
 sz:h.objs.size≤h'.objs.size
 old:(H c'=none∧h.objs.size≤c')∨H c'=some (.iU oc (.own 0))
 grow:∃ more,ps'=ps++more
noncomputable def kE (H:Hp) (P c' a:Addr) (ps':Array Value) (oc fo:Obj):Hp:=upd (upd (upd H P (.uX ps')) c' (.iU oc (.own 0))) a (.iU fo (.own 0))
theorem BS {P:Addr} {ps:Array Value} (M:Made P c' H h h' ps ps' oc) (hok:pV Pg w H h) (ha:a=h'.objs.size) (eP:H P=some (.uX ps)) {b:Addr} {u:HO} (e:H b=some u) (hb:b≠P):kE H P c' a ps' oc fo b=some u:=by
 have hba:b≠a:=λz=>by
  have:=hok.fresh (a:=b) (by rw [z,ha];exact M.sz)
  rw [this] at e;cases e
 unfold kE
 rw [aI hba]
 by_cases hbc:b=c'
 ·subst hbc
  rcases M.old with ⟨z,_⟩ | z
  ·rw [z] at e;cases e
  ·rw [ck,← e,z]
 ·rw [aI hbc,aI hb];exact e
theorem LC {P:Addr} {ps:Array Value} (I:Inv X pins σ H s) (M:Made P c' H s.heap h' ps ps' oc) (eP:H P=some (.uX ps)) (ht:0<t') (hfo:fo.isFreed=false) :
  Inv X pins σ (kE H P c' h'.objs.size ps' oc fo) {s with heap:=h'.push fo,toks:=t'}:=by
 have hca:c'≠h'.objs.size:=Nat.ne_of_lt (Heap.lt_size M.code)
 have Yt:P<s.heap.objs.size:=I.hok.lt eP
 have hPa:P≠h'.objs.size:=Nat.ne_of_lt (Nat.lt_of_lt_of_le Yt M.sz)
 have Yu:c'≠P:=by
  rintro rfl
  rcases M.old with ⟨z,_⟩ | z
  ·rw [eP] at z;cases z
  ·rw [eP] at z;cases z
 have Ew:∀ {b:Addr} {u:HO},H b=some u→b≠P→kE H P c' h'.objs.size ps' oc fo b=some u:=λe hb=>BS M I.hok rfl eP e hb
 have UQ:kE H P c' h'.objs.size ps' oc fo P=some (.uX ps'):=by
  unfold kE
  rw [aI hPa,aI (Ne.symm Yu),ck]
 have atC:kE H P c' h'.objs.size ps' oc fo c'=some (.iU oc (.own 0)):=by
  unfold kE
  rw [aI hca,ck]
 have WM:kE H P c' h'.objs.size ps' oc fo h'.objs.size=some (.iU fo (.own 0)):=ck
 have pP:(h'.push fo).get? P=some (PySem.W.tabObj ps'):=Heap.get?_push_of_some _ M.tab
 have keep:∀ b o,b≠P→s.heap.get? b=some o→(h'.push fo).get? b=some o:=λb o hb e=>Heap.get?_push_of_some _ (M.ext b o hb e)
 refine I.step (g':=s.gens) (d':=s.drawn) (t':=t') (ch:=[]) (λ_ z=>nomatch z) (λb o hL hb _ e n=>keep b o (λz=>by rw [z,eP] at n;cases n) e) (λb o hL hb _ e n=>⟨o.slots,keep b o (λz=>by rw [z,eP] at n;cases n) e⟩) (λb o _ e n=>?_) (λb o _ e=>?_) (λb xs e=>Ew e λz=>by rw [z,eP] at e;cases e) (λb o u e=>Ew e λz=>by rw [z,eP] at e;cases e) (λb qs e=>?_) (λm hn=>?_) (λb ob e=>?_) I.bare ht
 ·have K2:=Heap.lt_size e
  have h1:b≠h'.objs.size:=Nat.ne_of_lt (Nat.lt_of_lt_of_le K2 M.sz)
  have h2:b≠c':=by
   rintro rfl
   rcases M.old with ⟨_,z⟩ | z
   ·exact absurd (Nat.lt_of_lt_of_le K2 z) (Nat.lt_irrefl _)
   ·rw [n] at z;cases z
  have h3:b≠P:=λz=>by rw [z,eP] at n;cases n
  unfold kE
  rw [aI h1,aI h2,aI h3];exact n
 ·by_cases hb:b=P
  ·exact ⟨_,hb▸pP⟩
  ·exact ⟨o,keep b o hb e⟩
 ·by_cases hb:b=P
  ·subst hb
   rw [eP] at e
   cases e
   obtain ⟨more,z⟩:=M.grow
   exact ⟨more,by rw [UQ,z]⟩
  ·exact ⟨#[],by rw [Ew e hb];simp⟩
 ·have hLP:X.env.locals≠P:=λz=>by
   have:=I.free
   rw [z,eP] at this;cases this
  exact (hn.extBut (λb o hb e=>M.ext b o hb e) hLP).push _
 ·by_cases hbA:b=h'.objs.size
  ·subst hbA
   rw [WM] at e
   cases e
   exact ⟨Heap.get?_push_size _ hfo,_,Heap.get?_push_size _ hfo⟩
  ·by_cases hbC:b=c'
   ·subst hbC
    rw [atC] at e
    cases e
    exact ⟨Heap.get?_push_of_some _ M.code,_,Heap.get?_push_of_some _ M.code⟩
   ·by_cases Pa:b=P
    ·subst Pa
     rw [UQ] at e
     cases e
     exact pP
    ·have e':H b=some ob:=by
      unfold kE at e
      rw [aI hbA,aI hbC,aI Pa] at e;exact e
     refine (I.hok b ob e').stay (λc u hc q=>keep c u (λz=>?_) q) (λc q=>Ew q λz=>by rw [z,eP] at q;cases q) λc xs q=>Ew q λz=>by rw [z,eP] at q;cases q
     rcases hc with rfl | hc
     ·exact Pa z
     ·rw [z,eP] at hc;cases hc
theorem Jk (hG:G.any (vJ y)=true):∃ t:Nat,G[t]?=some (.tab y):=by
 obtain ⟨o,hm,ho⟩:=List.any_eq_true.mp hG
 obtain ⟨t,htl,hte⟩:=List.getElem_of_mem hm
 refine ⟨t,?_⟩
 rw [List.getElem?_eq_getElem htl,hte]
 cases o with
 | tab z=>rw [show z=y from beq_iff_eq.mp ho]
 | lst _=>cases ho
 | _=>cases ho
structure LD (X:Cx) (k:oO) (y:Str) (js:List Nat) (cs:List Addr) (c P:Addr):Prop where
 hk:zw X.K X.mg y=some k
 hcode:X.env.code=.ref c
 htab:PySem.W.tabIn X.K y=some (c,P)
 hC:PySem.W.CodeHd X.base c P
 hB:X.base.BuiltinsAt X.mg P
 hcl:closureFor k.scope X.env=pure (k.names.zip cs)
 hlen:cs.length=k.names.length
 hnd:cs.Nodup
 hcs:∀ (l:Nat) (z:Str),k.names[l]?=some z→∃ d,cs[l]?=some d∧X.env.cells.lookup z=some d
 hjs:js.length=k.names.length
 hjn:∀ (l j:Nat) (z:Str),js[l]?=some j→k.names[l]?=some z→X.N[j]?=some z
 hcell:∀ z∈k.names,X.env.scope.names.lookup z=some .cell
 hfn:∀ x,X.fn x=true
theorem Jl {k:oO} {cs:List Addr} {P:Addr} {t:Nat} {ps:Array Value} {doc pm ctv:Value} (T:LD X k y js cs c P) (I:Inv X pins σ H s) (ab:Ab X.K X.mg σ H τ ρ G)
  (gt:G[t]?=some (.tab y)) (eρ:ρ[t]?=some P) (eP:H P=some (.uX ps)) (hcap:js.mapM (λj=>(τ[j]?).join)=some caps) (htk:0<tk) (M:Made P c' H s.heap h' ps ps' oc) (hd:oc.data=.fields ws) (hv:ws[1]?=some (.str k.qual tz)) (RA:ps'=#[PySem.rawInt k.pos.line,PySem.rawInt k.pos.col,.ref c']) :
  ∃ H2,Inv (Cx.held X k.names) pins σ H2 {s with heap:=h'.push (kI k cs doc pm c' ctv),toks:=tk}∧fh X.K H H2 ρ ρ∧jR X.K X.mg H2 ρ G∧Rep X.K X.mg ρ H2 (.pY y caps) (.ref h'.objs.size):=by
 obtain ⟨hk,hcode,htab,hC,hB,hcl,hlen,hnd,hcs,hjs,hjn,hcell,hfn⟩:=T
 obtain ⟨xs,UR,hxl,hx⟩:=HM ab.st js caps hcap
 have I1:=LC (fo:=kI k cs doc pm c' ctv) I M eP htk rfl
 have Ew:∀ {b:Addr} {u:HO},H b=some u→b≠P→kE H P c' h'.objs.size ps' oc (kI k cs doc pm c' ctv) b=some u:=λe hb=>BS M I.hok rfl eP e hb
 have hca:c'≠h'.objs.size:=Nat.ne_of_lt (Heap.lt_size M.code)
 have Yt:P<s.heap.objs.size:=I.hok.lt eP
 have hPa:P≠h'.objs.size:=Nat.ne_of_lt (Nat.lt_of_lt_of_le Yt M.sz)
 have Yu:c'≠P:=by
  rintro rfl
  rcases M.old with ⟨z,_⟩ | z
  ·rw [eP] at z;cases z
  ·rw [eP] at z;cases z
 have UQ:kE H P c' h'.objs.size ps' oc (kI k cs doc pm c' ctv) P=some (.uX ps'):=by
  unfold kE
  rw [aI hPa,aI (Ne.symm Yu),ck]
 have atC:kE H P c' h'.objs.size ps' oc (kI k cs doc pm c' ctv) c'=some (.iU oc (.own 0)):=by
  unfold kE
  rw [aI hca,ck]
 have WM:kE H P c' h'.objs.size ps' oc (kI k cs doc pm c' ctv) h'.objs.size=some (.iU (kI k cs doc pm c' ctv) (.own 0)):=ck
 generalize kE H P c' h'.objs.size ps' oc (kI k cs doc pm c' ctv)=H1 at I1 Ew UQ atC WM
 generalize hs1:({s with heap:=h'.push (kI k cs doc pm c' ctv),toks:=tk}:Shared)=s1 at I1 ⊢
 have I3:=LB (ns:=k.names) I1 hfn hlen hcs
 have US:∀ d∈cs,H1 d=none:=λd hdm=>by
  obtain ⟨l,hl,e⟩:=List.getElem_of_mem hdm
  have hl2:l<k.names.length:=by nofun
  obtain ⟨d',e1,e2⟩:=hcs l k.names[l] (List.getElem?_eq_getElem hl2)
  rw [List.getElem?_eq_getElem hl,e] at e1
  cases e1
  exact (I1.qZ _ _ e2).resolve_right λz=>by rw [hfn] at z;cases z.1
 have out:∀ {b:Addr} {u:HO},H1 b=some u→mD H1 s1.heap cs b=some u:=λ{b u} e=>by
  rw [jx (λhb=>by rw [US b hb] at e;cases e)];exact e
 have LF:∀ {b:Addr} {u:HO},H b=some u→b≠P→mD H1 s1.heap cs b=some u:=λe hb=>out (Ew e hb)
 have fut:fh X.K H (mD H1 s1.heap cs) ρ ρ:=by
  refine ⟨λb zs hh=>?_,λb q u hh=>LF hh λz=>(by rw [z,eP] at hh;cases hh),⟨[],by simp⟩,λb φ hh=>LF hh λz=>(by rw [z,eP] at hh;cases hh)⟩
  rcases hh with (hh | ⟨q,hh⟩) | hh
  ·exact .inl (.inl (LF hh λz=>by rw [z,eP] at hh;cases hh))
  ·exact .inl (.inr ⟨q,LF hh λz=>by rw [z,eP] at hh;cases hh⟩)
  ·exact .inr hh
 have LG:w6 (mD H1 s1.heap cs) c' k.qual:=⟨oc,ws,tz,out atC,hd,hv⟩
 have JP:jR X.K X.mg (mD H1 s1.heap cs) ρ G:=by
  refine ⟨ab.hp.hl,ab.hp.nd,λn ob e=>?_⟩
  obtain ⟨a',e1,r⟩:=ab.hp.ob n ob e
  by_cases ha':a'=P
  ·subst ha'
   have hnt:n=t:=by
    obtain ⟨l1,q1⟩:=List.getElem?_eq_some_iff.mp e1
    obtain ⟨l2,q2⟩:=List.getElem?_eq_some_iff.mp eρ
    exact (List.getElem_inj ab.hp.nd).mp (q1.trans q2.symm)
   subst hnt
   rw [gt] at e
   cases e
   exact ⟨a',e1,ps',c,k,out UQ,htab,hk,.inr ⟨c',RA,LG⟩⟩
  ·exact ⟨a',e1,r.mono fut λu q=>LF q ha'⟩
 have hce:gU (mD H1 s1.heap cs) cs xs:=by
  refine Aj (by rw [hxl,hjs,hlen]) λl d x e1 e2=>?_
  have hl:l<js.length:=by
   have:=(List.getElem?_eq_some_iff.mp e2).1
   nofun
  have hl2:l<k.names.length:=by nofun
  obtain ⟨x',e3,e4⟩:=hx l js[l] (List.getElem?_eq_getElem hl)
  rw [e2] at e3
  cases e3
  have nm:=hjn l js[l] k.names[l] (List.getElem?_eq_getElem hl) (List.getElem?_eq_getElem hl2)
  have kc:=hcell k.names[l] (List.getElem_mem hl2)
  obtain ⟨m,_,hlk⟩:=I1.loc
  obtain ⟨u,ru,lk⟩:=hlk js[l] k.names[l] x nm e4 (.inr (.inl kc))
  rcases lk with ⟨kk,_⟩ | ⟨_,d',e5,oc',e6,e7⟩
  ·have kk':X.env.scope.names.lookup k.names[l]=some .local:=kk
   rw [kc] at kk';cases kk'
  ·obtain ⟨d2,e8,e9⟩:=hcs l k.names[l] (List.getElem?_eq_getElem hl2)
   rw [e1] at e8
   cases e8
   rw [e9] at e5
   cases e5
   exact ⟨oc',u,xC (List.mem_of_getElem? e1) e6,e7,ru⟩
 refine ⟨_,I3,fut,JP,?_⟩
 unfold Rep
 exact ⟨k,_,cs,xs,rfl,hk,⟨hlen,hnd,doc,pm,ctv,c',out WM,LG⟩,hce,UR.mono fut⟩
theorem Jm {k:oO} {cs:List Addr} {P:Addr} (T:LD X k y js cs c P) (I:Inv X pins σ H s) (ab:Ab X.K X.mg σ H τ ρ G) (hG:G.any (vJ y)=true) :
  ∃ (t:Nat) (ps:Array Value),G[t]?=some (.tab y)∧ρ[t]?=some P∧H P=some (.uX ps)∧s.heap.get? P=some (PySem.W.tabObj ps)∧PySem.W.CodeHd s.heap c P∧s.heap.Ns mainGlobals X.mg∧mainGlobals≠P∧s.heap.BuiltinsAt X.mg P ∧
   (ps=#[]∨∃ (c':Addr) (oc:Obj) (ws:Array Value) (tz:Tok),ps=#[PySem.rawInt k.pos.line,PySem.rawInt k.pos.col,.ref c']∧H c'=some (.iU oc (.own 0))∧s.heap.get? c'=some oc∧oc.data=.fields ws∧ws[1]?=some (.str k.qual tz)):=by
 obtain ⟨t,gt⟩:=Jk hG
 obtain ⟨P',eρ,ps,c0,k0,eP,et,ek,hps⟩:=ab.hp.ob t _ gt
 rw [T.htab] at et
 cases et
 rw [T.hk] at ek
 cases ek
 have hP:s.heap.get? P=some (PySem.W.tabObj ps):=I.hok P _ eP
 have hg:s.heap.Ns mainGlobals X.mg:=I.ok.mod.glob.keeps I.bk
 refine ⟨t,ps,gt,eρ,eP,hP,T.hC.keeps I.bk,hg,λz=>?_,?_,?_⟩
 ·obtain ⟨o,es,ep,e,hd,_⟩:=hg
  rw [z,hP] at e;cases e;cases hd
 ·obtain ⟨bm,o,b1,b2,b3,b4,b5,b6⟩:=T.hB
  exact ⟨bm,o,b1,b2,b3,b4,I.bk _ _ b5,b6⟩
 ·rcases hps with rfl | ⟨c',rfl,oc,ws,tz,fc,hd,hv⟩
  ·exact .inl rfl
  ·exact .inr ⟨c',oc,ws,tz,rfl,fc,(I.hok c' _ fc).1,hd,hv⟩
noncomputable def WN (X:Cx) (ns:List Str) (EE:gA) (e:Expr) (m:DS→M D):Prop:=∀ (pins:List (Addr×Obj)) (s:Shared) (σ:L2.St) (H:Hp) (Q:VK),Inv X pins σ H s→cS X.K X.mg EE m σ H Q→wpAny (model X.prog X.w) X.A (eval e X.env) (EP (Cx.held X ns) pins σ Q) X.xe s
noncomputable def WO (X:Cx) (ns:List Str) (EE:gA) (es:List Expr) (m:DS→M (List D)):Prop:=∀ (pos:Pos) (pins:List (Addr×Obj)) (s:Shared) (σ:L2.St) (H:Hp) (Q:List V→Hp→Prop),Inv X pins σ H s→ny X.K X.mg EE m σ H Q→wpAny (model X.prog X.w) X.A (spliced (backTo pos (starEach es X.env))) (AP (Cx.held X ns) pins σ Q) X.xe s
noncomputable def LH (y:Str) (js:List Nat):DS→M D:=λτ G=>if G.any (vJ y)=true then match js.mapM (λj=>(τ[j]?).join) with
 | some caps=>.ok (.pY y caps) G
 | none=>.stuck
 else .stuck
theorem Oc {k:oO} {cs:List Addr} {P:Addr} {bd:Expr} (he:e=.Lambda k.params bd k.scope k.pos) (hbd:k.body=.expr bd) (hnm:k.name="<lambda>") (T:LD X k y js cs c P) (hdef:defaultsOf k.params X.env=([],[])) (hq:X.env.qual++"<lambda>"=k.qual):WN X k.names EE e (LH y js):=by
 subst he
 intro pins s σ H Q I h
 obtain ⟨τ,ρ,G,ab,ok⟩:=h
 unfold LH at ok
 by_cases hG:G.any (vJ y)=true
 ·rw [if_pos hG] at ok
  cases hcap:js.mapM (λj=>(τ[j]?).join) with
  | none=>rw [hcap] at ok;exact ok.elim
  | some caps=>
   rw [hcap] at ok
   dsimp only at ok
   obtain ⟨t,ps,gt,eρ,eP,hP,hC',hg,hgP,hB',hps⟩:=Jm T I ab hG
   have UT:∀ (pm ctv:Value) (c':Addr),PySem.W.kla_obj "<lambda>" k.qual k.params bd k.scope (k.names.zip cs) pm c' ctv=kI k cs .none pm c' ctv:=λpm ctv c'=>by unfold kI DL;rw [hbd,hnm]
   have fin:∀ (h':Heap) (tk:Nat) (c':Addr) (pm ctv:Value) (ps':Array Value) (oc:Obj) (ws:Array Value) (tz:Tok),0<tk→Made P c' H s.heap h' ps ps' oc→oc.data=.fields ws→ws[1]?=some (.str k.qual tz) →
     ps'=#[PySem.rawInt k.pos.line,PySem.rawInt k.pos.col,.ref c']→EP (Cx.held X k.names) pins σ Q (.ref h'.objs.size) {s with heap:=h'.push (kI k cs .none pm c' ctv),toks:=tk}:=by
    intro h' tk c' pm ctv ps' oc ws tz htk M hd hv RA
    obtain ⟨H2,I3,fut,JP,rcl⟩:=Jl (doc:=.none) (pm:=pm) (ctv:=ctv) T I ab gt eρ eP hcap htk M hd hv RA
    exact ⟨.ref h'.objs.size,H2,I3,rfl,ok _ H2 ρ fut ⟨ab.st.mono fut,JP⟩ rcl⟩
   refine PySem.W.kla_eval hdef ?_
   rw [hq]
   rcases hps with rfl | ⟨c',oc,ws,tz,rfl,fc,RB,hd,hv⟩
   ·refine nt I.os.2 (PySem.W.kla_makeFunction (mg:=X.mg) T.hcl I.ok.glob hg T.hcode hC' hP trivial rfl hgP hB' λc' ctv h' tk hx hge hlt hrec htb=>λhtk=>?_)
    obtain ⟨c₂,oc,ws,tz,e2,hoc,hd,hv⟩:=hrec
    cases e2
    rw [UT]
    exact fin h' tk c' _ ctv _ oc ws tz htk ⟨λb o hb e=>hx b o hb e,htb,hoc,Nat.le_trans hge (Nat.le_of_lt hlt),.inl ⟨I.hok.fresh hge,hge⟩,⟨_,rfl⟩⟩ hd hv (by simp)
   ·refine nt I.os.2 (PySem.W.kla_makeFunctionHit (mg:=X.mg) (cv:=.ref c') T.hcl I.ok.glob hg T.hcode hC' hP trivial (by simp [codeAmong,PySem.rawInt]) hB' λctv h' tk hkp hsz=>λhtk=>?_)
    have:=fin h' tk c' ((X.mg "__name__").getD .none) ctv _ oc ws tz htk ⟨λb o _ e=>hkp b o e,hkp _ _ hP,hkp _ _ RB,hsz,.inr fc,⟨#[],by simp⟩⟩ hd hv rfl
    rw [← UT] at this
    exact this
 ·rw [if_neg hG] at ok
  exact ok.elim
theorem Ak {Q:List V→Hp→Prop} (h:ny X.K X.mg EE (af m r) σ H Q):GR (cS X.K X.mg EE m) (ny X.K X.mg EE r) σ H Q:=by
 obtain ⟨τ,ρ,G,ab,ok⟩:=Kf (k:=λτ x=>(r τ).bind λxs=>M.ret (x::xs)) h
 refine ⟨τ,ρ,G,ab,?_⟩
 cases e:m τ G with
 | stuck=>rw [e] at ok;exact ok
 | dU c G'=>rw [e] at ok;exact ok
 | ok d G'=>
  rw [e] at ok
  intro v H' ρ' f' di r'
  obtain ⟨τ2,ρ2,G2,d2,dW,r2,bD⟩:=ok v H' ρ' f' di r'
  refine ⟨τ2,ρ2,G2,dW,?_⟩
  dsimp only [M.bind] at bD
  cases e2:r τ2 G2 with
  | stuck=>rw [e2] at bD;exact bD
  | dU c G'=>rw [e2] at bD;exact bD
  | ok d3 G3=>
   rw [e2] at bD
   exact λv3 H3 ρ3 f3 yZ r3=>bD (v::v3) H3 ρ3 f3 yZ (.cons (r2.mono f3) r3)
theorem Ex (ha:QE X EE e m) (h:dQ e=true) (hr:WO X ns EE es r):WO X ns EE (e::es) (af m r):=by
 intro pos pins s σ H Q I hq
 rw [bR h]
 show wpAny _ _ (spliced ((false,eval e X.env)::backTo pos (starEach es X.env))) _ _ s
 refine Calls.spliced_cons (gw (ha pins s σ H _ I (Ak hq)) λu s1 zz=>?_)
 obtain ⟨x,H1,I1,r1,q1⟩:=zz
 exact gw (hr pos pins s1 σ H1 _ I1 q1) λus s2 zz=>by obtain ⟨xs,H2,I2,r2,q2⟩:=zz;exact ⟨x::xs,H2,I2,.cons r1 r2,q2⟩
theorem Od (ha:WN X ns EE e m) (h:dQ e=true):WO X ns EE [e] (af m aq):=by
 intro pos pins s σ H Q I hq
 rw [bR h]
 show wpAny _ _ (spliced ((false,eval e X.env)::backTo pos (starEach [] X.env))) _ _ s
 refine Calls.spliced_cons (gw (ha pins s σ H _ I (Ak hq)) λu s1 zz=>?_)
 obtain ⟨x,H1,I1,r1,q1⟩:=zz
 have hn:PA (Cx.held X ns) [] M4:=Fx
 have q1':M4 σ H1 λxs H2=>Q (x::xs) H2:=by
  obtain ⟨τ,ρ,G,ab,ok⟩:=q1
  exact ok [] H1 ρ .refl ab .nil
 exact gw (hn pos pins s1 σ H1 _ I1 q1') λus s2 zz=>by obtain ⟨xs,H2,I2,r2,q2⟩:=zz;exact ⟨x::xs,H2,I2,.cons r1 r2,q2⟩
theorem LI {CX:yE} {k:Nat} {f:Addr} {ps:List Str} {p pos:Pos} {m:DS→M (List D)} (F:bV X.prog X.w X.K X.mg X.base CX k f fd ps (bJ X.K X.mg n mf)) (hr:iH k X.A) (hm:X.mg x=some (.ref f)) (hk:PySem.W.keepIn X.K (.ref f)=true) (hb:Binds X.K fd ps []) (hx:OR CX (Cx.held X ns) EE) (hg:Gl X x)
  (hd:(x==("__debug__":Str))=false∧(x==("__classdict__":Str))=false) (ha:WO X ns EE (e::es) m) (h:aB (e::es)=true:=by rfl):WN X ns EE (.Call (.Name x p) (e::es) [] pos) (bL n mf m):=by
 have h':dQ e=true∧aB es=true:=by simpa [aB] using h
 intro pins s σ H Q I hq
 obtain ⟨τ1,ρ1,G1,nB,JL⟩:=pZ (k:=λ_ ds=>if ds.length=n then mf ds else M.stop) hq
 refine wpAny_Call_Name_kw (wpAny_mono (GQ hg hm (v:=.ref f) rfl hd.1 pins s σ H (λv' H'=>v'=.ref f∧H'=H) I ⟨rfl,rfl⟩) (λu s0 hu=>?_) λ_ _ z=>z)
 obtain ⟨v',H',I0,r0,rfl,rfl⟩:=hu
 cases r0
 refine PySem.W.callWith_K (h₀:=X.base) I0.ok.mod.MM hk (gw (ha pos pins s0 σ H' _ I0 ⟨τ1,ρ1,G1,nB,JL⟩) λus s1 ⟨vs,H1,I1,r,q⟩=>⟨I1.Ff,?_⟩) (bR h'.1 _ _) (bY h'.2)
 obtain ⟨τ2,ρ2,G2,ds,dW,rs,bD⟩:=q
 by_cases hn:ds.length=n
 ·rw [if_pos hn] at bD
  exact Cv (X:=Cx.held X ns) F hr hb hx I1 r dW rs hn bD
 ·rw [if_neg hn] at bD
  exact bD.elim
theorem Oe (hN:X.N.Nodup) (hi:X.N[i]?=some x) (hloc:X.env.scope.names.lookup x=some .local) (he:WN X ns EE e m) (h2:FF (Cx.held X ns) EE rest mt) (hs:swapsWith e (some (.Name x pos')) pos.line X.env=pure false) :
  Ob X EE (.Assign [.Name x pos'] e pos::rest) (bq (bP i m) mt):=by
 intro pins s σ H D I h
 obtain ⟨τ,ρ,G,ab,ok⟩:=zJ h
 have hl:cS X.K X.mg EE m σ H λv H'=>jl X.K X.mg EE mt D (σ.set i (some v)) H':=by
  have h3:jl X.K X.mg EE (bP i m) {D with nx:=jl X.K X.mg EE mt D} σ H:=⟨τ,ρ,G,ab,ok⟩
  obtain ⟨τ,ρ,G,ab,ok⟩:=zy (k:=λτ d G=>.nx (τ.set i (some d)) G) h3
  refine ⟨τ,ρ,G,ab,?_⟩
  cases e:m τ G with
  | stuck=>rw [e] at ok;exact ok
  | dU c G'=>rw [e] at ok;exact ok
  | ok d G'=>
   rw [e] at ok
   intro v H' ρ' f' di r'
   obtain ⟨τ2,ρ2,G2,d2,dW,r2,bD⟩:=ok v H' ρ' f' di r'
   exact bD _ H' ρ2 .refl ⟨dW.st.set r2,dW.hp⟩
 refine wpAny_execs_cons (wpAny_Assign_Name (gw (he pins s σ H _ I hl) λv s1 zz=>?_) hs)
 obtain ⟨y,H1,I1,r1,q1⟩:=zz
 refine wR (X:=Cx.held X ns) I1 hN hi (.inl hloc) r1 (λs2 I2 _=>?_) (.inr hloc)
 refine gw (h2 pins s2 _ H1 D I2 q1) λfl s' hs=>?_
 cases fl with
 | next=>
  obtain ⟨σ',H',J,q⟩:=hs
  exact ⟨σ',H',⟨J.os,J.bare,J.base,J.hok⟩,q⟩
 | ret u=>
  obtain ⟨v,σ',H',J,rv,q⟩:=hs
  exact ⟨v,H',⟨J.os,J.bare,J.base,J.hok⟩,rv,q⟩
 | brk=>
  obtain ⟨σ',H',J,q⟩:=hs
  exact ⟨σ',H',q⟩
 | cont=>
  obtain ⟨σ',H',J,q⟩:=hs
  exact ⟨σ',H',q⟩
end
section
variable {P:Program} {w:World} {K:PySem.W.Frag} {mg:Str→Option Value} {base:Heap} {f:Addr} {fd:FuncData}
theorem Yv {st:Stmt} {ps:List Str} {k:Nat} {m:List D→M D} {c Pt:Addr} (F:vc K x qual st f fd) (S:cX N ps (aa st)) (hps:ps.length=n) (hN:N.length=nn) (hm:∀ ds G,m ds G=yf (dR nn ms ds G))
  (htab:PySem.W.tabIn K x=some (c,Pt)) (hmx:mg x=some (.ref f))
  (hbody:∀ (X:Cx) (EE:gA) (A:Around) (outer:List Env) (s:Shared) (H:Hp) (E:XK),X=jO (eO P w) P w K mg base N qual (aa st) f (.ref c) A outer s H E→iH k (A.deeper (PyProof.Rows.envOfC qual (aa st) s.heap.objs.size f (.ref c))) →
   oQ X EE→(∀ ns,oQ (Cx.held X ns) EE)→PassesOwn (model P w) X.A X.env X.xe→Ob X EE (aD st) ms) :
  bV P w K mg base (eO P w) (k+1) f fd ps (bJ K mg n m):=by
 subst hps hN
 obtain ⟨oc,od,kV,doc,pm,an,cdv,ct,osl,rfl,lk,hcd⟩:=F.ex
 refine ⟨λvs H Q E h=>h.len,λA outer s H args us vs Q E hr e0 htk hb r GS=>?_⟩
 have hc:cdv=.ref c:=PySem.W.law_code e0.mod.MM e0.mod.glob htab hmx (e0.mod.MM _ _ lk) rfl
 subst hc
 have hl:=GS.len
 obtain ⟨ds,ρ,G,hn,hp,rs,ok⟩:=GS
 have KX:K.In s.heap:=e0.mod.MM.keeps λb o e=>(e0.bs b o e).1
 have lim:s.heap.NoLimit:=e0.mod.nolimit.keeps λb o e=>(e0.bs b o e).1
 have hkind:∀ y∈ps.zip us,(aa st).names.lookup y.1=some .local∨((aa st).names.lookup y.1=some .cell∧((cellsFrom (s.heap.objs.size+1) (aa st).names []).lookup y.1).isSome=true):=λ⟨n,v⟩ hy=>by
  rcases S.par n (List.of_mem_zip hy).1 with q | q
  ·exact .inl q
  ·exact .inr ⟨q,PySem.W.cellsFrom_some _ _ _ (.inl q)⟩
 refine codeAny_call_function hr.depth (KX _ _ lk) rfl S.co S.gen rfl (PySem.W.codeRec_of KX hcd) (hb _ _ _ _ ?_)
 refine nt htk (wpAny_newFunctionEnv_cells S.kind hkind λenv he s1 x=>λQw=>?_)
 subst he
 refine ⟨lim.keeps x.toInCall.keep,codeAny_func ?_⟩
 have hB:=hbody _ (λ_ _ _=>False) A outer s H E rfl (hr.deeper _) (λ_ _ _ _ _ _ _ _ _ _ z=>z.elim) (λ_ _ _ _ _ _ _ _ _ _ _ z=>z.elim) PassesOwn.leaving
 have I:Inv (jO (eO P w) P w K mg base N qual (aa st) f (.ref c) A outer s H E) [] (L2.start N vs) H s1:=Bx S hr.hd e0 hl r x (n:=s1.toks) Qw
 have hq:jl K mg (λ_ _ _=>False) ms {nx:=λ_ H'=>Q .i9 H',rt:=Q} (L2.start N vs) H:=by
  refine ⟨ds.map some++List.replicate (N.length - ds.length) none,ρ,G,⟨p9 rs,hp⟩,?_⟩
  rw [hm] at ok
  dsimp only [dR] at ok
  cases q:ms (ds.map some++List.replicate (N.length - ds.length) none) G with
  | stuck=>rw [q] at ok;exact ok
  | nx τ G'=>rw [q] at ok;exact λσ' H' ρ' f ab=>ok .i9 H' ρ' f ab.hp (by unfold Rep;rfl)
  | rt d G'=>rw [q] at ok;exact λv H' ρ' f hp r=>ok v H' ρ' f hp r
  | bk τ G'=>rw [q] at ok;exact ok.elim
  | ct τ G'=>rw [q] at ok;exact ok.elim
  | xn c τ G'=>rw [q] at ok;exact ok.elim
 refine wpAny_mono (hB [] s1 (L2.start N vs) H _ I hq) (λfl s' hs=>?_) λe s' hs=>hs
 have fin:∀ {H':Hp} {v:V} {u:Value},Lz (jO (eO P w) P w K mg base N qual (aa st) f (.ref c) A outer s H E) H' s'→RelV v u→Q v H'→CE outer P w H s Q u s':=
  λ{H' v u} J rv q=>⟨v,H',J.os,J.bare,J.base,J.hok,rv,q⟩
 cases fl with
 | ret u=>
  obtain ⟨v,H',J,rv,q⟩:=hs
  exact fin J rv q
 | next=>
  obtain ⟨σ',H',J,q⟩:=hs
  exact fin (v:=V.i9) (u:=Value.none) J rfl q
 | brk=>
  obtain ⟨_,_,q⟩:=hs
  exact False.elim q
 | cont=>
  obtain ⟨_,_,q⟩:=hs
  exact False.elim q
theorem UU {st:Stmt} {ps:List Str} {k:Nat} {m:List D→M D} (F:vc K x qual st f fd) (S:sj N ps [] (aa st)) (hps:ps.length=n) (hn0:0<n) (hN:N.length=nn) (hm:∀ ds G,m ds G=yf (dR nn ms ds G))
  (hbody:∀ (X:Cx) (EE:gA) (c:Addr) (A:Around) (outer:List Env) (s:Shared) (H:Hp) (E:XK),X=O7 (eO P w) P w K mg base N ⟨x,qual,aL st,.stmts (aD st),aa st,⟨0,0,0,0⟩,[]⟩ [] f c A outer s H E→iH k (A.deeper (Et ⟨x,qual,aL st,.stmts (aD st),aa st,⟨0,0,0,0⟩,[]⟩ [] s.heap.objs.size f c)) →
   oQ X EE→PassesOwn (model P w) X.A X.env X.xe→FF X EE (aD st) ms) :
  u0 P w K mg base (eO P w) (k+1) f fd ps (bJ K mg n m):=by
 subst hps hN
 obtain ⟨oc,od,kV,doc,pm,an,cdv,ct,osl,rfl,lk,hcd⟩:=F.ex
 refine ⟨λvs H Q E h=>h.len,λA outer s H args us vs Q E hr e0 hb r GS=>?_⟩
 have hl:=GS.len
 obtain ⟨ds,ρ,G,hn,hp,rs,ok⟩:=GS
 have KX:K.In s.heap:=e0.mod.MM.keeps λb o e=>(e0.bs b o e).1
 have lim:s.heap.NoLimit:=e0.mod.nolimit.keeps λb o e=>(e0.bs b o e).1
 have hrec:=PySem.W.codeRec_of KX hcd
 obtain ⟨c,occ,ws,t,rfl,hoc,hd,hv⟩:=id hrec
 refine codeAny_call_def (fd:=PySem.W.fnOf x qual (aL st) (aD st) (aa st) .none kV doc pm an (.ref c) ct) (body:=aD st) (binds:=ps.zip us) hr.depth (KX _ _ lk) rfl lim hrec rfl hb S.xj (λy hy=>S.par y.1 (List.of_mem_zip hy).1) (λh1 hns hk1=>?_) S.co S.gen S.kind
 have Rz:us.length=ps.length:=by rw [← r.length];exact hl
 have htk:0<s.toks+(ps.zip us).length:=by rw [List.length_zip,Rz,Nat.min_self];nofun
 have I:Inv (O7 (eO P w) P w K mg base N ⟨x,qual,aL st,.stmts (aD st),aa st,⟨0,0,0,0⟩,[]⟩ [] f c A outer s H E) [] (L2.start N (vs++[])) H {s with heap:=h1,toks:=s.toks+(ps.zip us).length}:=HL (cs:=[]) (xs:=[]) S hr.hd e0 hl r rfl List.nodup_nil rfl hns hk1 htk
 rw [List.append_nil] at I
 have hB:=hbody _ (λ_ _ _=>False) c A outer s H E rfl (hr.deeper _) (λ_ _ _ _ _ _ _ _ _ _ z=>z.elim) PassesOwn.leaving
 have hq:jl K mg (λ_ _ _=>False) ms {nx:=λ_ H'=>Q .i9 H',rt:=Q} (L2.start N vs) H:=by
  refine ⟨ds.map some++List.replicate (N.length - ds.length) none,ρ,G,⟨p9 rs,hp⟩,?_⟩
  rw [hm] at ok
  dsimp only [dR] at ok
  cases q:ms (ds.map some++List.replicate (N.length - ds.length) none) G with
  | stuck=>rw [q] at ok;exact ok
  | nx τ G'=>rw [q] at ok;exact λσ' H' ρ' f ab=>ok .i9 H' ρ' f ab.hp (by unfold Rep;rfl)
  | rt d G'=>rw [q] at ok;exact λv H' ρ' f hp r=>ok v H' ρ' f hp r
  | bk τ G'=>rw [q] at ok;exact ok.elim
  | ct τ G'=>rw [q] at ok;exact ok.elim
  | xn c τ G'=>rw [q] at ok;exact ok.elim
 refine wpAny_mono (hB [] _ (L2.start N vs) H _ I hq) (λfl s' hs=>?_) λe s' hs=>hs
 have fin:∀ {σ':St} {H':Hp} {v:V} {u:Value},Inv (O7 (eO P w) P w K mg base N ⟨x,qual,aL st,.stmts (aD st),aa st,⟨0,0,0,0⟩,[]⟩ [] f c A outer s H E) [] σ' H' s'→RelV v u→Q v H'→CE outer P w H s Q u s':=
  λ{σ' H' v u} J rv q=>⟨v,H',J.os,J.bare,J.base,J.hok,rv,q⟩
 cases fl with
 | ret u=>
  obtain ⟨v,σ',H',J,rv,q⟩:=hs
  exact fin J rv q
 | next=>
  obtain ⟨σ',H',J,q⟩:=hs
  exact fin (v:=V.i9) (u:=Value.none) J rfl q
 | brk=>
  obtain ⟨_,_,_,q⟩:=hs
  exact False.elim q
 | cont=>
  obtain ⟨_,_,_,q⟩:=hs
  exact False.elim q
end
section
open PyProof.Rows
noncomputable def HN (Pt:Addr) (H:Hp):Prop:=H Pt=some (.uX #[])∧∀ b,b≠Pt→H b=none∨∃ o xs,H b=some (.iU o (.lst xs))
theorem Jo {P:Program} {w:World} {K:PySem.W.Frag} {mg mb:Str→Option Value} {CX:yE} {k:Nat} {fa a c Pt:Addr} {fd:FuncData} {x:Str} {sp:Sp} {s₁:Shared} {vs:List Value} {ns:List Int}
  (KX:K.In s₁.heap) (hns:s₁.heap.Ns mainGlobals mg) (hb:s₁.heap.Ns builtinsNs mb) (WC:∀ x:Str,x≠"__name__"→mb x=bootBuiltins x) (hlim:s₁.heap.NoLimit) (hg:s₁.gens=#[])
  (ha:s₁.heap.get? a=some {cls:=.type "list",data:=.seq vs.toArray}) (hi:PyProof.Rows.IntsAre vs ns) (hl:ns.length≤sizeLine) (hr:iH k callerA)
  (SH:PySem.W.CodeHd s₁.heap c Pt) (SI:s₁.heap.get? Pt=some (PySem.W.tabObj #[])) (hKP:K.lookup Pt=none) (UW:s₁.heap.BuiltinsAt mg Pt)
  (F:∀ base:Heap,K.In base→base.Ns mainGlobals mg→PySem.W.CodeHd base c Pt→base.BuiltinsAt mg Pt→u0 P w K mg base CX k fa fd [x] sp) (hbind:∀ (s:Shared) (u:Value),BindsTo s fd ⟨[u],[]⟩ [(x,u)])
  (GS:∀ H:Hp,HN Pt H→Np K H a (ns.map V.int)→sp [.ref a] H (λv _=>v=.bl true) λ_ _ _=>False)
  (Yw:∀ H e s',CX [] H s₁ (λ_ _ _=>False) e s'→False) :
  codeAny (model P w) callerA (.call (.ref fa) ⟨[.ref a],[]⟩) (λr s'=>r=.ok (.ret (.bool true))∧OldK s₁.heap s'.heap∧s'.os=s₁.os∧PyProof.Rows.AllBare s'.gens) s₁:=by
 have rv:=BA hi
 have Yx:=hi.length
 have haP:a≠Pt:=λz=>by rw [z,SI] at ha;cases ha
 have core:∀ H:Hp,HN Pt H→Np K H a (ns.map V.int)→pV P w H s₁.heap→(∀ b,H b≠none→b=a∨b=Pt)→(H a≠none→K.lookup a=none) →
   codeAny (model P w) callerA (.call (.ref fa) ⟨[.ref a],[]⟩) (λr s'=>r=.ok (.ret (.bool true))∧OldK s₁.heap s'.heap∧s'.os=s₁.os∧PyProof.Rows.AllBare s'.gens) s₁:=by
  intro H hO hS hok hA hK
  have n6:∀ {b:Addr} {o:Obj},s₁.heap.get? b=some o→H b=none→(zl s₁.heap H).get? b=some o:=λe n=>JS e n
  have free:∀ {b:Addr} {o:Obj},s₁.heap.get? b=some o→o≠{cls:=.type "list",data:=.seq vs.toArray}→o≠PySem.W.tabObj #[]→H b=none:=λ{b o} e n1 n2=>by
   cases q:H b with
   | none=>rfl
   | some u=>
    rcases hA b (by rw [q];simp) with z | z
    ·rw [z,ha] at e;cases e;exact absurd rfl n1
    ·rw [z,SI] at e;cases e;exact absurd rfl n2
  have M5:∀ {b:Addr} {o:Obj} {es:Array DictEntry} {ep:Nat},s₁.heap.get? b=some o→o.data=.dict es ep→H b=none:=λ{b o es ep} e d=>free e (λz=>by rw [z] at d;cases d) λz=>by rw [z] at d;cases d
  have WQ:∀ {b:Addr} {m:Str→Option Value},s₁.heap.Ns b m→(zl s₁.heap H).Ns b m:=λ{b m} zz=>by obtain ⟨o,es,ep,e,d,r⟩:=zz;exact ⟨o,es,ep,n6 e (M5 e d),d,r⟩
  have hKb:K.In (zl s₁.heap H):=λb o e=>n6 (KX b o e) (by
   cases q:H b with
   | none=>rfl
   | some u=>
    rcases hA b (by rw [q];simp) with z | z
    ·subst z
     rw [hK (by rw [q];simp)] at e;cases e
    ·rw [z,hKP] at e;cases e)
  have hM:Mod K mg (zl s₁.heap H):=⟨hKb,WQ hns,⟨mb,WQ hb,WC⟩,let ⟨mc,h1,h2⟩:=hlim;⟨mc,WQ h1,h2⟩⟩
  have hCb:PySem.W.CodeHd (zl s₁.heap H) c Pt:=by
   obtain ⟨o,ws,file,tf,flags,tg,inF,text,tt,e,hcl,r⟩:=id SH
   exact ⟨o,ws,file,tf,flags,tg,inF,text,tt,n6 e (free e (λz=>by rw [z] at hcl;simp at hcl) λz=>by rw [z] at hcl;cases hcl),hcl,r⟩
  have hBb:(zl s₁.heap H).BuiltinsAt mg Pt:=by
   obtain ⟨bm,o,b1,b2,b3,b4,e,hcl,r⟩:=id UW
   exact ⟨bm,o,b1,b2,b3,b4,n6 e (free e (λz=>by rw [z] at hcl;simp at hcl) λz=>by rw [z] at hcl;cases hcl),hcl,r⟩
  have e0:wX P w K mg (zl s₁.heap H) callerA [] s₁ H:=⟨rfl,hM,λb o e=>MK e,Nat.le_of_eq (Iv _ _),trivial,λb hb=>absurd (show b∈([]:List Addr) from hb) (by simp),hok,.of_eq hg⟩
  refine codeAny_mono ((F _ hKb (WQ hns) hCb hBb).run callerA [] s₁ H ⟨[.ref a],[]⟩ [.ref a] [.ref a] _ _ hr e0 (hbind s₁ (.ref a)) (.cons rfl .nil) (GS H hO hS)) λr s' h=>?_
  cases r with
  | error e=>exact (Yw H e s' h).elim
  | ok fl=>
   cases fl with
   | next=>exact False.elim h
   | brk=>exact False.elim h
   | cont=>exact False.elim h
   | ret u=>
    obtain ⟨v,H',os,bare,un,UX,r',q⟩:=h
    have q':v=.bl true:=q
    subst q'
    obtain rfl:u=Value.bool true:=r'
    refine ⟨rfl,⟨λb o e=>?_,λb o e=>un.there b o e (by simp)⟩,os.1,bare⟩
    cases q:H b with
    | none=>exact .inl (un.keep b o e q (by intro z;exact absurd (show b∈([]:List Addr) from z) (by simp)) (by simp))
    | some u=>
     by_cases Pa:b=Pt
     ·subst Pa
      obtain ⟨more,z2⟩:=un.tG b _ hO.1
      have e2:s'.heap.get? b=some (PySem.W.tabObj (#[]++more)):=UX b _ z2
      rw [SI] at e
      cases e
      exact .inr (.inl ⟨(SH.tab SI).isCodeTable,rfl,#[],more,rfl,e2⟩)
     ·rcases hO.2 b Pa with z | ⟨ob,xs,z⟩
      ·rw [q] at z;cases z
      ·have z2:=un.rF b ob _ z
       obtain ⟨e1,_⟩:=hok b _ z
       obtain ⟨e2,_⟩:=UX b _ z2
       rw [e] at e1;cases e1
       exact .inl e2
 cases hk:K.lookup a with
 | some o=>
  have e:=KX a o hk
  rw [ha] at e
  cases e
  refine core (λb=>if b=Pt then some (.uX #[]) else none) ⟨if_pos rfl,λb hb=>.inl (if_neg hb)⟩ (.inr ⟨_,vs.toArray,_,hk,rfl,rfl,rfl,by rw [List.size_toArray,Yx];exact hl,by simpa using rv⟩) (λb u z=>?_) (λb z=>?_) λz=>absurd (if_neg haP) z
  ·by_cases hb:b=Pt
   ·have z':=(if_pos hb).symm.trans z
    cases z'
    subst hb
    exact SI
   ·have z':=(if_neg hb).symm.trans z
    cases z'
  ·by_cases hb:b=Pt
   ·exact .inr hb
   ·exact absurd (if_neg hb) z
 | none=>
  refine core (λb=>if b=Pt then some (.uX #[]) else if b=a then some (.iU {cls:=.type "list",data:=.seq vs.toArray} (.lst (ns.map V.int))) else none) ⟨if_pos rfl,λb hb=>?_⟩ (.inl ⟨{cls:=.type "list",data:=.seq vs.toArray},(if_neg haP).trans (if_pos rfl)⟩) (λb u z=>?_) (λb z=>?_) λ_=>hk
  ·by_cases hba:b=a
   ·exact .inr ⟨_,_,(if_neg hb).trans (if_pos hba)⟩
   ·exact .inl ((if_neg hb).trans (if_neg hba))
  ·by_cases hb:b=Pt
   ·have z':=(if_pos hb).symm.trans z
    cases z'
    subst hb
    exact SI
   ·have z0:=(if_neg hb).symm.trans z
    by_cases hba:b=a
    ·have z':=(if_pos hba).symm.trans z0
     cases z'
     subst hba
     exact ⟨ha,by rw [List.length_map];exact hl,vs,_,rv,ha⟩
    ·have z':=(if_neg hba).symm.trans z0
     cases z'
  ·by_cases hb:b=Pt
   ·exact .inr hb
   ·by_cases hba:b=a
    ·exact .inl hba
    ·exact absurd ((if_neg hb).trans (if_neg hba)) z
theorem CP (X:K.In h) (hK:PySem.W.noTabs K=true) (hP:h.get? Pt=some (PySem.W.tabObj #[])):K.lookup Pt=none:=by
 cases e:K.lookup Pt with
 | none=>rfl
 | some o=>
  have e1:=X Pt o e
  rw [hP] at e1
  cases e1
  have:=List.all_eq_true.mp hK _ (PySem.W.mem_of_lookupK e)
  cases this
theorem LJ {l:PySem.W.OpenLaw} {k:Nat} {q:Program} {d:DefRec} {K:Params→PySem.W.Frag} {CX:World→yE}
  (hn:l.most=some n) (hn2:n≤sizeLine) (hdf:d.params.defaults=[]) (hr:iH k callerA) (hrec:(recsOf q).find? (λe=>e.name==y)=some dy)
  (hY:∀ (w:World) (h:Heap),YP w h→(K w.params).In h) (hT:∀ w:World,PySem.W.noTabs (K w.params)=true)
  (F:∀ (w:World) (mg:Str→Option Value) (fa:Addr) (h:Heap),(K w.params).In h→h.Ns mainGlobals mg→mg d.name=some (.ref fa) →
   ∃ (fd:FuncData) (c Pt:Addr) (sp:Sp),PySem.W.tabIn (K w.params) y=some (c,Pt)∧(∀ (s:Shared) (u:Value),BindsTo s fd ⟨[u],[]⟩ [(x,u)]) ∧
    (∀ base:Heap,(K w.params).In base→base.Ns mainGlobals mg→PySem.W.CodeHd base c Pt→base.BuiltinsAt mg Pt→u0 l.prog w (K w.params) mg base (CX w) k fa fd [x] sp) ∧
    ∀ (H:Hp) (a:Addr) (ns:List Int),ns.length≤n→HN Pt H→Np (K w.params) H a (ns.map V.int)→sp [.ref a] H (λv _=>v=.bl true) λ_ _ _=>False)
  (Yw:∀ (w:World) (H:Hp) (s:Shared) (e:Value) (s':Shared),CX w [] H s (λ_ _ _=>False) e s'→False) :
  PySem.W.WalkO q loose XP YP l.row.toRowW d [] (λf vs=>PySem.call f vs):=by
 refine ZU.DC hn hdf λw s₀ s₁ mg mb fa o pm cd doc a vs ns G Y ho hd hcd hmg hobj hints hlen hg=>?_
 have KX:=hY w _ Y
 obtain ⟨fd,c,Pt,sp,ht,hb,hF,GS⟩:=F w mg fa _ KX G.T.g hmg
 obtain ⟨hC,hP⟩:=PySem.W.tab_of G.T KX hrec ht
 obtain ⟨bm,ob,b1,b2,b3,b4,b5,b6⟩:=G.T.bmain
 have Pa:bm≠Pt:=λz=>by rw [z,hP] at b3;cases b3;cases b4
 have hbG:bm≠mainGlobals:=λz=>by
  obtain ⟨o,es,ep,e,hd,_⟩:=G.T.g
  rw [z,e] at b3;cases b3;rw [hd] at b6;cases b6
 exact Jo KX G.T.g G.T.b G.T.builtins G.T.nolimit hg hobj hints (Nat.le_trans hlen hn2) hr hC hP (CP KX (hT w) hP) ⟨bm,ob,b1,b2,hbG,Pa,b3,b4,b5,b6⟩ hF hb (λH hO hS=>GS H a ns hlen hO hS) λH e s'=>Yw w H s₁ e s'
theorem RC {m:List D→M D} {ns:List Int} (hm:∀ ns:List Int,ns.length≤63→∃ G,m [.con (ns.map .int)] [.tab y]=.ok (.bl true) G) (hl:ns.length≤63) (ht:PySem.W.tabIn K y=some (c,Pt)) (hk:zw K mg y=some JQ) (hO:HN Pt H) (hS:Np K H a (ns.map V.int)) :
  bJ K mg 1 m [.ref a] H (λv _=>v=.bl true) λ_ _ _=>False:=by
 obtain ⟨G,e⟩:=hm ns hl
 refine ⟨[.con (ns.map .int)],[Pt],[.tab y],rfl,⟨rfl,by simp,λn o e=>?_⟩,.cons (by unfold Rep;exact ⟨a,_,rfl,hS,.ints ns⟩) .nil,?_⟩
 ·cases n with
  | zero=>
   simp at e
   subst e
   exact ⟨Pt,rfl,#[],c,JQ,hO.1,ht,hk,.inl rfl⟩
  | succ n=>simp at e
 ·rw [e]
  intro v H' ρ' _ _ r
  unfold Rep at r
  exact r
end
section
open PyProof.Rows
theorem Yy (h:Pr y0 c0 m0):∀ y c mf,List.lookup y [(y0,(c0,m0))]=some (c,mf)→Pr y c mf:=λy c mf e=>by
 rw [List.lookup_cons] at e
 cases q:(y==y0) with
 | false=>rw [q] at e;cases e
 | true=>
  rw [q] at e
  cases e
  rw [beq_iff_eq.mp q];exact h
theorem Gp {st:Stmt} {f:Addr} {k:oO} (F:vc K x qual st f fd) (hm:mg x=some (.ref f)) (h:rW qual (aD st)=some k):zw K mg x=some k:=by
 obtain ⟨oc,od,kV,doc,pm,an,cdv,ct,osl,rfl,lk,hcd⟩:=F.ex
 unfold zw
 rw [hm]
 dsimp only
 rw [lk]
 exact h
theorem LL {f:Addr} {oc:Value} {vs:Array Value} (h1:PySem.W.nsIn K mainGlobals x=some (some (.ref f))) (h2:K.lookup f=some ⟨oc,od,.func fd,sl⟩) (h3:fd.code=.ref c)
  (h4:K.lookup c=some ⟨o1,o2,.fields vs,o4⟩) (h5:vs[11]?=some (.ref Pt)):PySem.W.tabIn K x=some (c,Pt):=by
 unfold PySem.W.tabIn
 rw [h1]
 dsimp only
 rw [h2]
 dsimp only
 rw [h3]
 dsimp only
 rw [h4]
 dsimp only
 rw [h5]
end
section
open PyProof.Rows
noncomputable def BU (s:Stmt):Expr:=match s with
 | .Assign [_] (.Call _ es _ _) _=>es.getLast?.getD (.Constant .none 0 ⟨0,0,0,0⟩)
 | _=>.Constant .none 0 ⟨0,0,0,0⟩
noncomputable def Of (e:Expr):Arguments:=match e with
 | .Lambda a _ _ _=>a
 | _=>{posonlyargs:=[],args:=[],vararg:=none,kwonlyargs:=[],kw_defaults:=[],kwarg:=none,defaults:=[]}
noncomputable def HP (e:Expr):Expr:=match e with
 | .Lambda _ b _ _=>b
 | e=>e
noncomputable def Ey (e:Expr):Scope:=match e with
 | .Lambda _ _ s _=>s
 | _=>{kind:=.function,names:=[],isGenerator:=false,isCoroutine:=false}
section
variable {X:Cx} {EE:gA} {a b:Expr} {ma mb:DS→M D} {pos:Pos}
noncomputable abbrev LM:=jc (λ_ _=>true) λi j=>.int (Builtin.bitAnd i j)
noncomputable abbrev UY:=jc (λ_ _=>true) λi j=>.int (Builtin.bitOr i j)
noncomputable abbrev Og:=jc (λ_ _=>true) λi j=>.int (Builtin.bitXor i j)
noncomputable abbrev Ez:=jc (λi j=>decide (0≤j)&&(decide (j≤1000000)&&decide (i.natAbs<2^64))) λi j=>.int (i*2^j.toNat)
theorem CQ (ha:QE X EE a ma) (hb:QE X EE b mb):QE X EE (.BinOp a .BitAnd b pos) (aE LM ma mb):=tR Qk (jS λ_ _ _ _=>by unfold Rep;rfl) ha hb
theorem Gq (ha:QE X EE a ma) (hb:QE X EE b mb):QE X EE (.BinOp a .BitOr b pos) (aE UY ma mb):=tR Tv (jS λ_ _ _ _=>by unfold Rep;rfl) ha hb
theorem Oh (ha:QE X EE a ma) (hb:QE X EE b mb):QE X EE (.BinOp a .BitXor b pos) (aE Og ma mb):=tR Ql (jS λ_ _ _ _=>by unfold Rep;rfl) ha hb
theorem CS (ha:QE X EE a ma) (hb:QE X EE b mb):QE X EE (.BinOp a .LShift b pos) (aE Ez ma mb):=tR Qj (vg (P:=MY) (λi j h=>by simpa [MY] using h) λ_ _ _ _=>by unfold Rep;rfl) ha hb
end
end
section
variable {prog:Program} {w:World} {A:Around} {E:Value→Shared→Prop} {s:Shared}
theorem yK {t:Addr} {x:Value} (hit:s.heap.IsRevIter it t (i:Int))
  (ht:s.heap.IsList t items) (hx:items[i]?=some x)
  (hQ:∀ h',h'.IsRevIter it t ((i:Int) - 1)→Heap.SameBut it s.heap h'→Q x {s with heap:=h'}) :
  wpAny (model prog w) A (Builtin.SmallTypes.nextOf (.ref it)) Q E s:=by
 obtain ⟨q,ho,hc,hd⟩:=id hit
 obtain ⟨ql,OU,_,nl,hdl⟩:=ht
 unfold Builtin.SmallTypes.nextOf
 refine wpAny_bind (wpAny_callSpecial?_slot (name:=Str.ofString "__next__") hit.typeIs F.slot_lri_next (wpAny_call_entry F.slot_lri_next hit.typeIs F.entry_lri_next ?_ (F.args_lri_next_1 _)))
 unfold Builtin.«list_reverseiterator.__next__»
 refine wpAny_bind (wpAny_pure ?_);dsimp only
 refine wpAny_bind (wpAny_field ho hd (x:=rawInt (i:Int)) rfl ?_)
 show wpAny _ _ (if (i:Int)<0 then _ else _) _ _ s
 rw [if_neg (by nofun)];refine wpAny_bind (wpAny_field ho hd (x:=.ref t) rfl ?_)
 refine wpAny_bind (wpAny_seqItems OU hdl ?_);simp only [Int.toNat_natCast,hx]
 refine wpAny_bind (wpAny_setField ho hd (by simp) (wpAny_pure ⟨x,rfl,wpAny_pure (hQ _ ?_ (Heap.SameBut.update ..))⟩))
 exact ⟨_,Heap.get?_update_self _ ho (Obj.isFreed_of_fields (Obj.data_mapFields hd _)),(Obj.cls_mapFields ..).trans hc,by rw [Obj.data_mapFields hd];simp⟩
theorem Al {t:Addr} {Q:Value→Shared→Prop} (hh:A.handled=none) (hit:s.heap.IsRevIter it t (-1))
  (hE:∀ h' e,Heap.ExtBut it s.heap h'→(∃ o,h'.get? e=some o∧o.cls=.type "StopIteration")→E (.ref e) {s with heap:=h'}) :
  wpAny (model prog w) A (Builtin.SmallTypes.nextOf (.ref it)) Q E s:=by
 obtain ⟨q,ho,hc,hd⟩:=id hit
 unfold Builtin.SmallTypes.nextOf
 refine wpAny_bind (wpAny_callSpecial?_slot (name:=Str.ofString "__next__") hit.typeIs F.slot_lri_next (wpAny_call_entry F.slot_lri_next hit.typeIs F.entry_lri_next ?_ (F.args_lri_next_1 _)))
 unfold Builtin.«list_reverseiterator.__next__»
 refine wpAny_bind (wpAny_pure ?_);dsimp only
 refine wpAny_bind (wpAny_field ho hd (x:=rawInt (-1)) rfl ?_)
 show wpAny _ _ (if (-1:Int)<0 then _ else _) _ _ s
 rw [if_pos (by decide)];refine wpAny_bind (wpAny_rule ?_)
 refine wpAny_bind ?_
 show wpAny _ _ (newExc (.type "StopIteration") [] >>= _) _ _ _
 refine wpAny_bind ?_;simp only [newExc,newTuple]
 refine wpAny_bind (wpAny_newObj_type ?_ (by size_fits));refine wpAny_bind (m:=firstArgMember _ _) (wpAny_of_eq (a:=Value.none) (by first | rfl | (simp only [firstArgMember];rfl)) ?_)
 refine wpAny_newObj_type ?_ (by size_fits);simp only [raiseNew]
 refine wpAny_bind (wpAny_handled ?_);first | rw [show A.in1.handled=none from hh] | rw [hh]
 refine wpAny_bind (wpAny_pure (wpAny_throw ?_))
 exact hE _ _ (((Heap.ExtBut.refl _ _).push _).push _) ⟨_,Heap.get?_push_size _ rfl,rfl⟩
end
theorem BV (hh:A.handled=none) (it l:Addr) (hne:l≠it) (items:Array Value) :
  Draws prog w A it [it,l] items.size (λi v=>items[items.size - 1 - i]?=some v) (λi h=>i≤items.size∧h.IsRevIter it l ((items.size:Int) - 1 - (i:Int))∧h.IsList l items) where
 live:=λ_ _ st=>let ⟨o,ho,_⟩:=st.2.1;⟨o,ho⟩
 frame:=λ_ _ _ st hk=>⟨st.1,st.2.1.at λo e=>hk it (by simp) o e,let ⟨o,e,r⟩:=st.2.2;⟨o,hk l (by simp) o e,r⟩⟩
 item:=λi s Q E hi st hQ=>by
  obtain ⟨st0,st1,st2⟩:=st
  rw [show (items.size:Int) - 1 - (i:Int)=((items.size - 1 - i:Nat):Int) by nofun] at st1
  refine yK st1 st2 (x:=items[items.size - 1 - i]) (by simp [show items.size - 1 - i<items.size by nofun]) λh' N6 hs'=>?_
  rw [show ((items.size - 1 - i:Nat):Int) - 1=(items.size:Int) - 1 - ((i+1:Nat):Int) by nofun] at N6
  exact hQ _ h' s.toks (by simp [show items.size - 1 - i<items.size by nofun]) ⟨by nofun,N6,let ⟨o,e,r⟩:=st2;⟨o,(hs'.2 l hne).trans e,r⟩⟩ hs'
 done:=λs Q E st hE=>Al hh (by have:=st.2.1;rwa [show (items.size:Int) - 1 - ((items.size:Nat):Int)=-1 by nofun] at this) hE
theorem EA (l r:Addr) (i:Int) :
  Meets (Builtin.«enumerate.__new__» ⟨[.type "enumerate",.ref r],[]⟩) (λ_ R s=>s.heap.get? r=some (revObj l i) ∧
   R (.ok (.ret (.ref s.heap.objs.size)))
    {s with heap:=s.heap.push {cls:=.type "enumerate",data:=.fields #[.none,.bool false,.ref r,rawInt 0,.none,.none]}}):=
 .of_wp λprog w A R s h=>by
  obtain ⟨hp,g,d,tk,os⟩:=s;obtain ⟨hl,h⟩:=h
  have hsub:=sub_enumerate
  have hL:Heap.IsRevIter (Shared.heap ⟨hp,g,d,tk,os⟩) r l i:=⟨_,hl,rfl,rfl⟩
  wp_walk using AutoSeq1.wpAny_loadPart' hl
  refine wpAny_stack_any λst=>wpAny_pure ?_
  split
  ·rename_i c _ _ _ _ _
   cases (c==Value.type "enumerate")
   ·wp_walk using AutoSeq1.wpAny_loadPart' hl,wpAny_pyIter_revIter hL
    exact ⟨_,rfl,h⟩
   ·wp_walk using AutoSeq1.wpAny_loadPart' hl,wpAny_pyIter_revIter hL
    exact ⟨_,rfl,h⟩
  ·wp_walk using AutoSeq1.wpAny_loadPart' hl,wpAny_pyIter_revIter hL
   exact ⟨_,rfl,h⟩
theorem AY {prog:Program} {w:World} {A:Around} {E:Value→Shared→Prop} {r:Addr} {i:Int} (hl:s.heap.get? r=some (revObj l i))
  (h:∀ h',IsEnum h' s.heap.objs.size r 0 .none→(∀ b o,s.heap.get? b=some o→h'.get? b=some o)→Q (.ref s.heap.objs.size) {s with heap:=h'}) :
  wpAny (model prog w) A (call (.type "enumerate") [.ref r]) Q E s:=by
 refine callType_new F.called_enumerate (by decide) (F.typeCall_enumerate_1 _) (F.newCall_enumerate_1 _) (λobj=>F.args_object_init_2 obj _) F.entry_enumerate_new (EA l r i) ⟨hl,?_⟩
 have he:IsEnum (s.heap.push {cls:=.type "enumerate",data:=.fields #[.none,.bool false,.ref r,rawInt 0,.none,.none]}) s.heap.objs.size r 0 .none:=Heap.get?_push_size s.heap rfl
 exact ⟨⟨_,he,rfl⟩,h _ he λb o x=>Heap.get?_push_of_some _ x⟩
noncomputable def RD (K:PySem.W.Frag) (a:Addr) (n:Nat):It:=
 ⟨λi H=>∃ xs x,q8 K H a xs∧xs.length=n∧i<n∧xs[n - 1 - i]?=some x,λi H y H'=>∃ x p,(∀ xs,q8 K H a xs→xs[n - 1 - i]?=some x)∧H p=none∧y=.ref p∧H'=upd H p (.tup [.int i,x]),λi H=>i=n∧∃ xs,q8 K H a xs∧xs.length=n⟩
theorem Gr {k:Nat} {pt:Pos} (l e it:Addr) (n:Nat) (hne:e≠it) (hle:l≠e) (hli:l≠it):Turn P w K (.Tuple es k pt) (RD K l n) [e,it] e (λi h=>∃ old,IsEnum h e it i old∧h.IsRevIter it l ((n:Int) - 1 - (i:Int))) where
 mem:=by simp
 obj:=λi h ⟨old,st1,st2⟩ b hb=>by
  rcases List.mem_cons.mp hb with rfl | hb
  ·exact ⟨_,st1,λv z=>by cases z⟩
  ·have e:b=it:=by simpa using hb
   subst e
   obtain ⟨o,e,c,d⟩:=st2
   exact ⟨o,e,λv z=>by rw [d] at z;cases z⟩
 keep:=λi h h' ⟨old,st1,st2⟩ kp=>⟨old,kp e (by simp) _ st1,st2.at λo q=>kp it (by simp) o q⟩
 item:=by
  intro X hP hw hK hc i pins s σ H E I hf ⟨old,st1,st2⟩ hg
  subst hP hw hK
  obtain ⟨xs,x,hq,hn,hi,hx⟩:=hg
  obtain ⟨its,rv,p,hz⟩:=I.list hq
  obtain ⟨u,hu,ru⟩:=rv.get hx
  have UA:e<s.heap.objs.size:=Heap.lt_size st1
  have K1:it<s.heap.objs.size:=by obtain ⟨o,q,_⟩:=st2;exact Heap.lt_size q
  have LN:its.toArray.size=n:=by rw [List.size_toArray,← rv.length];exact hn
  refine wpAny_pyNext_enum_itemD (BV (show X.A.in1.handled=none from I.ok.hd hc) it l hli its.toArray) st1 ⟨by nofun,by rw [LN];exact st2,p.isList⟩ (by nofun) hne (by simp [hne,Ne.symm hle]) λx' h' tk hx' hO hst htup hsz kp=>?_
  have Yk:x'=u:=by
   rw [LN] at hx'
   have e:its.toArray[n - 1 - i]?=some x':=hx'
   rw [List.getElem?_toArray,hu] at e
   exact (Option.some.inj e).symm
  subst Yk
  have hL:=hst.2.1
  rw [LN] at hL
  refine ⟨.ref s.heap.objs.size,rfl,?_⟩
  have I1:Inv X pins σ (upd H s.heap.objs.size (.tup [.int i,x])) {s with heap:=s.heap.push {cls:=.type "tuple",data:=.seq #[.int i tk,x']}}:=
   I.laid (t':=s.toks) (λb o q=>Heap.get?_push_of_some _ q) (Nat.le_refl _) ⟨by simp [sizeLine_eq],[.int i tk,x'],.cons ⟨_,rfl⟩ (.cons ru .nil),PyProof.Rows.IsTup.new _ _⟩
  have hfree:=I.hok.fresh (Nat.le_refl s.heap.objs.size)
  have hf1:∀ b∈[e,it],pq X pins (upd H s.heap.objs.size (.tup [.int i,x])) b:=λb hb=>by
   have hlt:b≠s.heap.objs.size:=by
    rcases List.mem_cons.mp hb with rfl | hb
    ·exact Nat.ne_of_lt UA
    ·rw [List.mem_singleton.mp hb];exact Nat.ne_of_lt K1
   exact ⟨by rw [aI hlt];exact (hf b hb).1,(hf b hb).2⟩
  unfold letOwnedTupleGo
  refine wpAny_bind (wpAny_load hO ?_)
  dsimp only
  rw [if_pos (by simp)]
  refine wpAny_bind (wpAny_rule ?_)
  unfold updateField
  refine wpAny_bind (wpAny_load hO ?_)
  dsimp only
  rw [if_pos (by simp)]
  refine wpAny_update hO ?_
  have tT:∀ b,b≠e→(h'.update e (Obj.mapFields λx=>x.setIfInBounds 0 Value.none)).get? b=h'.get? b:=λb hb=>Heap.get?_update_other _ _ (Ne.symm hb)
  refine ⟨.ref s.heap.objs.size,_,oh (t':=tk+1) (s:={s with heap:=s.heap.push {cls:=.type "tuple",data:=.seq #[.int i tk,x']}}) (ch:=[e,it]) I1 (λb o hb q=>?_) hf1,rfl,⟨x,s.heap.objs.size,λys hy=>by rw [I.rQ hy hq];exact hx,hfree,rfl,rfl⟩,⟨x',?_,?_⟩,λb hb=>(hf1 b hb).1⟩
  ·have hb1:b≠e:=λz=>hb (by simp [z])
   have hb2:b≠it:=λz=>hb (by simp [z])
   show (h'.update e _).get? b=some o
   rw [tT b hb1]
   by_cases K2:b=s.heap.objs.size
   ·subst K2
    have:=Heap.get?_push_size (o:={cls:=.type "tuple",data:=.seq #[.int (i:Int) tk,x']}) s.heap rfl
    rw [this] at q;cases q
    exact htup
   ·have q':(s.heap.push {cls:=.type "tuple",data:=.seq #[.int (i:Int) tk,x']}).get? b=some o:=q
    refine kp b o hb1 hb2 ?_
    rwa [Heap.get?_push_ne _ _ _ K2] at q'
  ·show (h'.update e _).get? e=_
   rw [Heap.get?_update_self _ hO rfl]
   rfl
  ·exact hL.at λo q=>(tT it (Ne.symm hne)).trans q
 done:=by
  intro X hP hw hK hc i pins s σ H E I hf ⟨old,st1,st2⟩ hg
  subst hP hw hK
  obtain ⟨rfl,xs,hq,hn⟩:=hg
  obtain ⟨its,rv,p,hz⟩:=I.list hq
  obtain ⟨f0,f1,f2,f3,f4,f5⟩:=hf it (by simp)
  have LN:its.toArray.size=i:=by rw [List.size_toArray,← rv.length];exact hn
  exact wpAny_pyNext_enum_endD (BV (show X.A.in1.handled=none from I.ok.hd hc) it l hli its.toArray) st1 ⟨Nat.le_refl _,by rw [LN];exact st2,p.isList⟩ λh' eb=>⟨rfl,I.turned (t':=s.toks) (λb o hb e=>eb b o hb e) f0 f1 f3 f4 f5⟩
 self:=λ_ _ _ _ _ ⟨old,st1,_⟩ h=>wpAny_pyIter_enum st1 h
noncomputable def uI (d:D) (n:Nat):View:=λG i=>match bw G d with
 | some (.lst xs)=>if xs.length=n then (if i=n then some none else if i<n then some (xs[n - 1 - i]?.map λx=>.tup [.int i,x]) else none) else none
 | _=>none
noncomputable def CU (m:DS→M (List D)):MI:=λτ=>(m τ).bind λds=>match ds with
 | [d]=>λG=>match bw G d with
  | some (.lst xs)=>.ok (xs.length+1,uI d xs.length) G
  | _=>.stuck
 | _=>M.stop
section
variable {X:Cx} {EE:gA} {tg iter a b:Expr} {g:tK} {mi:MI} {ms:MS} {pos p pc p2 Yq:Pos} {m:DS→M (List D)}
theorem LO (rx:Rep X.K X.mg ρ H d (.ref l)):JV X.K X.mg (RD X.K l n) (uI d n) H ρ:=by
 intro i H' ρ' G' f hp
 unfold uI
 cases q:bw G' d with
 | none=>exact ⟨λe=>(by cases e),λx e=>(by cases e)⟩
 | some sk=>
  cases sk with
  | tup zs=>exact ⟨λe=>(by cases e),λx e=>(by cases e)⟩
  | str z=>exact ⟨λe=>(by cases e),λx e=>(by cases e)⟩
  | lst zs=>
   dsimp only
   by_cases hn:zs.length=n
   ·rw [if_pos hn]
    obtain ⟨xs,sq,rs⟩:=Ge f rx hp q
    by_cases hi:i=n
    ·rw [if_pos hi]
     exact ⟨λ_=>⟨hi,xs,sq,by rw [← rs.length];exact hn⟩,λx e=>(by cases e)⟩
    ·rw [if_neg hi]
     by_cases hlt:i<n
     ·rw [if_pos hlt]
      refine ⟨λe=>?_,λx e=>?_⟩
      ·have:=Option.some.inj e
       rw [Option.map_eq_none_iff,List.getElem?_eq_none_iff] at this
       nofun
      ·have e':=Option.some.inj e
       cases qi:zs[n - 1 - i]? with
       | none=>rw [qi] at e';cases e'
       | some z=>
        rw [qi] at e';cases e'
        obtain ⟨v,hv,rv⟩:=rs.get qi
        refine ⟨⟨xs,v,sq,by rw [← rs.length];exact hn,hlt,hv⟩,λy H2 hy=>?_⟩
        obtain ⟨v',p,ev',hp0,rfl,rfl⟩:=hy
        have ev':=ev' xs sq
        rw [hv] at ev';cases ev'
        refine ⟨CA.new hp0,?_⟩
        unfold Rep
        refine ⟨p,[.int i,v],rfl,.inl (.inl ck),.cons (by unfold Rep;rfl) (.cons (Rep.mono (fX hp0 ρ') _ _ rv) .nil)⟩
     ·rw [if_neg hlt];exact ⟨λe=>(by cases e),λx e=>(by cases e)⟩
   ·rw [if_neg hn];exact ⟨λe=>(by cases e),λx e=>(by cases e)⟩
theorem LP {k:Nat} {pt:Pos} (hm0:X.mg "enumerate"=none) (hg0:Gl X "enumerate") (hm:X.mg "reversed"=none) (BE:Gl X "reversed") (ha:QA X EE [a] m) (h:aB [a]=true:=by rfl):QI X EE (.Tuple es k pt) (.Call (.Name "enumerate" p2) [.Call (.Name "reversed" p) [a] [] pc] [] Yq) (CU m):=by
 have h':dQ a=true∧aB []=true:=by simpa [aB] using h
 intro pins s σ H R I hq
 obtain ⟨τ,ρ,G,ab,ok⟩:=hq
 dsimp only [CU,M.bind] at ok
 have hA:ny X.K X.mg EE m σ H λvs H1=>∃ ρ1 G1 ds,Ab X.K X.mg σ H1 τ ρ1 G1∧fh X.K H H1 ρ ρ1∧aC X.K X.mg ρ1 H1 ds vs∧m τ G=.ok ds G1:=by
  refine ⟨τ,ρ,G,ab,?_⟩
  cases e:m τ G with
  | stuck=>rw [e] at ok;exact ok
  | dU c G'=>rw [e] at ok;exact ok
  | ok ds G'=>exact λvs H' ρ' f di r=>⟨ρ',G',ds,di,f,r,rfl⟩
 refine wpAny_Call_Name_kw (iy I hg0 hm0 xw ?_ (by decide) (by decide))
 refine PyProof.Rows.callWith_type1 ?_ (bR rfl _ _) (bY (es:=[]) rfl)
 rw [bR (e:=.Call (.Name "reversed" p) [a] [] pc) rfl]
 show wpAny _ _ (spliced ((false,eval _ X.env)::backTo Yq (starEach [] X.env))) _ _ s
 refine Calls.spliced_cons ?_
 refine wpAny_Call_Name_kw (iy I BE hm vn ?_ (by decide) (by decide))
 refine PyProof.Rows.callWith_type1 (gw (ha pc pins s σ H _ I hA) λus s1 yF=>?_) (bR h'.1 _ _) (bY (es:=[]) rfl)
 obtain ⟨vs,H1,I1,r1,ρ1,G1,ds,nB,f1,rs,em⟩:=yF
 rw [em] at ok
 dsimp only at ok
 match ds,rs,ok with
 | [],_,ok=>exact ok.elim
 | _::_::_,_,ok=>exact ok.elim
 | [d],rs,ok=>
  obtain ⟨x,rfl,rx⟩:=jU rs
  obtain ⟨u,rfl,ru⟩:=vals1 r1
  dsimp only at ok
  cases q:bw G1 d with
  | none=>rw [q] at ok;exact ok.elim
  | some sk=>
   rw [q] at ok
   cases sk with
   | tup zs=>exact ok.elim
   | str z=>exact ok.elim
   | lst zs=>
    dsimp only at ok
    obtain ⟨l,ys,rfl,sq,rv⟩:=dm (pins:=pins) (σ0:=σ) (s:=s1) nB.hp rx q
    cases ru
    obtain ⟨its,vv,pl,hz⟩:=I1.list sq
    have hlt:l<s1.heap.objs.size:=by obtain ⟨_,e,_⟩:=pl.isList;exact Heap.lt_size e
    refine call_reversed_list pl.isList ?_
    refine Calls.spliced_nil ?_
    have hro:=Heap.get?_push_size (o:=revObj l ((its.toArray.size:Int) - 1)) s1.heap rfl
    have hrz:(s1.heap.push (revObj l ((its.toArray.size:Int) - 1))).objs.size=s1.heap.objs.size+1:=Heap.size_push ..
    refine AY (s:={s1 with heap:=s1.heap.push (revObj l ((its.toArray.size:Int) - 1))}) hro λh2 hE kp=>?_
    dsimp only at hE kp
    rw [hrz] at hE
    show wpAny _ _ (pyIter (.ref (s1.heap.push _).objs.size)) _ _ _
    rw [hrz]
    refine wpAny_pyIter_enum (s:={s1 with heap:=h2}) hE ?_
    have I2:Inv X pins σ H1 {s1 with heap:=h2}:=I1.kept (t':=s1.toks) λb o e=>kp b o (Heap.get?_push_of_some _ e)
    have hlen:its.toArray.size=zs.length:=by rw [List.size_toArray,← vv.length,rv.length]
    refine ⟨s1.heap.objs.size+1,[s1.heap.objs.size+1,s1.heap.objs.size],_,RD X.K l zs.length,H1,rfl,I2,Gr l _ _ _ (Nat.succ_ne_self _) (Nat.ne_of_lt (Nat.lt_succ_of_lt hlt)) (Nat.ne_of_lt hlt),⟨_,hE,?_⟩,λb hb=>?_,ok _ H1 ρ1 f1 nB (LO rx)⟩
    ·rw [← hlen]
     exact ⟨_,kp _ _ hro,rfl,by simp [revObj]⟩
    ·rcases List.mem_cons.mp hb with rfl | hb
     ·exact I1.uZ (Nat.le_succ _) (I1.hok.fresh (Nat.le_succ _))
     ·rw [List.mem_singleton.mp hb]
      exact I1.uZ (Nat.le_refl _) (I1.hok.fresh (Nat.le_refl _))
end
noncomputable abbrev oR (h:Heap) (z TI TO T:Addr) (b:Bool):Prop:=h.get? z=some {cls:=.type "zip",dict:=none,data:=.fields #[rawInt T,.bool b,.bool false,.ref TI,.ref TO],slots:=#[]}
section
variable {prog:Program} {w:World} {A:Around} {E:Value→Shared→Prop} {s:Shared}
theorem LQ {M:Model} {Q:Option Obj→Shared→Prop} (ho:s.heap.get? a=some o) (h:Q (some o) s):wpAny M A (loadIfAlive a) Q E s:=λΓ p _=>by
 unfold loadIfAlive;rw [Sem.wp_loadIfAlive,ho,Sem.wp_pure];exact h
theorem BW {TI TO T:Addr} {b:Bool} {Q:Bool→Shared→Prop} (hz:oR s.heap z TI TO T b) (hT:s.heap.get? T=some o) (hQ:∀ h',oR h' z TI TO T true→Heap.SameBut z s.heap h'→Q false {s with heap:=h'}) :
  wpAny (model prog w) A (Builtin.SmallTypes.ownedTupleIsFree (.ref z)) Q E s:=by
 unfold Builtin.SmallTypes.ownedTupleIsFree
 refine wpAny_bind (wpAny_field hz rfl (x:=rawInt T) rfl ?_)
 dsimp only [rawInt]
 refine wpAny_bind (LQ (a:=T) hT ?_)
 rw [if_neg (by simp)]
 refine wpAny_bind (wpAny_field hz rfl (x:=.bool b) rfl ?_)
 cases b
 ·rw [if_pos (by decide)]
  refine wpAny_bind (wpAny_setField_rec hz (by simp) λMJ z1 s1=>wpAny_pure (hQ _ ?_ s1))
  exact z1
 ·rw [if_neg (by decide)]
  exact wpAny_pure (hQ _ hz ⟨rfl,λ_ _=>rfl⟩)
theorem Jp {TI TO T:Addr} {k:Nat} {x y:Value} (D:ZipApart z TI TO i1 i2 l1 l2) (hz:oR s.heap z TI TO T bb) (hTI:IsPair s.heap TI (.ref i1) (.ref i2)) (hT:s.heap.get? T=some o)
  (h1:pU t1 s.heap i1 l1 k) (h2:pU t2 s.heap i2 l2 k) (p1:uW t1 s.heap l1 xs) (p2:uW t2 s.heap l2 ys) (hx:xs[k]?=some x) (hy:ys[k]?=some y)
  (hQ:∀ h',oR h' z TI TO T true→pU t1 h' i1 l1 (k+1)→pU t2 h' i2 l2 (k+1)→IsPair h' s.heap.objs.size x y →
   (∀ c o,c≠z→c≠i1→c≠i2→s.heap.get? c=some o→h'.get? c=some o)→Q (.ref s.heap.objs.size) {s with heap:=h'}) :
  wpAny (model prog w) A (Builtin.«zip.__next__» {pos:=[Value.ref z]}) (λfin s'=>∃ v,fin=Fin.done (Flow.ret v)∧Q v s') E s:=by
 unfold «Builtin».«zip.__next__»
 refine wpAny_bind (wpAny_pure ?_)
 dsimp only
 refine wpAny_bind (wpAny_field hz rfl (x:=.bool false) rfl ?_)
 refine wpAny_bind (wpAny_field hz rfl (x:=.ref TI) rfl ?_)
 refine wpAny_bind (wpAny_seqItems hTI rfl ?_)
 dsimp only
 rw [if_neg (by simp)]
 refine wpAny_bind (BW hz hT λMJ z1 s1=>?_)
 rw [if_neg (by decide)]
 have k1:∀ c o,c≠z→s.heap.get? c=some o→MJ.get? c=some o:=λc o hc q=>(s1.2 c hc).trans q
 refine wpAny_bind ?_
 rw [← Array.forIn_toList]
 rw [List.forIn_cons]
 refine wpAny_bind ?_
 refine wpAny_bind (wpAny_holding ?_)
 refine wpAny_bind (nF (h1.at λo q=>k1 _ _ D.i1z q) (p1.at λo q=>k1 _ _ D.l1z q) hx λh2' m1 s2=>wpAny_pure ?_)
 have k2:∀ c o,c≠z→c≠i1→s.heap.get? c=some o→h2'.get? c=some o:=λc o hc hd q=>(s2.2 c hd).trans (k1 c o hc q)
 dsimp only
 refine wpAny_pure ?_
 dsimp only
 rw [List.forIn_cons]
 refine wpAny_bind ?_
 refine wpAny_bind (wpAny_holding ?_)
 refine wpAny_bind (nF (h2.at λo q=>k2 _ _ D.i2z D.i12.symm q) (p2.at λo q=>k2 _ _ D.l2z D.l2i1 q) hy λh3' m2 s3=>wpAny_pure ?_)
 have k3:∀ c o,c≠z→c≠i1→c≠i2→s.heap.get? c=some o→h3'.get? c=some o:=λc o hc hd he q=>(s3.2 c he).trans (k2 c o hc hd q)
 dsimp only
 refine wpAny_pure ?_
 dsimp only
 rw [List.forIn_nil]
 refine wpAny_pure ?_
 dsimp only
 refine wpAny_bind (wpAny_newTuple ?_ (by simp [sizeLine_eq]))
 have hsz:h3'.objs.size=s.heap.objs.size:=by
  have a1:=s1.1;have a2:=s2.1;have a3:=s3.1
  dsimp only at a2 a3
  nofun
 rw [hsz]
 refine wpAny_pure ⟨_,rfl,?_⟩
 have up:∀ c o,h3'.get? c=some o→(h3'.push {cls:=.type "tuple",data:=.seq #[x,y]}).get? c=some o:=λc o q=>Heap.get?_push_of_some _ q
 refine hQ _ (up _ _ ((s3.2 z D.i2z.symm).trans ((s2.2 z D.i1z.symm).trans z1))) (m1.at λo q=>up _ _ ((s3.2 _ D.i12).trans q)) (m2.at λo q=>up _ _ q) ?_ (λc o c1 c2 c3 q=>up _ _ (k3 c o c1 c2 c3 q))
 rw [← hsz];exact Heap.get?_push_size _ rfl
theorem LR {t2:Bool} {TI TO T:Addr} {k:Nat} {Q:PySem.Fin→Shared→Prop} (hh:A.handled=none) (D:ZipApart z TI TO i1 i2 l1 l2) (hz:oR s.heap z TI TO T bb) (hTI:IsPair s.heap TI (.ref i1) (.ref i2)) (hT:s.heap.get? T=some o)
  (h1:pU t1 s.heap i1 l1 k) (p1:uW t1 s.heap l1 xs) (hx:xs[k]?=none)
  (hE:∀ h' e,(∀ c o,c≠z→c≠i1→s.heap.get? c=some o→h'.get? c=some o)→(∃ o,h'.get? e=some o∧o.cls=.type "StopIteration")→E (.ref e) {s with heap:=h'}) :
  wpAny (model prog w) A (Builtin.«zip.__next__» {pos:=[Value.ref z]}) Q E s:=by
 unfold «Builtin».«zip.__next__»
 refine wpAny_bind (wpAny_pure ?_)
 dsimp only
 refine wpAny_bind (wpAny_field hz rfl (x:=.bool false) rfl ?_)
 refine wpAny_bind (wpAny_field hz rfl (x:=.ref TI) rfl ?_)
 refine wpAny_bind (wpAny_seqItems hTI rfl ?_)
 dsimp only
 rw [if_neg (by simp)]
 refine wpAny_bind (BW hz hT λMJ z1 s1=>?_)
 rw [if_neg (by decide)]
 have k1:∀ c o,c≠z→s.heap.get? c=some o→MJ.get? c=some o:=λc o hc q=>(s1.2 c hc).trans q
 refine wpAny_bind ?_
 rw [← Array.forIn_toList]
 rw [List.forIn_cons]
 refine wpAny_bind ?_
 refine wpAny_bind (wpAny_holding ?_)
 refine wpAny_bind (xB hh (h1.at λo q=>k1 _ _ D.i1z q) (p1.at λo q=>k1 _ _ D.l1z q) hx λh2' e s2 he=>?_)
 exact hE _ _ (λc o c1 c2 q=>s2 _ _ c2 (k1 c o c1 q)) he
theorem Am {TI TO T:Addr} {k:Nat} {x y:Value} {Q:Option Value→Shared→Prop} (D:ZipApart z TI TO i1 i2 l1 l2) (hz:oR s.heap z TI TO T bb) (hTI:IsPair s.heap TI (.ref i1) (.ref i2)) (hT:s.heap.get? T=some o)
  (h1:pU t1 s.heap i1 l1 k) (h2:pU t2 s.heap i2 l2 k) (p1:uW t1 s.heap l1 xs) (p2:uW t2 s.heap l2 ys) (hx:xs[k]?=some x) (hy:ys[k]?=some y)
  (hQ:∀ h',oR h' z TI TO T true→pU t1 h' i1 l1 (k+1)→pU t2 h' i2 l2 (k+1)→IsPair h' s.heap.objs.size x y →
   (∀ c o,c≠z→c≠i1→c≠i2→s.heap.get? c=some o→h'.get? c=some o)→Q (some (.ref s.heap.objs.size)) {s with heap:=h'}) :
  wpAny (model prog w) A (pyNext (.ref z)) Q E s:=by
 have ht:s.TypeIs (.ref z) "zip":=⟨_,hz,rfl⟩
 unfold pyNext
 refine wpAny_bind (wpAny_attempt (wpAny_callSpecial?_slot (name:=Str.ofString "__next__") ht F.slot_zip_next (wpAny_call_entry F.slot_zip_next ht F.entry_zip_next ?_ (F.args_zip_next_1 _))))
 exact Jp D hz hTI hT h1 h2 p1 p2 hx hy λh' a1 a2 a3 a4 a5=>wpAny_pure (hQ h' a1 a2 a3 a4 a5)
theorem AZ {t2:Bool} {TI TO T:Addr} {k:Nat} {Q:Option Value→Shared→Prop} (hh:A.handled=none) (D:ZipApart z TI TO i1 i2 l1 l2) (hz:oR s.heap z TI TO T bb) (hTI:IsPair s.heap TI (.ref i1) (.ref i2)) (hT:s.heap.get? T=some o)
  (h1:pU t1 s.heap i1 l1 k) (p1:uW t1 s.heap l1 xs) (hx:xs[k]?=none)
  (hQ:∀ h',(∀ c o,c≠z→c≠i1→s.heap.get? c=some o→h'.get? c=some o)→Q none {s with heap:=h'}) :
  wpAny (model prog w) A (pyNext (.ref z)) Q E s:=by
 have ht:s.TypeIs (.ref z) "zip":=⟨_,hz,rfl⟩
 unfold pyNext
 refine wpAny_bind (wpAny_attempt (wpAny_callSpecial?_slot (name:=Str.ofString "__next__") ht F.slot_zip_next (wpAny_call_entry F.slot_zip_next ht F.entry_zip_next ?_ (F.args_zip_next_1 _))))
 refine LR (t2:=t2) hh D hz hTI hT h1 p1 hx λh' e hk he=>?_
 refine wpAny_bind (wpAny_isInstance (T:="StopIteration") (v:=.ref e) he isSubtype_stop ?_)
 rw [if_pos rfl]
 exact wpAny_pure (hQ _ hk)
end
theorem Gs:typeLookup (.type "zip") (Str.ofString "__len__")=(pure none:Sem (Option Value)):=by
 rw [typeLookup_type,builtinLookup_eq_fast];rfl
theorem EB:typeLookup (.type "zip") (Str.ofString "__length_hint__")=(pure none:Sem (Option Value)):=by
 rw [typeLookup_type,builtinLookup_eq_fast];rfl
theorem LS {M:Model} {TI TO:Addr} {Q:Bool→Shared→Prop} (hz:IsZip s.heap z TI TO f0) (h:Q true s):wpAny M A (Builtin.List.listLengthHint (.ref z)) Q E s:=by
 have ty:s.TypeIs (.ref z) "zip":=⟨_,hz,rfl⟩
 unfold Builtin.List.listLengthHint
 refine wpAny_bind (wpAny_specialOf ty Gs ?_)
 refine wpAny_bind (wpAny_specialOf ty EB ?_)
 dsimp only
 exact wpAny_pure h
theorem Gu {TI TO:Addr} {c:Nat} (hz:IsZip s.heap z TI TO f0) (hSz:S≠z) (hS:s.heap.get? S=some {cls:=.type "list",data:=.seq #[] c}) (hk:∀ h' c',Heap.SameBut S s.heap h'→h'.get? S=some {cls:=.type "list",data:=.seq #[] c'}→codeAny (model prog w) A (.builtin "list.extend.loop" ⟨[.ref S,.ref z,res],[]⟩) R {s with heap:=h'}) :
  wpAny (model prog w) A.in1 (Builtin.List.listExtendWith (.ref S) (.ref z) res) (λfin s'=>match fin with
   | .done f=>R (.ok f) s'
   | .again c'=>c'.quiet=true∧codeAny (model prog w) A c' R s') (λe s'=>R (.error e) s') s:=by
 have ty:s.TypeIs (.ref z) "zip":=⟨_,hz,rfl⟩
 unfold Builtin.List.listExtendWith
 refine wpAny_bind (wpAny_typeOf ty ?_)
 have h1:Builtin.List.listSameRef (.ref S) (.ref z)=false:=by simp [Builtin.List.listSameRef,hSz]
 rw [if_neg (by rw [h1];decide)]
 refine wpAny_bind (wpAny_pyIter_zip hz ?_)
 refine wpAny_bind (wpAny_holding (LS hz ?_))
 rw [Bool.true_or,if_pos rfl]
 refine wpAny_bind (wpAny_rule ?_)
 unfold Builtin.List.listTouch
 refine wpAny_bind (wpAny_bind ?_)
 show wpAny _ _ (updateSeq S _) _ _ _
 refine wpAny_updateSeq hS rfl ?_ (by simp [sizeLine_eq]) (by simp [sizeLine_eq])
 have Sy:=Heap.get?_update_self (Obj.mapSeq (·.push Value.none)) hS rfl
 show wpAny _ _ (updateSeq S _) _ _ _
 refine wpAny_updateSeq Sy rfl ?_ (by simp [sizeLine_eq]) (by simp [sizeLine_eq])
 exact wpAny_pure ⟨plainId_quiet F.plain_extend_loop _,hk _ _ ⟨by simp [Heap.update],λb hb=>(Heap.get?_update_other _ _ (Ne.symm hb)).trans (Heap.get?_update_other _ _ (Ne.symm hb))⟩ (Heap.get?_update_self (Obj.mapSeq (·.pop)) Sy rfl)⟩
theorem A0 {prog:Program} {w:World} {A:Around} {E:Value→Shared→Prop} {TI TO:Addr} (hz:IsZip s.heap z TI TO f0)
  (hQ:∀ (h':Heap) (c:Nat) (R:Result→Shared→Prop),(∀ s',Q (.ref s.heap.objs.size) s'→R (.ok (.ret .none)) s')→(∀ b o,s.heap.get? b=some o→h'.get? b=some o)→h'.get? s.heap.objs.size=some {cls:=.type "list",data:=.seq #[] c}→codeAny (model prog w) A.in1 (.builtin "list.extend.loop" ⟨[.ref s.heap.objs.size,.ref z,.none],[]⟩) R {s with heap:=h'}) :
  wpAny (model prog w) A (call (.type "list") [.ref z]) Q E s:=by
 refine callType_codes (Q₁:=λv s1=>v=.ref s.heap.objs.size∧s1={s with heap:=s.heap.push {cls:=.type "list",data:=.seq #[]}}) F.called_list (F.typeCall_list_1 (.ref z)) F.entry_list_init (code_list_new (.ref z) ⟨rfl,rfl⟩) λobj s₁ h₁=>?_
 obtain ⟨rfl,rfl⟩:=h₁
 have hS:=Heap.get?_push_size (o:={cls:=.type "list",data:=.seq #[]}) s.heap rfl
 refine ⟨⟨_,hS,rfl⟩,F.args_list_init_2 (.ref s.heap.objs.size) (.ref z),?_⟩
 have kp:∀ b o,s.heap.get? b=some o→(s.heap.push {cls:=.type "list",data:=.seq #[]}).get? b=some o:=λb o e=>Heap.get?_push_of_some _ e
 unfold Builtin.«list.__init__»
 refine wpAny_bind ?_
 unfold Builtin.List.listItems
 refine wpAny_bind (wpAny_seqItems hS rfl (wpAny_pure ?_))
 refine wpAny_bind ?_
 unfold Builtin.List.listUpdate
 refine wpAny_updateSeq hS rfl ?_ (by simp [sizeLine_eq]) (by simp [sizeLine_eq])
 have Sy:=Heap.get?_update_self (Obj.mapSeq λx=>#[]) hS rfl
 have up:∀ b o,s.heap.get? b=some o→((s.heap.push {cls:=.type "list",data:=.seq #[]}).update s.heap.objs.size (Obj.mapSeq λx=>#[])).get? b=some o:=λb o e=>(Heap.get?_update_other _ _ (Nat.ne_of_gt (Heap.lt_size e))).trans (kp b o e)
 refine wpAny_bind (wpAny_letGo ?_)
 refine Gu (s:={s with heap:=(s.heap.push {cls:=.type "list",data:=.seq #[]}).update s.heap.objs.size (Obj.mapSeq λx=>#[])}) (up _ _ hz) (Nat.ne_of_gt (Heap.lt_size hz)) Sy λh' c' sb e=>?_
 exact hQ _ _ _ (λs' q=>⟨rfl,q⟩) (λb o q=>(sb.2 b (Nat.ne_of_lt (Heap.lt_size q))).trans (up b o q)) e
noncomputable def ZSt (t1 t2:Bool) (z TI TO i1 i2 l1 l2:Addr) (i:Nat) (H:Hp) (h:Heap):Prop:=
 IsPair h TI (.ref i1) (.ref i2)∧pU t1 h i1 l1 i∧pU t2 h i2 l2 i∧(∃ a b,IsPair h TO a b)∧(IsZip h z TI TO .none∨∃ T bb u v a b,oR h z TI TO T bb∧IsPair h T a b∧H T=some (.tup [u,v]))
section
variable {X:Cx} {pins:List (Addr×Obj)} {σ:L2.St} {A:Around} {R:Result→Shared→Prop} {t1 t2:Bool} {z TI TO i1 i2 l1 l2 S:Addr} {K:PySem.W.Frag}
theorem Oi {x y:V} (I:Inv X pins σ H s) (hf:∀ c∈ch,pq X pins H c) (hlt:∀ c∈ch,c≠s.heap.objs.size) (r1:RelV x u1) (r2:RelV y u2) (hP:IsPair h' s.heap.objs.size u1 u2) (hk:∀ c o,c∉ch→s.heap.get? c=some o→h'.get? c=some o) :
  Inv X pins σ (upd H s.heap.objs.size (.tup [x,y])) {s with heap:=h'}∧∀ c∈ch,pq X pins (upd H s.heap.objs.size (.tup [x,y])) c:=by
 have I1:Inv X pins σ (upd H s.heap.objs.size (.tup [x,y])) {s with heap:=s.heap.push {cls:=.type "tuple",data:=.seq #[u1,u2]}}:=
  I.laid (t':=s.toks) (λb o q=>Heap.get?_push_of_some _ q) (Nat.le_refl _) ⟨by simp [sizeLine_eq],[u1,u2],.cons r1 (.cons r2 .nil),PyProof.Rows.IsTup.new _ _⟩
 have hf1:∀ c∈ch,pq X pins (upd H s.heap.objs.size (.tup [x,y])) c:=λc hc=>⟨by rw [aI (hlt c hc)];exact (hf c hc).1,(hf c hc).2⟩
 refine ⟨oh (t':=s.toks) (s:={s with heap:=s.heap.push {cls:=.type "tuple",data:=.seq #[u1,u2]}}) (ch:=ch) I1 (λc o hc q=>?_) hf1,hf1⟩
 by_cases hcs:c=s.heap.objs.size
 ·subst hcs
  have:=Heap.get?_push_size (o:={cls:=.type "tuple",data:=.seq #[u1,u2]}) s.heap rfl
  rw [this] at q;cases q
  exact hP
 ·have q':(s.heap.push {cls:=.type "tuple",data:=.seq #[u1,u2]}).get? c=some o:=q
  refine hk c o hc ?_
  rwa [Heap.get?_push_ne _ _ _ hcs] at q'
theorem LU {G:DH} (hh:A.handled=none) (Dz:ZipApart z TI TO i1 i2 l1 l2) (hS:S∉[z,TI,TO,i1,i2]) (hl1:l1≠S) (hl2:l2≠S) (hT1:l1≠TI) (hT2:l2≠TI) {ds es:List D} {xs ys:List V} {Lr its2:List Value} (r1:aC X.K X.mg ρ H0 ds xs) (r2:aC X.K X.mg ρ H0 es ys) (vv1:Vals xs Lr) (UM:Vals ys its2) (hlen:ds.length=es.length) (hz:ds.length≤sizeLine) {res:Value} :
  ∀ (k i:Nat) (s:Shared) (H:Hp) (ps:List D),ds.length - i=k→i≤ds.length→ps.length=i→Inv X pins σ H s→(∀ c∈[z,TI,TO,i1,i2],pq X pins H c)→fh X.K H0 H ρ (ρ++[S])→jR X.K X.mg H (ρ++[S]) (G++[.lst ps]) →
   uW t1 s.heap l1 Lr.toArray→uW t2 s.heap l2 its2.toArray→ZSt t1 t2 z TI TO i1 i2 l1 l2 i H s.heap →
   (∀ s' H',Inv X pins σ H' s'→fh X.K H0 H' ρ (ρ++[S])→jR X.K X.mg H' (ρ++[S]) (G++[.lst (ps++(List.zipWith (λd e=>D.tup [d,e]) (ds.drop i) (es.drop i)))])→R (.ok (.ret res)) s') →
   codeAny (model X.prog X.w) A (.builtin "list.extend.loop" ⟨[.ref S,.ref z,res],[]⟩) R s:=by
 intro k
 have WI:xs.length=Lr.length:=vv1.length
 have SJ:ys.length=its2.length:=UM.length
 have hd1:ds.length=xs.length:=r1.length
 have hd2:es.length=ys.length:=r2.length
 induction k with
 | zero=>
  intro i s H ps hk hi hps I hf f ab p1 p2 st hR
  have hin:i=ds.length:=by nofun
  refine codeAny_builtin F.entry_extend_loop ?_
  rw [Around.under_plainId F.plain_extend_loop _]
  show wpAny _ A.in1 (pyNext (.ref z) >>= _) _ _ s
  have hR':∀ s' H',Inv X pins σ H' s'→fh X.K H0 H' ρ (ρ++[S])→jR X.K X.mg H' (ρ++[S]) (G++[.lst ps])→R (.ok (.ret res)) s':=λs' H' a b c=>hR s' H' a b (by rw [hin,List.drop_length];simpa using c)
  obtain ⟨hTI,h1,h2,⟨a0,b0,hTO⟩,Fb | ⟨T,bb,u,v,a,b,Fb,hT,hH⟩⟩:=st
  ·refine wpAny_bind (vH (show A.in1.handled=none from hh) Dz Fb hTI hTO h1 h2 p1 p2 (.inl (by simp;nofun)) λh' hk=>wpAny_pure ?_)
   exact hR' _ H (oh (t':=s.toks) (ch:=[z,TI,TO,i1,i2]) I (λc o hc q=>hk c o (λe=>hc (by simp [e])) (λe=>hc (by simp [e])) (λe=>hc (by simp [e])) (λe=>hc (by simp [e])) q) hf) f ab
  ·refine wpAny_bind (AZ (t2:=t2) (show A.in1.handled=none from hh) Dz Fb hTI hT h1 p1 (by simp;nofun) λh' hk=>wpAny_pure ?_)
   exact hR' _ H (oh (t':=s.toks) (ch:=[z,TI,TO,i1,i2]) I (λc o hc q=>hk c o (λe=>hc (by simp [e])) (λe=>hc (by simp [e])) q) hf) f ab
 | succ k ih=>
  intro i s H ps hk hi hps I hf f ab p1 p2 st hR
  have hlt:i<ds.length:=by nofun
  refine codeAny_builtin F.entry_extend_loop ?_
  rw [Around.under_plainId F.plain_extend_loop _]
  show wpAny _ A.in1 (pyNext (.ref z) >>= _) _ _ s
  obtain ⟨d,hd⟩:∃ d,ds[i]?=some d:=⟨_,List.getElem?_eq_getElem hlt⟩
  obtain ⟨e,he⟩:∃ e,es[i]?=some e:=⟨_,List.getElem?_eq_getElem (by nofun)⟩
  obtain ⟨x,hx,rx⟩:=r1.get hd
  obtain ⟨y,hy,ry⟩:=r2.get he
  obtain ⟨u1,hu1,Yn⟩:=vv1.get hx
  obtain ⟨u2,WK,Rv⟩:=UM.get hy
  have lt:∀ {c o},s.heap.get? c=some o→c≠s.heap.objs.size:=λe=>Nat.ne_of_lt (Heap.lt_size e)
  have rS:(ρ++[S])[G.length]?=some S:=by
   have:=ab.hl
   simp only [List.length_append,List.length_cons,List.length_nil,Nat.add_right_cancel_iff] at this
   rw [← this,aY]
  have eG:(G++[DO.lst ps])[G.length]?=some (.lst ps):=by simp
  obtain ⟨aS,vs,e1,eS,rps⟩:=ab.lst eG
  rw [rS] at e1;cases e1
  have hvs:ps.length=vs.length:=rps.length
  have go:∀ h',IsPair h' s.heap.objs.size u1 u2→(∀ c o,c∉[z,TI,TO,i1,i2]→s.heap.get? c=some o→h'.get? c=some o)→IsPair h' TI (.ref i1) (.ref i2)→pU t1 h' i1 l1 (i+1)→pU t2 h' i2 l2 (i+1)→(∃ a b,IsPair h' TO a b) →
    (∃ T bb,oR h' z TI TO T bb∧(T=s.heap.objs.size∨∃ u v a b,IsPair h' T a b∧H T=some (.tup [u,v])))→(∀ c∈[z,TI,TO,i1,i2],c≠s.heap.objs.size) →
    wpAny (model X.prog X.w) A.in1 (updateSeq S (·.push (.ref s.heap.objs.size)) >>= λ_=>again (.builtin "list.extend.loop" ⟨[.ref S,.ref z,res],[]⟩)) (λfin s'=>match fin with
   | .done f=>R (.ok f) s'
   | .again c'=>c'.quiet=true∧codeAny (model X.prog X.w) A c' R s') (λe s'=>R (.error e) s') {s with heap:=h'}:=by
   intro h' hP hkp Ry MJ h2' ⟨ta,tb,Yz⟩ hZ hne
   obtain ⟨I1,hf1⟩:=Oi (x:=x) (y:=y) I hf hne Yn Rv hP hkp
   have hfree:=I.hok.fresh (Nat.le_refl s.heap.objs.size)
   have YA:S≠s.heap.objs.size:=λq=>by rw [q,hfree] at eS;cases eS
   have WR:upd H s.heap.objs.size (.tup [x,y]) S=some (.lst vs):=by rw [aI YA];exact eS
   obtain ⟨_,itS,nS,rS',_,gS⟩:=I1.Ng WR
   have f1:fh X.K H (upd H s.heap.objs.size (.tup [x,y])) (ρ++[S]) (ρ++[S]):=fX hfree _
   have rp:Rep X.K X.mg (ρ++[S]) (upd H s.heap.objs.size (.tup [x,y])) (.tup [d,e]) (.ref s.heap.objs.size):=by
    unfold Rep
    exact ⟨_,[x,y],rfl,.of ck,.cons ((rx.mono f).mono f1) (.cons ((ry.mono f).mono f1) .nil)⟩
   have I2:=I1.Nf (t':=s.toks) (its':=itS++[.ref s.heap.objs.size]) (f:=(·.push (.ref s.heap.objs.size))) (ys:=vs++[.ref s.heap.objs.size]) WR gS (by simp) (rS'.append (.cons (show RelV (.ref s.heap.objs.size) (.ref s.heap.objs.size) from rfl) .nil)) (by rw [List.length_append,List.length_singleton];nofun)
   have f2:=yX (K:=X.K) (ys:=vs++[.ref s.heap.objs.size]) WR (ρ++[S])
   have dW:=(ab.new (o:=.tup [x,y]) hfree).put rS WR (es:=ps++[.tup [d,e]]) (ys:=vs++[.ref s.heap.objs.size]) (ds:=ps) ((rps.mono f1).append (.cons rp .nil))
   have tT:∀ b o,b≠S→h'.get? b=some o→(h'.update S (Obj.mapSeq (·.push (.ref s.heap.objs.size)))).get? b=some o:=λb o hb q=>(Heap.get?_update_other _ _ (Ne.symm hb)).trans q
   have RG:∀ c∈[z,TI,TO,i1,i2],c≠S:=λc hc q=>hS (q▸hc)
   refine wpAny_bind (wpAny_updateSeq gS rfl (wpAny_pure ⟨plainId_quiet F.plain_extend_loop _,?_⟩) (by simp;nofun) (by simp;nofun))
   refine ih (i+1) _ _ (ps++[.tup [d,e]]) (by nofun) hlt (by simp [hps]) I2 (λc hc=>⟨by rw [aI (RG c hc)];exact (hf1 c hc).1,(hf1 c hc).2⟩) ((f.trans f1).trans f2) ?_ ?_ ?_ ?_ ?_
   ·have:(G++[DO.lst ps]).set G.length (.lst (ps++[.tup [d,e]]))=G++[.lst (ps++[.tup [d,e]])]:=by simp
    rw [← this];exact dW
   ·exact p1.at λo q=>tT _ _ hl1 (hkp _ _ (by simp [Dz.l1z,hT1,Dz.l1TO,Dz.l1i1,Dz.l1i2]) q)
   ·exact p2.at λo q=>tT _ _ hl2 (hkp _ _ (by simp [Dz.l2z,hT2,Dz.l2TO,Dz.l2i1,Dz.l2i2]) q)
   ·refine ⟨tT _ _ (RG _ (by simp)) Ry,MJ.at λo q=>tT _ _ (RG _ (by simp)) q,h2'.at λo q=>tT _ _ (RG _ (by simp)) q,⟨ta,tb,tT _ _ (RG _ (by simp)) Yz⟩,.inr ?_⟩
    obtain ⟨T,bb,hz1,rfl | ⟨u,v,a,b,hT,hH⟩⟩:=hZ
    ·exact ⟨_,bb,x,y,u1,u2,tT _ _ (RG _ (by simp)) hz1,tT _ _ (Ne.symm YA) hP,by rw [aI (Ne.symm YA)];exact ck⟩
    ·have hTS:T≠S:=λq=>by rw [q,eS] at hH;cases hH
     have hTp:T≠s.heap.objs.size:=λq=>by rw [q,hfree] at hH;cases hH
     exact ⟨T,bb,u,v,a,b,tT _ _ (RG _ (by simp)) hz1,tT _ _ hTS hT,by rw [aI hTS,aI hTp];exact hH⟩
   ·intro s' H' a1 a2 a3
    refine hR s' H' a1 a2 ?_
    rw [List.drop_eq_getElem_cons hlt,List.drop_eq_getElem_cons (show i<es.length by nofun),List.zipWith_cons_cons]
    rw [List.getElem?_eq_getElem hlt] at hd
    rw [List.getElem?_eq_getElem (show i<es.length by nofun)] at he
    cases hd;cases he
    simpa using a3
  obtain ⟨hTI,h1,h2,⟨a0,b0,hTO⟩,Fb⟩:=st
  have Rw:i1≠s.heap.objs.size:=by obtain ⟨o,q,_⟩:=h1.get;exact lt q
  have Rx:i2≠s.heap.objs.size:=by obtain ⟨o,q,_⟩:=h2.get;exact lt q
  have hne:∀ {o},s.heap.get? z=some o→∀ c∈[z,TI,TO,i1,i2],c≠s.heap.objs.size:=λq c hc=>by
   simp only [List.mem_cons,List.not_mem_nil,or_false] at hc
   rcases hc with rfl | rfl | rfl | rfl | rfl
   ·exact lt q
   ·exact lt hTI
   ·exact lt hTO
   ·exact Rw
   ·exact Rx
  rcases Fb with Fb | ⟨T,bb,u,v,a,b,Fb,hT,hH⟩
  ·refine wpAny_bind (tY Dz Fb hTI hTO h1 h2 p1 p2 (x:=u1) (y:=u2) (by simpa using hu1) (by simpa using WK) λh' a1 a2 a3 a4 a5 a6 hk=>?_)
   refine go h' a5 (λc o hc q=>hk c o (λe=>hc (by simp [e])) (λe=>hc (by simp [e])) (λe=>hc (by simp [e])) (λe=>hc (by simp [e])) q) (hk _ _ Dz.TIz Dz.TITO Dz.TIi1 Dz.TIi2 hTI) a3 a4 ⟨_,_,a2⟩ ⟨_,false,a1,.inl rfl⟩ (hne Fb)
  ·have hn:∀ c∈[z,TI,TO,i1,i2],c≠T:=λc hc q=>by rw [← q,(hf c hc).1] at hH;cases hH
   refine wpAny_bind (Am Dz Fb hTI hT h1 h2 p1 p2 (x:=u1) (y:=u2) (by simpa using hu1) (by simpa using WK) λh' a1 a3 a4 a5 hk=>?_)
   refine go h' a5 (λc o hc q=>hk c o (λe=>hc (by simp [e])) (λe=>hc (by simp [e])) (λe=>hc (by simp [e])) q) (hk _ _ Dz.TIz Dz.TIi1 Dz.TIi2 hTI) a3 a4 ⟨_,_,hk _ _ Dz.TOz Dz.TOi1 Dz.TOi2 hTO⟩ ⟨_,true,a1,.inr ⟨u,v,a,b,hk _ _ (Ne.symm (hn _ (by simp))) (Ne.symm (hn _ (by simp))) (Ne.symm (hn _ (by simp))) hT,hH⟩⟩ (hne Fb)
end
noncomputable def An:List D→M D
 | [d,e]=>λG=>match fG G d,fG G e with
  | some (_,xs),some (_,ys)=>if xs.length=ys.length then bU (List.zipWith (λd e=>D.tup [d,e]) xs ys) G else .stuck
  | _,_=>.stuck
 | _=>M.stop
section
variable {X:Cx} {EE:gA} {a b:Expr} {p p2 pos pos2:Pos} {m:DS→M (List D)}
theorem Gv (hc:X.calm=true) (hm1:X.mg "list"=none) (Uy:Gl X "list") (hm2:X.mg "zip"=none) (Uz:Gl X "zip") (ha:QA X EE [a,b] m) (h:aB [a,b]=true:=by rfl) :
  QE X EE (.Call (.Name "list" p) [.Call (.Name "zip" p2) [a,b] [] pos2] [] pos) (au An m):=by
 have h':dQ a=true∧aB [b]=true:=by simpa [aB] using h
 intro pins s σ H Q I hq
 have hq':=pZ (k:=λ_ ds=>An ds) hq
 refine wpAny_Call_Name_kw (iy I Uy hm1 boot_list ?_ (by decide) (by decide))
 refine PyProof.Rows.callWith_type1 ?_ (bR rfl _ _) (bY (es:=[]) rfl)
 rw [bR (e:=.Call (.Name "zip" p2) [a,b] [] pos2) rfl]
 show wpAny _ _ (spliced ((false,eval _ X.env)::backTo pos (starEach [] X.env))) _ _ s
 refine Calls.spliced_cons ?_
 refine wpAny_Call_Name_kw (iy I Uz hm2 boot_zip ?_ (by decide) (by decide))
 refine PyProof.Rows.callWith_type1 (gw (ha pos2 pins s σ H _ I hq') λus s1 yF=>?_) (bR h'.1 _ _) (bY h'.2)
 obtain ⟨vs,H1,I1,r1,τ,ρ,G,ds,ab,rs,ok⟩:=yF
 match ds,rs,ok with
 | [],_,ok=>exact ok.elim
 | [_],_,ok=>exact ok.elim
 | _::_::_::_,_,ok=>exact ok.elim
 | [d,e],rs,ok=>
  unfold aC at rs
  obtain ⟨x,rest,rfl,rx,rs⟩:=rs
  obtain ⟨y,rfl,ry⟩:=jU rs
  cases r1 with
  | cons ru rr=>
  rename_i u us'
  obtain ⟨u2,rfl,Rv⟩:=vals1 rr
  dsimp only [An] at ok
  cases q:fG G d with
  | none=>rw [q] at ok;exact ok.elim
  | some sk=>
   cases q2:fG G e with
   | none=>rw [q,q2] at ok;exact ok.elim
   | some Yo=>
      rw [q,q2] at ok
      dsimp only at ok
      obtain ⟨t1,zs⟩:=sk
      obtain ⟨t2,ws⟩:=Yo
      dsimp only at ok
      by_cases hl:zs.length=ws.length
      case neg=>rw [if_neg hl] at ok;exact ok.elim
      rw [if_pos hl] at ok
      obtain ⟨l,ys,rfl,sq,rv⟩:=vI (pins:=pins) (σ0:=σ) (s:=s1) ab.hp rx q
      obtain ⟨l2,ys2,rfl,O6,Ls⟩:=vI (pins:=pins) (σ0:=σ) (s:=s1) ab.hp ry q2
      cases ru
      cases Rv
      obtain ⟨its,vv,pl⟩:=I1.Ep sq
      obtain ⟨its2,UM,SG⟩:=I1.Ep O6
      have ll':(l:Nat)<s1.heap.objs.size:=pl.lt
      have UN:(l2:Nat)<s1.heap.objs.size:=SG.lt
      refine BQ pl SG λh2 b1 b2 b3 b4 b5 hsz kp=>?_
      refine Calls.spliced_nil ?_
      have I2:Inv X pins σ H1 {s1 with heap:=h2}:=I1.kept (t':=s1.toks) kp
      have Dz:ZipApart (s1.heap.objs.size+4) (s1.heap.objs.size+2) (s1.heap.objs.size+3) s1.heap.objs.size (s1.heap.objs.size+1) l l2:=by
       constructor<;>(intro q;simp only [Addr] at *;nofun)
      unfold bU at ok
      by_cases hz:(List.zipWith (λd e=>D.tup [d,e]) zs ws).length≤sizeLine
      case neg=>rw [if_neg hz] at ok;exact ok.elim
      rw [if_pos hz] at ok
      have hz':zs.length≤sizeLine:=by rw [List.length_zipWith] at hz;nofun
      refine A0 (s:={s1 with heap:=h2}) b1 λh3 c R hR Pb hS=>?_
      have hfree:=I2.hok.fresh (Nat.le_refl _)
      have I3:Inv X pins σ (upd H1 h2.objs.size (.lst [])) {s1 with heap:=h3}:=I2.laid (t':=s1.toks) Pb (Nat.le_refl _) ⟨by simp,[],c,.nil,hS⟩
      have f0:fh X.K H1 (upd H1 h2.objs.size (.lst [])) ρ (ρ++[h2.objs.size]):=(fX hfree ρ).trans (jk ρ _)
      have KD:=ab.hp.more (ds:=[]) (xs:=[]) hfree .nil
      have hge:∀ c∈[s1.heap.objs.size+4,s1.heap.objs.size+2,s1.heap.objs.size+3,s1.heap.objs.size,s1.heap.objs.size+1],s1.heap.objs.size≤c∧c<h2.objs.size:=λc hc=>by
       simp only [List.mem_cons,List.not_mem_nil,or_false] at hc
       rcases hc with rfl | rfl | rfl | rfl | rfl<;>(constructor<;>nofun)
      refine LU (t1:=t1) (t2:=t2) (show X.A.in1.handled=none from I.ok.hd hc) Dz (λhc=>absurd (hge _ hc).2 (Nat.lt_irrefl _)) (Nat.ne_of_lt (Nat.lt_of_lt_of_le ll' (show s1.heap.objs.size≤h2.objs.size by nofun))) (Nat.ne_of_lt (Nat.lt_of_lt_of_le UN (show s1.heap.objs.size≤h2.objs.size by nofun))) (λe=>by simp only [Addr] at *;nofun) (λe=>by simp only [Addr] at *;nofun) rv Ls vv UM hl hz' zs.length 0 _ _ [] (by simp) (Nat.zero_le _) rfl I3 (λc hc=>?_) f0 KD ?_ ?_ ?_ ?_
      ·have e0:=hge c hc
       have:=I1.uZ (H':=upd H1 h2.objs.size (.lst [])) (b:=c) e0.1 (by rw [aI (Nat.ne_of_lt e0.2)];exact I1.hok.fresh e0.1)
       exact this
      ·exact pl.at λo q=>Pb _ _ (kp _ _ q)
      ·exact SG.at λo q=>Pb _ _ (kp _ _ q)
      ·exact ⟨Pb _ _ b2,b4.at λo q=>Pb _ _ q,b5.at λo q=>Pb _ _ q,⟨_,_,Pb _ _ b3⟩,.inl (Pb _ _ b1)⟩
      ·intro s' H' I' f' di
       refine hR _ ⟨.ref h2.objs.size,H',I',rfl,?_⟩
       simp only [List.drop_zero,List.nil_append] at di
       refine ok (.ref h2.objs.size) H' _ f' ⟨ab.st.mono f',di⟩ ?_
       unfold Rep
       exact ⟨_,rfl,by rw [← ab.hp.hl,aY]⟩
end
section
variable {X:Cx} {EE:gA} {o i e:Expr} {pos p:Pos} {mo mi:DS→M D} {m:DS→M (List D)}
noncomputable def sr (G:DH):D→Option (List (Key×D))
 | .obj n=>match G[n]? with
  | some (.dct kvs)=>some kvs
  | _=>none
 | _=>none
theorem xF {x:V} (h:jR X.K X.mg H ρ G) (r:Rep X.K X.mg ρ H d x) (e:sr G d=some kvs):∃ a xs,x=.ref a∧H a=some (.dK ((kvs.map (·.1)).zip xs))∧aC X.K X.mg ρ H (kvs.map (·.2)) xs:=by
 cases d with
 | obj n=>
  unfold Rep at r
  obtain ⟨a,rfl,ea⟩:=r
  dsimp only [sr] at e
  cases g:G[n]? with
  | none=>rw [g] at e;cases e
  | some ob=>
   cases ob with
   | dct kv=>
    rw [g] at e;cases e
    obtain ⟨a',xs,e1,e2,rs⟩:=h.dct g
    rw [ea] at e1;cases e1
    exact ⟨a,xs,rfl,e2,rs⟩
   | _=>rw [g] at e;cases e
 | _=>cases e
noncomputable def RH (d k:D):M D:=λG=>match sr G d,Ac k with
 | some kvs,some y=>match Ad kvs y with
  | some v=>.ok v G
  | none=>.stuck
 | _,_=>.stuck
noncomputable def LV (mo mi:DS→M D):DS→M D:=λτ=>(mo τ).bind λd=>(mi τ).bind λk=>RH d k
theorem RI (hu:X.A.units+600<cLine) (ho:QE X EE o mo) (hi:QE X EE i mi) (hs:QJ i):QE X EE (.Subscript o i pos) (LV mo mi):=by
 refine PE.mono (Nj (by nofun) ho hi hs) λσ H Q zz=>?_
 obtain ⟨τ,ρ,G,ab,ok⟩:=zz
 refine ⟨τ,ρ,G,ab,?_⟩
 dsimp only [LV,M.bind] at ok
 cases e1:mo τ G with
 | stuck=>rw [e1] at ok;exact ok
 | dU c G'=>rw [e1] at ok;exact ok
 | ok d G1=>
  rw [e1] at ok
  dsimp only at ok
  intro vd H1 ρ1 f1 nB r1
  refine ⟨τ,ρ1,G1,nB,?_⟩
  cases e2:mi τ G1 with
  | stuck=>rw [e2] at ok;exact ok
  | dU c G'=>rw [e2] at ok;exact λH' ρ' f di=>ok H' ρ' (f1.trans f) di
  | ok k G2=>
   rw [e2] at ok
   dsimp only [RH] at ok
   intro vk H2 ρ2 f2 dW r2
   cases q:sr G2 d with
   | none=>rw [q] at ok;exact ok.elim
   | some kvs=>
    cases ek:Ac k with
    | none=>rw [q,ek] at ok;exact ok.elim
    | some y=>
     rw [q,ek] at ok
     dsimp only at ok
     obtain ⟨a,xs,rfl,eH,rs⟩:=xF dW.hp (r1.mono f2) q
     have ev:=CK r2 ek
     subst ev
     rcases Ae y rs with ⟨z1,z2⟩ | ⟨dv,v,z1,z2,z3⟩
     ·rw [z1] at ok;exact ok.elim
     ·rw [z1] at ok
      refine ⟨a,v,rfl,?_,ok v H2 ρ2 (f1.trans f2) dW z3⟩
      have:=AQ.k (k:=y) eH
      rw [z2] at this;exact this
noncomputable def LW (d e:D):M D:=λG=>match sr G e,Ac d with
 | some kvs,some y=>.ok (.bl (Ad kvs y).isSome) G
 | _,_=>.stuck
theorem RJ (hu:X.A.units+600<cLine):nv X (compareOp .In) (rD X EE LW):=by
 intro pins s σ0 H x y v u Q I rx ry ⟨σ,τ,ρ,G,d,e,ab,r1,r2,ok⟩
 dsimp only [LW] at ok
 cases q:sr G e with
 | none=>rw [q] at ok;exact ok.elim
 | some kvs=>
  cases ek:Ac d with
  | none=>rw [q,ek] at ok;exact ok.elim
  | some y=>
   rw [q,ek] at ok
   obtain ⟨a,xs,rfl,eH,rs⟩:=xF ab.hp r2 q
   have ev:=CK r1 ek
   subst ev
   cases ry
   refine XQ (by nofun) I (AQ.k (k:=y) eH) rx λs' I'=>⟨.bl _,H,I',rfl,ok _ H ρ .refl ab ?_⟩
   unfold Rep
   rcases Ae y rs with ⟨z1,z2⟩ | ⟨dv,v,z1,z2,z3⟩
   ·rw [z1,z2];rfl
   ·rw [z1,z2];rfl
noncomputable def EC:List D→M D
 | [d]=>λG=>match sr G d with
  | some kvs=>.ok (.int kvs.length) G
  | _=>.stuck
 | _=>M.stop
theorem Jq:jb X (.builtin "len") (JM X EE EC):=by
 intro pins s σ0 H xs us Q I r ⟨σ,τ,ρ,G,ds,ab,rs,ok⟩
 match ds,ok with
 | [],ok=>exact ok.elim
 | _::_::_,ok=>exact ok.elim
 | [d],ok=>
  obtain ⟨x,rfl,rx⟩:=jU rs
  obtain ⟨u,rfl,ru⟩:=vals1 r
  dsimp only [EC] at ok
  cases q:sr G d with
  | none=>rw [q] at ok;exact ok.elim
  | some kvs=>
   rw [q] at ok
   obtain ⟨a,xs,rfl,eH,rs⟩:=xF ab.hp rx q
   cases ru
   refine TY I (.inl eH) λt s' I'=>⟨.int _,H,I',⟨_,rfl⟩,ok _ H ρ .refl ab ?_⟩
   have:=rs.length
   unfold Rep
   rw [List.length_zip,← this];simp
theorem Oj (hm:X.mg "len"=none) (hg:Gl X "len") (ha:QA X EE [e] m) (h:aB [e]=true:=by rfl):QE X EE (.Call (.Name "len" p) [e] [] pos) (au EC m):=pG Jq hm hg PySem.boot_len ha (by decide) (by decide) h
noncomputable def yg:List (Str×(DS→M D))→DS→M (List (Key×D))
 | [],_=>M.ret []
 | (k,m)::r,τ=>(m τ).bind λa=>(yg r τ).bind λl=>M.ret ((Sum.inr k,a)::l)
noncomputable def OkV (X:Cx) (H:Hp) (σ:L2.St) (τ:DS) (ρ:List Addr) (Q:List (V×V)→Hp→Prop):Out (List (Key×D))→Prop
 | .ok JR G2=>∀ H2 ρ2 xs,fh X.K H H2 ρ ρ2→Ab X.K X.mg σ H2 τ ρ2 G2→aC X.K X.mg ρ2 H2 (JR.map (·.2)) xs→Q (((JR.map (·.1)).zip xs).map λkv=>(kV kv.1,kv.2)) H2
 | _=>False
theorem ED {σ:L2.St} {τ:DS}:∀ (l:List (Str×(DS→M D))) (H:Hp) (ρ:List Addr) (G:DH) (Q:List (V×V)→Hp→Prop),Ab X.K X.mg σ H τ ρ G→OkV X H σ τ ρ Q (yg l τ G) →
  Cr (l.map λkm=>(cS X.K X.mg EE (eC (.str km.1)),cS X.K X.mg EE km.2)) σ H Q
 | [],H,ρ,G,Q,ab,ok=>ok H ρ [] .refl ab .nil
 | (k,m)::r,H,ρ,G,Q,ab,ok=>by
  dsimp only [yg,M.bind,M.ret] at ok
  show cS X.K X.mg EE (eC (.str k)) σ H _
  refine ⟨τ,ρ,G,ab,λvk H1 ρ1 f1 nB r1=>⟨τ,ρ1,G,nB,?_⟩⟩
  unfold Rep at r1;subst r1
  dsimp only
  cases e1:m τ G with
  | stuck=>rw [e1] at ok;exact ok.elim
  | dU c G'=>rw [e1] at ok;exact ok.elim
  | ok a G1=>
   rw [e1] at ok
   dsimp only at ok
   intro va H2 ρ2 f2 dW r2
   refine ED r H2 ρ2 G1 _ dW ?_
   cases e2:yg r τ G1 with
   | stuck=>rw [e2] at ok;exact ok.elim
   | dU c G'=>rw [e2] at ok;exact ok.elim
   | ok l G2=>
    rw [e2] at ok
    intro H3 ρ3 xs f3 yZ rs
    exact ok H3 ρ3 (va::xs) ((f1.trans f2).trans f3) yZ (.cons (r2.mono f3) rs)
noncomputable def CV (l:List (Key×D)):List (Key×D):=l.foldl (λacc kv=>vF acc kv.1 kv.2) []
theorem BX {H:Hp} {ρ:List Addr}:∀ {l:List (Key×D)} {xs:List V} {acc:List (Key×D)} {ys:List V},aC X.K X.mg ρ H (l.map (·.2)) xs→aC X.K X.mg ρ H (acc.map (·.2)) ys →
  ∃ zs,rV ((acc.map (·.1)).zip ys) ((l.map (·.1)).zip xs)=((l.foldl (λacc kv=>vF acc kv.1 kv.2) acc).map (·.1)).zip zs∧aC X.K X.mg ρ H ((l.foldl (λacc kv=>vF acc kv.1 kv.2) acc).map (·.2)) zs
 | [],xs,acc,ys,r,ra=>⟨ys,by simp [rV],ra⟩
 | kv::l,xs,acc,ys,r,ra=>by
  rw [List.map_cons] at r
  unfold aC at r
  obtain ⟨v,r',rfl,h1,h2⟩:=r
  obtain ⟨ws,e,rw'⟩:=Ef kv.1 h1 ra
  obtain ⟨zs,e2,rz⟩:=BX h2 rw'
  refine ⟨zs,?_,rz⟩
  rw [← e] at e2
  exact e2
noncomputable def BY (l:List (Str×(DS→M D))):DS→M D:=λτ G=>match yg l τ (G++[.dct []]) with
 | .ok JR G2=>match G2[G.length]? with
  | some (.dct [])=>if JR.length≤15 then .ok (.obj G.length) (G2.set G.length (.dct (CV JR))) else .stuck
  | _=>.stuck
 | _=>.stuck
theorem LX {k v:Expr} {m:DS→M D} {r:List (Str×(DS→M D))} {ks:List (Option Expr)} {vs:List Expr} (hk:QE X EE k (eC (.str x))) (hv:QE X EE v m) (hr:QL X pos ks vs (r.map λkm=>(cS X.K X.mg EE (eC (.str km.1)),cS X.K X.mg EE km.2))) :
  QL X pos (some k::ks) (v::vs) (((x,m)::r).map λkm=>(cS X.K X.mg EE (eC (.str km.1)),cS X.K X.mg EE km.2)):=Kd hk hv hr
theorem Ol {keys:List (Option Expr)} {l:List (Str×(DS→M D))} (hp:QL X pos keys values (l.map λkm=>(cS X.K X.mg EE (eC (.str km.1)),cS X.K X.mg EE km.2))) (hall:keys.all (·.isSome)=true) (hl:keys.length=values.length) (h0:keys≠[]) (XR:keys.length≤15):QE X EE (.Dict keys values pos) (BY l):=by
 refine PE.mono (Nn hp hall hl h0 XR) λσ H Q zz=>?_
 obtain ⟨τ,ρ,G,ab,ok⟩:=zz
 intro p hp
 have f0:fh X.K H (upd H p (.dK [])) ρ (ρ++[p]):=(fX hp ρ).trans (jk ρ p)
 have KD:Ab X.K X.mg σ (upd H p (.dK [])) τ (ρ++[p]) (G++[.dct []]):=⟨ab.st.mono f0,ab.hp.O2 hp⟩
 have r0:(ρ++[p])[G.length]?=some p:=by rw [← ab.hp.hl,aY]
 refine ED l _ _ _ _ KD ?_
 unfold BY at ok
 cases e1:yg l τ (G++[.dct []]) with
 | stuck=>rw [e1] at ok;exact ok.elim
 | dU c G'=>rw [e1] at ok;exact ok.elim
 | ok JR G2=>
  rw [e1] at ok
  dsimp only at ok
  intro H2 ρ2 xs f2 dW rs
  cases g:G2[G.length]? with
  | none=>rw [g] at ok;exact ok.elim
  | some ob=>
   rw [g] at ok
   cases ob with
   | dct kvs=>
    cases kvs with
    | cons a b=>exact ok.elim
    | nil=>
     dsimp only at ok
     by_cases h:JR.length≤15
     ·rw [if_pos h] at ok
      obtain ⟨a,ys,e2,eH,_⟩:=dW.hp.dct g
      rw [f2.get r0] at e2;cases e2
      have hlx:JR.length=xs.length:=by simpa using rs.length
      obtain ⟨zs,e3,rz⟩:=BX (acc:=[]) (ys:=[]) rs .nil
      refine ⟨by simpa using eH,(JR.map (·.1)).zip xs,rfl,by simp;nofun,?_⟩
      have YB:rV [] ((JR.map (·.1)).zip xs)=((CV JR).map (·.1)).zip zs:=e3
      rw [YB]
      have f3:fh X.K H2 (upd H2 p (.dK (((CV JR).map (·.1)).zip zs))) ρ2 ρ2:=vG eH ρ2
      refine ok (.ref p) _ ρ2 ((f0.trans f2).trans f3) ⟨dW.st.mono f3,dW.hp.putD (f2.get r0) eH rz⟩ ?_
      unfold Rep
      exact ⟨p,rfl,f2.get r0⟩
     ·rw [if_neg h] at ok;exact ok.elim
   | _=>exact ok.elim
end
section
variable {τ r:DS} {G:DH} {x y d:D} {f:D→D→M D} {ma mb:DS→M D} {ml:DS→M (List D)} {a b c e g h i j k l m n o:Option D}
@[simp high] theorem gi0:(a::r)[0]?=some a:=Eq.trans rfl rfl
@[simp high] theorem si0 {w:Option D}:(a::r).set 0 w=w::r:=Eq.trans rfl rfl
@[simp high] theorem ev0:ai 0 (some x::r) G=.ok x G:=Eq.trans rfl rfl
@[simp high] theorem ac8:aE f (ai 0) (eC d) (some x::r) G=f x d G:=Eq.trans rfl rfl
@[simp high] theorem ov0:aE f (ai 0) mb (some x::r) G=(mb (some x::r) G).bd (f x):=aF
@[simp high] theorem av0:af (ai 0) ml (some x::r) G=(ml (some x::r) G).bd λz=>M.ret (x::z):=aF
@[simp high] theorem gi1:(a::b::r)[1]?=some b:=Eq.trans rfl rfl
@[simp high] theorem si1 {w:Option D}:(a::b::r).set 1 w=a::w::r:=Eq.trans rfl rfl
@[simp high] theorem ev1:ai 1 (a::some x::r) G=.ok x G:=Eq.trans rfl rfl
@[simp high] theorem ac9:aE f (ai 1) (eC d) (a::some x::r) G=f x d G:=Eq.trans rfl rfl
@[simp high] theorem ov1:aE f (ai 1) mb (a::some x::r) G=(mb (a::some x::r) G).bd (f x):=aF
@[simp high] theorem av1:af (ai 1) ml (a::some x::r) G=(ml (a::some x::r) G).bd λz=>M.ret (x::z):=aF
@[simp high] theorem gi2:(a::b::c::r)[2]?=some c:=Eq.trans rfl rfl
@[simp high] theorem si2 {w:Option D}:(a::b::c::r).set 2 w=a::b::w::r:=Eq.trans rfl rfl
@[simp high] theorem Yr:ai 2 (a::b::some x::r) G=.ok x G:=Eq.trans rfl rfl
@[simp high] theorem ada:aE f (ai 2) (eC d) (a::b::some x::r) G=f x d G:=Eq.trans rfl rfl
@[simp high] theorem ov2:aE f (ai 2) mb (a::b::some x::r) G=(mb (a::b::some x::r) G).bd (f x):=aF
@[simp high] theorem av2:af (ai 2) ml (a::b::some x::r) G=(ml (a::b::some x::r) G).bd λz=>M.ret (x::z):=aF
@[simp high] theorem gi3:(a::b::c::e::r)[3]?=some e:=Eq.trans rfl rfl
@[simp high] theorem si3 {w:Option D}:(a::b::c::e::r).set 3 w=a::b::c::w::r:=Eq.trans rfl rfl
@[simp high] theorem ev3:ai 3 (a::b::c::some x::r) G=.ok x G:=Eq.trans rfl rfl
@[simp high] theorem adb:aE f (ai 3) (eC d) (a::b::c::some x::r) G=f x d G:=Eq.trans rfl rfl
@[simp high] theorem ov3:aE f (ai 3) mb (a::b::c::some x::r) G=(mb (a::b::c::some x::r) G).bd (f x):=aF
@[simp high] theorem av3:af (ai 3) ml (a::b::c::some x::r) G=(ml (a::b::c::some x::r) G).bd λz=>M.ret (x::z):=aF
@[simp high] theorem gi4:(a::b::c::e::g::r)[4]?=some g:=Eq.trans rfl rfl
@[simp high] theorem si4 {w:Option D}:(a::b::c::e::g::r).set 4 w=a::b::c::e::w::r:=Eq.trans rfl rfl
@[simp high] theorem ev4:ai 4 (a::b::c::e::some x::r) G=.ok x G:=Eq.trans rfl rfl
@[simp high] theorem ade:aE f (ai 4) (eC d) (a::b::c::e::some x::r) G=f x d G:=Eq.trans rfl rfl
@[simp high] theorem ov4:aE f (ai 4) mb (a::b::c::e::some x::r) G=(mb (a::b::c::e::some x::r) G).bd (f x):=aF
@[simp high] theorem av4:af (ai 4) ml (a::b::c::e::some x::r) G=(ml (a::b::c::e::some x::r) G).bd λz=>M.ret (x::z):=aF
@[simp high] theorem gi5:(a::b::c::e::g::h::r)[5]?=some h:=Eq.trans rfl rfl
@[simp high] theorem si5 {w:Option D}:(a::b::c::e::g::h::r).set 5 w=a::b::c::e::g::w::r:=Eq.trans rfl rfl
@[simp high] theorem ev5:ai 5 (a::b::c::e::g::some x::r) G=.ok x G:=Eq.trans rfl rfl
@[simp high] theorem adf:aE f (ai 5) (eC d) (a::b::c::e::g::some x::r) G=f x d G:=Eq.trans rfl rfl
@[simp high] theorem ov5:aE f (ai 5) mb (a::b::c::e::g::some x::r) G=(mb (a::b::c::e::g::some x::r) G).bd (f x):=aF
@[simp high] theorem av5:af (ai 5) ml (a::b::c::e::g::some x::r) G=(ml (a::b::c::e::g::some x::r) G).bd λz=>M.ret (x::z):=aF
@[simp high] theorem gi6:(a::b::c::e::g::h::i::r)[6]?=some i:=Eq.trans rfl rfl
@[simp high] theorem si6 {w:Option D}:(a::b::c::e::g::h::i::r).set 6 w=a::b::c::e::g::h::w::r:=Eq.trans rfl rfl
@[simp high] theorem ev6:ai 6 (a::b::c::e::g::h::some x::r) G=.ok x G:=Eq.trans rfl rfl
@[simp high] theorem adg:aE f (ai 6) (eC d) (a::b::c::e::g::h::some x::r) G=f x d G:=Eq.trans rfl rfl
@[simp high] theorem ov6:aE f (ai 6) mb (a::b::c::e::g::h::some x::r) G=(mb (a::b::c::e::g::h::some x::r) G).bd (f x):=aF
@[simp high] theorem av6:af (ai 6) ml (a::b::c::e::g::h::some x::r) G=(ml (a::b::c::e::g::h::some x::r) G).bd λz=>M.ret (x::z):=aF
@[simp high] theorem gi7:(a::b::c::e::g::h::i::j::r)[7]?=some j:=Eq.trans rfl rfl
@[simp high] theorem si7 {w:Option D}:(a::b::c::e::g::h::i::j::r).set 7 w=a::b::c::e::g::h::i::w::r:=Eq.trans rfl rfl
@[simp high] theorem ev7:ai 7 (a::b::c::e::g::h::i::some x::r) G=.ok x G:=Eq.trans rfl rfl
@[simp high] theorem adh:aE f (ai 7) (eC d) (a::b::c::e::g::h::i::some x::r) G=f x d G:=Eq.trans rfl rfl
@[simp high] theorem ov7:aE f (ai 7) mb (a::b::c::e::g::h::i::some x::r) G=(mb (a::b::c::e::g::h::i::some x::r) G).bd (f x):=aF
@[simp high] theorem av7:af (ai 7) ml (a::b::c::e::g::h::i::some x::r) G=(ml (a::b::c::e::g::h::i::some x::r) G).bd λz=>M.ret (x::z):=aF
@[simp high] theorem gi8:(a::b::c::e::g::h::i::j::k::r)[8]?=some k:=Eq.trans rfl rfl
@[simp high] theorem si8 {w:Option D}:(a::b::c::e::g::h::i::j::k::r).set 8 w=a::b::c::e::g::h::i::j::w::r:=Eq.trans rfl rfl
@[simp high] theorem ev8:ai 8 (a::b::c::e::g::h::i::j::some x::r) G=.ok x G:=Eq.trans rfl rfl
@[simp high] theorem adi:aE f (ai 8) (eC d) (a::b::c::e::g::h::i::j::some x::r) G=f x d G:=Eq.trans rfl rfl
@[simp high] theorem ov8:aE f (ai 8) mb (a::b::c::e::g::h::i::j::some x::r) G=(mb (a::b::c::e::g::h::i::j::some x::r) G).bd (f x):=aF
@[simp high] theorem av8:af (ai 8) ml (a::b::c::e::g::h::i::j::some x::r) G=(ml (a::b::c::e::g::h::i::j::some x::r) G).bd λz=>M.ret (x::z):=aF
@[simp high] theorem gi9:(a::b::c::e::g::h::i::j::k::l::r)[9]?=some l:=Eq.trans rfl rfl
@[simp high] theorem si9 {w:Option D}:(a::b::c::e::g::h::i::j::k::l::r).set 9 w=a::b::c::e::g::h::i::j::k::w::r:=Eq.trans rfl rfl
@[simp high] theorem ev9:ai 9 (a::b::c::e::g::h::i::j::k::some x::r) G=.ok x G:=Eq.trans rfl rfl
@[simp high] theorem adj:aE f (ai 9) (eC d) (a::b::c::e::g::h::i::j::k::some x::r) G=f x d G:=Eq.trans rfl rfl
@[simp high] theorem ov9:aE f (ai 9) mb (a::b::c::e::g::h::i::j::k::some x::r) G=(mb (a::b::c::e::g::h::i::j::k::some x::r) G).bd (f x):=aF
@[simp high] theorem av9:af (ai 9) ml (a::b::c::e::g::h::i::j::k::some x::r) G=(ml (a::b::c::e::g::h::i::j::k::some x::r) G).bd λz=>M.ret (x::z):=aF
@[simp high] theorem adk:(a::b::c::e::g::h::i::j::k::l::m::r)[10]?=some m:=Eq.trans rfl rfl
@[simp high] theorem adl {w:Option D}:(a::b::c::e::g::h::i::j::k::l::m::r).set 10 w=a::b::c::e::g::h::i::j::k::l::w::r:=Eq.trans rfl rfl
@[simp high] theorem adm:ai 10 (a::b::c::e::g::h::i::j::k::l::some x::r) G=.ok x G:=Eq.trans rfl rfl
@[simp high] theorem aau:aE f (ai 10) (eC d) (a::b::c::e::g::h::i::j::k::l::some x::r) G=f x d G:=Eq.trans rfl rfl
@[simp high] theorem adn:aE f (ai 10) mb (a::b::c::e::g::h::i::j::k::l::some x::r) G=(mb (a::b::c::e::g::h::i::j::k::l::some x::r) G).bd (f x):=aF
@[simp high] theorem ado:af (ai 10) ml (a::b::c::e::g::h::i::j::k::l::some x::r) G=(ml (a::b::c::e::g::h::i::j::k::l::some x::r) G).bd λz=>M.ret (x::z):=aF
@[simp high] theorem adp:(a::b::c::e::g::h::i::j::k::l::m::n::r)[11]?=some n:=Eq.trans rfl rfl
@[simp high] theorem adq {w:Option D}:(a::b::c::e::g::h::i::j::k::l::m::n::r).set 11 w=a::b::c::e::g::h::i::j::k::l::m::w::r:=Eq.trans rfl rfl
@[simp high] theorem ads:ai 11 (a::b::c::e::g::h::i::j::k::l::m::some x::r) G=.ok x G:=Eq.trans rfl rfl
@[simp high] theorem aav:aE f (ai 11) (eC d) (a::b::c::e::g::h::i::j::k::l::m::some x::r) G=f x d G:=Eq.trans rfl rfl
@[simp high] theorem adt:aE f (ai 11) mb (a::b::c::e::g::h::i::j::k::l::m::some x::r) G=(mb (a::b::c::e::g::h::i::j::k::l::m::some x::r) G).bd (f x):=aF
@[simp high] theorem adu:af (ai 11) ml (a::b::c::e::g::h::i::j::k::l::m::some x::r) G=(ml (a::b::c::e::g::h::i::j::k::l::m::some x::r) G).bd λz=>M.ret (x::z):=aF
@[simp high] theorem adv:(a::b::c::e::g::h::i::j::k::l::m::n::o::r)[12]?=some o:=Eq.trans rfl rfl
@[simp high] theorem adw {w:Option D}:(a::b::c::e::g::h::i::j::k::l::m::n::o::r).set 12 w=a::b::c::e::g::h::i::j::k::l::m::n::w::r:=Eq.trans rfl rfl
@[simp high] theorem adx:ai 12 (a::b::c::e::g::h::i::j::k::l::m::n::some x::r) G=.ok x G:=Eq.trans rfl rfl
@[simp high] theorem aaw:aE f (ai 12) (eC d) (a::b::c::e::g::h::i::j::k::l::m::n::some x::r) G=f x d G:=Eq.trans rfl rfl
@[simp high] theorem ady:aE f (ai 12) mb (a::b::c::e::g::h::i::j::k::l::m::n::some x::r) G=(mb (a::b::c::e::g::h::i::j::k::l::m::n::some x::r) G).bd (f x):=aF
@[simp high] theorem adz:af (ai 12) ml (a::b::c::e::g::h::i::j::k::l::m::n::some x::r) G=(ml (a::b::c::e::g::h::i::j::k::l::m::n::some x::r) G).bd λz=>M.ret (x::z):=aF
@[simp high] theorem occ:aE f (eC x) (eC d) τ G=f x d G:=Eq.trans rfl rfl
@[simp high] theorem ocl:aE f (eC x) mb τ G=(mb τ G).bd (f x):=aF
@[simp] theorem ocr:aE f ma (eC d) τ G=(ma τ G).bd λx=>f x d:=aF
@[simp high] theorem acl:af (eC x) ml τ G=(ml τ G).bd λz=>M.ret (x::z):=aF
@[simp high] theorem ac1:af (eC x) aq τ G=.ok [x] G:=Eq.trans rfl rfl
end
end L3
namespace K41
open PySem PySem.Spec L2 L3
noncomputable def top (i:Nat):Stmt:=PySem.Challenge.pw_pathshape_k41_tables.main.body.getD i (.Pass ⟨0,0,0,0⟩)
noncomputable abbrev bW:Stmt:=top 1
noncomputable abbrev cC:Stmt:=top 2
noncomputable abbrev bG:Stmt:=top 3
noncomputable abbrev cV:Stmt:=top 4
noncomputable abbrev bZ:Stmt:=top 6
noncomputable abbrev cE:Stmt:=top 7
noncomputable abbrev cF:Stmt:=top 8
noncomputable abbrev fQ:Stmt:=top 9
noncomputable abbrev cR:Stmt:=top 11
noncomputable abbrev bH:Stmt:=top 12
noncomputable abbrev bf:Stmt:=top 13
noncomputable abbrev bA:Stmt:=top 14
noncomputable abbrev aU:Stmt:=top 15
noncomputable abbrev bK:Stmt:=top 16
noncomputable abbrev cK:Stmt:=top 17
noncomputable abbrev aN:Stmt:=top 18
noncomputable abbrev aT:Stmt:=top 19
noncomputable abbrev bh:Stmt:=top 20
noncomputable abbrev az:Stmt:=top 21
noncomputable abbrev br:Stmt:=top 22
noncomputable abbrev bI:Stmt:=top 23
noncomputable abbrev ia:Stmt:=top 24
noncomputable abbrev gJ:Stmt:=(aD bZ).getD 1 (.Pass ⟨0,0,0,0⟩)
noncomputable abbrev dF:oO:=⟨"<lambda>","table_of.<locals>.<lambda>",Of (BU gJ),.expr (HP (BU gJ)),Ey (BU gJ),(BU gJ).pos,["rows"]⟩
noncomputable abbrev ic:Scope:=Ey (BU gJ)
noncomputable abbrev qp:List Str:=["look"]
noncomputable def gn:MS:=bq (p8 (kK (aE (mq false) (aE fB (ai 0) (eC (.int 0))) (eC (.str "way")))) (fC (eFn (ri (oT 2) [] (aE fB (ai 0) (eC (.int 1))) (lN) (ai 1)))) (eg)) (bq (p8 (kK (aE (BC false) (aE fB (ai 0) (eC (.int 0))) (au gx (af (eC (.str "not")) (af (eC (.str "both")) (af (eC (.str "either")) (aq))))))) (fC (eFn (au xu (af (eFn (BD (ai 0) (jm (eC (.int 1))) (jT))) (aq))))) (eg)) (fC (eFn (au bU (aq)))))
noncomputable def eu (ds:List D):M D:=jn (λds=>dR 1 gn ds) ds
noncomputable abbrev su:List Str:=["look","parts"]
noncomputable def iM:MS:=bq (p8 (kK (aE (mq false) (aE fB (ai 0) (eC (.int 0))) (eC (.str "way")))) (fC (au gx (af (eC (.str "way")) (af (au qg (af (eFn (qh (oT 2) [] (Lv (af (aE fB (ai 0) (eC (.int 1))) (af (ai 1) (aq)))) (lN) (au gx (af (aE fB (ai 0) (eC (.int 0))) (af (ai 1) (aq)))))) (aq))) (aq))))) (eg)) (bq (p8 (kK (aE (mq false) (au gj (af (ai 1) (aq))) (eC (.int 0)))) (fC (ai 0)) (eg)) (fC (aE bO (au gx (af (aE fB (ai 0) (eC (.int 0))) (aq))) (au qg (af (ai 1) (aq))))))
noncomputable def lQ (ds:List D):M D:=jn (λds=>dR 2 iM ds) ds
noncomputable abbrev BZ:List Str:=["rows","row"]
noncomputable def xG:MS:=bq (pC (gk "list" fY (ai 0) (af (ai 1) (aq)))) (fC (aE yH (au gj (af (ai 0) (aq))) (eC (.int 1))))
noncomputable def kQ (ds:List D):M D:=dR 2 xG ds
noncomputable abbrev Ao:List Str:=["_law_cell","_law_k","_law_digit","_law_j","_law_number"]
noncomputable def om:MS:=bP 2 (aE Km (ai 2) (eC (.int 840)))
noncomputable def oq:MS:=bq (bP 2 (ai 0)) (lA kL (gN 3) (af (aE lM (ai 1) (eC (.int 46))) (aq)) om)
noncomputable def nG:MS:=bq (bP 2 (eC (.int 0))) (bq (p8 (kK (aE WB (ai 0) (aE Nu (eC (.int 10)) (eC (.int 9))))) (oq) (eg)) (bq (p8 (kK (aE DP (ai 2) (eC (.int 0)))) (fC (aE lM (ai 2) (eC (.int 840)))) (eg)) (bq (bP 4 (aE bO (aE bO (aE lM (ai 0) (eC (.int 1000000007))) (aE IK (eC (.int 7919)) (ai 1))) (eC (.int 13)))) (bq (bP 4 (aE lM (aE IK (ai 4) (ai 4)) (eC (.int 998244353)))) (fC (aE Km (aE lM (aE IK (ai 4) (aE bO (aE bO (ai 4) (aE IK (eC (.int 16807)) (ai 1))) (eC (.int 1)))) (eC (.int 1000000007))) (eC (.int 3))))))))
noncomputable def aK (ds:List D):M D:=jn (λds=>dR 5 nG ds) ds
noncomputable abbrev tZ:List Str:=["_law_masks_of","_law_bits","_law_here","_law_i","_law_mask"]
noncomputable def iN:MS:=p8 (kK (aE (mq true) (aE LM (ai 4) (ai 1)) (eC (.int 0)))) (bP 2 (aE UY (ai 2) (aE Ez (eC (.int 1)) (ai 3)))) (eg)
noncomputable def lB:MS:=bq (bP 2 (eC (.int 0))) (bq (tV (gP 3 4) (sf (af (ai 0) (aq))) iN) (fC (ai 2)))
noncomputable def lC (ds:List D):M D:=jn (λds=>dR 5 lB ds) ds
noncomputable abbrev pJ:List Str:=["_law_thing","_law_many_here"]
noncomputable abbrev vK:Nat:=1
noncomputable def iX:MS:=fC (Cs (Cw .int (ai 0)) (Cs (Q4 (Cw .bl (ai 0))) (zI XS JK (eC (.int 0)) (ai 0) (ai 1))))
noncomputable def dY (ds:List D):M D:=jn (λds=>dR 2 iX ds) ds
noncomputable abbrev vL:List Str:=["top","parts_of","found","waiting","one"]
noncomputable def lE:MS:=bq (bP 4 (gk "list" yI (ai 3) aq)) (bq (pC (gk "list" fY (ai 2) (af (ai 4) (aq)))) (pC (gk "list" Ea (ai 3) (af (eFn (au D4 (af (uE 1 1 (λy=>List.lookup y [("look_parts",eu)]) (af (ai 4) (aq))) (aq)))) (aq)))))
noncomputable def m6:MS:=bq (bP 2 (au bU (aq))) (bq (bP 3 (au bU (af (ai 0) (aq)))) (bq (jW (kK (aE DP (au gj (af (ai 3) (aq))) (eC (.int 0)))) lE fuel) (fC (Lb (ai 2)))))
noncomputable def jY (ds:List D):M D:=jn (λds=>dR 5 m6 ds) ds
noncomputable abbrev B0:List Str:=["way","looks","rows","add","rest","step","look"]
noncomputable def kR:MS:=bP 4 (uE 3 2 (λy=>List.lookup y [("add_row",kQ)]) (af (ai 2) (af (au gx (af (aE fB (ai 5) (eC (.int 0))) (af (ai 6) (af (ai 4) (aq))))) (aq))))
noncomputable def xH:MS:=bq (bP 4 (eC .i9)) (bq (tV (gP 5 6) (Le (af (eFn (au An (af (ai 0) (af (ai 1) (aq))))) (aq))) kR) (fC (ai 4)))
noncomputable def pK (ds:List D):M D:=dR 7 xH ds
noncomputable abbrev m8:List Str:=["_law_script","_law_start","_law_cells_here"]
noncomputable abbrev t6:Nat:=2
noncomputable def m9:MS:=bq (bP 2 (eFn (qh oN [true] (BN (af (ai 1) (af (au (kM λi j=>if j<i then j else i) (af (au gj (af (ai 0) (aq))) (af (eC (.int 64)) (aq)))) (af (eC (.int 2)) (aq))))) (lN) (aE fB (ai 1) (ai 0))))) (fC (eFn (aE bO (ai 2) (eFn (mz kL oN [true,true] (af (aE yH (eC (.int 6)) (au gj (af (ai 2) (aq)))) (aq)) (lN) (bL 2 aK (af (au gj (af (ai 1) (aq))) (af (aE bO (aE bO (eC (.int 40)) (ai 2)) (ai 0)) (aq)))))))))
noncomputable def fH (ds:List D):M D:=jn (λds=>dR 3 m9 ds) ds
noncomputable abbrev qu:List Str:=["_law_cell","_law_names_here","_law_word","_law_j","_law_wide","_law_place","_law_k","_law_name"]
noncomputable abbrev A1:Nat:=2
noncomputable def lF:MS:=bP 2 (aE bO (ai 2) (aE fB (eC (.str "abcdefghijklmnopqrstuvwxyz")) (aE lM (bL 2 aK (af (ai 0) (af (aE bO (eC (.int 32)) (ai 3)) (aq)))) (eC (.int 26)))))
noncomputable def t7:MS:=bq (bP 2 (eC (.str "q"))) (bq (lA kL (gN 3) (af (eC (.int 7)) (aq)) lF) (fC (eFn (mz kL oN [true,false,true] (af (eC (.int 5)) (aq)) (lN) (eFn (BD (ai 3) (jT) (jm (aE bO (aE bO (eC (.int 1)) (aE lM (bL 2 aK (af (ai 1) (af (eC (.int 43)) (aq)))) (eC (.int 4)))) (ai 0)))))))))
noncomputable def lG:MS:=bP 7 (aE bO (ai 7) (aE fB (eC (.str "abcdefghijklmnopqrstuvwxyz")) (aE lM (aE bO (bL 2 aK (af (ai 0) (af (aE bO (eC (.int 32)) (ai 3)) (aq)))) (aE IK (ai 6) (au vp (af (aE (mq false) (ai 3) (ai 5)) (aq))))) (eC (.int 26)))))
noncomputable def lH:MS:=bq (p8 (kK (aE (BC false) (ai 7) (eFn (au bU (af (eC (.str "start")) (af (eC (.str "rule")) (af (eC (.str "row")) (af (eC (.str "mix")) (af (eC (.str "many")) (af (eC (.str "any")) (af (eC (.str "kind")) (af (eC (.str "not")) (af (eC (.str "both")) (af (eC (.str "either")) (af (eC (.str "way")) (af (eC (.str "mark")) (aq))))))))))))))))) (bP 7 (aE bO (ai 7) (eC (.str "z")))) (eg)) (pC (gk "list" fY (ai 1) (af (ai 7) (aq))))
noncomputable def lI:MS:=bq (bP 7 (eC (.str ""))) (bq (lA kL (gN 3) (af (ai 4) (aq)) lG) (lH))
noncomputable def jZ:MS:=bq (bP 1 (au bU (aq))) (bq (p8 (kK (aE (mq false) (aE lM (bL 2 aK (af (ai 0) (af (eC (.int 40)) (aq)))) (eC (.int 3))) (eC (.int 0)))) (t7) (eg)) (bq (bP 4 (aE bO (eC (.int 1)) (aE lM (bL 2 aK (af (ai 0) (af (eC (.int 41)) (aq)))) (eC (.int 8))))) (bq (bP 5 (aE lM (bL 2 aK (af (ai 0) (af (eC (.int 42)) (aq)))) (ai 4))) (bq (lA kL (gN 6) (af (eC (.int 5)) (aq)) lI) (fC (Lb (ai 1)))))))
noncomputable def j0 (ds:List D):M D:=jn (λds=>dR 8 jZ ds) ds
noncomputable abbrev yh:List Str:=["_law_cell","_law_names_here","_law_rows","_law_spot","_law_kind","_law_bits","_law_j","_law_row"]
noncomputable def j3:MS:=bP 5 (aE UY (ai 5) (aE Ez (au vp (af (aE (mq false) (aE fB (ai 7) (eC (.int 1))) (ai 4)) (aq))) (ai 6)))
noncomputable def jG:MS:=bq (p8 (kK (aE (mq false) (aE lM (bL 2 aK (af (ai 0) (af (eC (.int 10)) (aq)))) (eC (.int 5))) (eC (.int 1)))) (fC (au gx (af (au gx (af (eC (.str "mark")) (aq))) (af (ai 3) (af (eC (.int 1)) (af (eC (.int 1)) (aq))))))) (eg)) (bq (p8 (kK (aE (mq false) (aE lM (bL 2 aK (af (ai 0) (af (eC (.int 10)) (aq)))) (eC (.int 5))) (eC (.int 0)))) (fC (au gx (af (au gx (af (eC (.str "any")) (aq))) (af (aE yH (aE Ez (eC (.int 1)) (au gj (af (ai 2) (aq)))) (eC (.int 1))) (af (eC (.int 1)) (af (eC (.int 1)) (aq))))))) (eg)) (bq (bP 4 (aE fB (ai 1) (aE lM (bL 2 aK (af (ai 0) (af (eC (.int 14)) (aq)))) (eC (.int 5))))) (bq (bP 5 (eC (.int 0))) (bq (tV (gP 6 7) (sf (af (ai 2) (aq))) j3) (fC (au gx (af (au gx (af (eC (.str "kind")) (af (ai 4) (aq)))) (af (ai 5) (af (eC (.int 1)) (af (eC (.int 1)) (aq)))))))))))
noncomputable def iO (ds:List D):M D:=jn (λds=>dR 8 jG ds) ds
noncomputable abbrev t8:List Str:=["_law_pile_here","_law_cell","_law_every","_law_way_here","_law_one","_law_other","_law_many_here","_law_deep"]
noncomputable def iP:MS:=bq (bP 5 (aE fB (ai 0) (zH (eC (.int 2))))) (bq (bP 6 (aE bO (aE bO (aE fB (ai 4) (eC (.int 2))) (aE fB (ai 5) (eC (.int 2)))) (eC (.int 1)))) (bq (bP 7 (aE bO (au (kM λi j=>if j > i then j else i) (af (aE fB (ai 4) (eC (.int 3))) (af (aE fB (ai 5) (eC (.int 3))) (aq)))) (eC (.int 1)))) (bq (p8 (pB (kK (aE JK (ai 6) (eC (.int 41)))) (pB (kK (aE JK (ai 7) (eC (.int 13)))) (kK (aE (mq false) (ai 3) (eC (.int 1)))))) (fC (eFn (au bU (af (au gx (af (au gx (af (eC (.str "both")) (af (aE fB (ai 5) (eC (.int 0))) (af (aE fB (ai 4) (eC (.int 0))) (aq))))) (af (aE LM (aE fB (ai 5) (eC (.int 1))) (aE fB (ai 4) (eC (.int 1)))) (af (ai 6) (af (ai 7) (aq)))))) (aq))))) (eg)) (p8 (pB (kK (aE JK (ai 6) (eC (.int 41)))) (kK (aE JK (ai 7) (eC (.int 13))))) (fC (eFn (au bU (af (au gx (af (au gx (af (eC (.str "either")) (af (aE fB (ai 5) (eC (.int 0))) (af (aE fB (ai 4) (eC (.int 0))) (aq))))) (af (aE UY (aE fB (ai 5) (eC (.int 1))) (aE fB (ai 4) (eC (.int 1)))) (af (ai 6) (af (ai 7) (aq)))))) (aq))))) (eg)))))
noncomputable def cL:MS:=bq (bP 3 (aE lM (bL 2 aK (af (ai 1) (af (eC (.int 11)) (aq)))) (eC (.int 6)))) (bq (bP 4 (aE fB (ai 0) (zH (eC (.int 1))))) (bq (p8 (pB (kK (aE (mq false) (ai 3) (eC (.int 0)))) (pB (kK (aE JK (aE fB (ai 4) (eC (.int 3))) (eC (.int 12)))) (kK (aE JK (aE fB (ai 4) (eC (.int 2))) (eC (.int 40)))))) (fC (eFn (au bU (af (au gx (af (au gx (af (eC (.str "not")) (af (aE fB (ai 4) (eC (.int 0))) (aq)))) (af (aE Og (ai 2) (aE fB (ai 4) (eC (.int 1)))) (af (aE bO (aE fB (ai 4) (eC (.int 2))) (eC (.int 1))) (af (aE bO (aE fB (ai 4) (eC (.int 3))) (eC (.int 1))) (aq)))))) (aq))))) (eg)) (bq (p8 (pB (kK (aE JK (ai 3) (eC (.int 3)))) (kK (aE DP (au gj (af (ai 0) (aq))) (eC (.int 1))))) (iP) (eg)) (fC (eFn (au bU (aq)))))))
noncomputable def eB (ds:List D):M D:=jn (λds=>dR 8 cL ds) ds
noncomputable abbrev yi:List Str:=["_law_pile_here","_law_cell"]
noncomputable def lR:MS:=fC (au (kM λi j=>if j<i then j else i) (af (au gj (af (ai 0) (aq))) (af (aE fB (eFn (au bU (af (eC (.int 1)) (af (eC (.int 2)) (af (eC (.int 3)) (af (eC (.int 1)) (af (eC (.int 2)) (af (eC (.int 3)) (af (eC (.int 2)) (af (eC (.int 7)) (aq))))))))))) (aE lM (bL 2 aK (af (ai 1) (af (eC (.int 15)) (aq)))) (eC (.int 8)))) (aq))))
noncomputable def iQ (ds:List D):M D:=jn (λds=>dR 2 lR ds) ds
noncomputable abbrev yj:List Str:=["look","parts","rows","add"]
noncomputable def lS:MS:=bq (p8 (kK (aE (mq false) (aE fB (ai 0) (eC (.int 0))) (eC (.str "way")))) (fC (au gx (af (eC (.str "from")) (af (bL 4 pK (af (aE fB (ai 0) (eC (.int 1))) (af (ai 1) (af (ai 2) (af (ai 3) (aq)))))) (aq))))) (eg)) (fC (bL 2 lQ (af (ai 0) (af (ai 1) (aq)))))
noncomputable def jH (ds:List D):M D:=dR 4 lS ds
noncomputable abbrev qv:List Str:=["_law_pile_here","_law_cell","_law_every","_law_reach","_law_many_here","_law_some","_law_looks","_law_deep","_law_steps","_law_good","_law_k","_law_item","_law_go"]
noncomputable def lT:MS:=bq (bP 12 (aE fB (eFn (au bU (af (eC (.str "down")) (af (eC (.str "deep")) (af (eC (.str "later")) (af (eC (.str "down")) (aq))))))) (aE lM (bL 2 aK (af (ai 1) (af (aE bO (eC (.int 50)) (ai 10)) (aq)))) (eC (.int 4))))) (bq (pC (gk "list" fY (ai 8) (af (au gx (af (ai 12) (af (aE fB (ai 11) (eC (.int 0))) (aq)))) (aq)))) (bP 9 (bL 2 lC (af (LV (ai 3) (ai 12)) (af (aE LM (ai 9) (aE fB (ai 11) (eC (.int 1)))) (aq))))))
noncomputable def jz:MS:=bq (bP 4 (bL 2 iQ (af (ai 0) (af (ai 1) (aq))))) (bq (bP 5 (eFn (BD (ai 0) (jm (aE yH (au gj (af (ai 0) (aq))) (ai 4))) (jT)))) (bq (bP 6 (aE bO (eC (.int 1)) (au zU (af (eFn (ri oN [] (ai 5) (lN) (aE fB (ai 0) (eC (.int 2))))) (aq))))) (bq (bP 7 (aE bO (eC (.int 1)) (au BK (af (eFn (ri oN [] (ai 5) (lN) (aE fB (ai 0) (eC (.int 3))))) (aq))))) (bq (p8 (zC (kK (aE DP (ai 6) (eC (.int 40)))) (kK (aE DP (ai 7) (eC (.int 12))))) (fC (eFn (au bU (aq)))) (eg)) (bq (bP 8 (au bU (aq))) (bq (bP 9 (ai 2)) (bq (tV (gP 10 11) (CU (af (ai 5) (aq))) lT) (fC (eFn (au bU (af (au gx (af (au gx (af (eC (.str "way")) (af (au Ei (af (ai 8) (aq))) (aq)))) (af (ai 9) (af (ai 6) (af (ai 7) (aq)))))) (aq))))))))))))
noncomputable def kT (ds:List D):M D:=jn (λds=>dR 13 jz ds) ds
noncomputable abbrev yk:List Str:=["_law_cells_here","_law_names_here","_law_rows","_law_reach","_law_spot","_law_every","_law_pile_here","_law_cell","_law_some","_law_many_here"]
noncomputable abbrev CW:Nat:=4
noncomputable def nc:MS:=bq (bP 8 (bL 3 eB (af (ai 6) (af (ai 7) (af (ai 5) (aq)))))) (bP 9 (aE yH (eC (.int 2)) (au vp (af (Cs (aE DP (au gj (af (ai 8) (aq))) (eC (.int 0))) (aE (mq false) (aE fB (aE fB (aE fB (ai 8) (eC (.int 0))) (eC (.int 0))) (eC (.int 0))) (eC (.str "not")))) (aq)))))
noncomputable def qw:MS:=bq (bP 8 (bL 4 kT (af (ai 6) (af (ai 7) (af (ai 5) (af (ai 3) (aq))))))) (bP 9 (bL 2 iQ (af (ai 6) (af (ai 7) (aq)))))
noncomputable def j4:MS:=bq (bP 8 (eFn (au bU (aq)))) (bq (bP 9 (eC (.int 1))) (bq (p8 (pB (kK (aE DP (au gj (af (ai 6) (aq))) (eC (.int 0)))) (kK (aE (mq false) (aE lM (bL 2 aK (af (ai 7) (af (eC (.int 19)) (aq)))) (eC (.int 3))) (eC (.int 0))))) (qw) (p8 (kK (aE DP (au gj (af (ai 6) (aq))) (eC (.int 0)))) (nc) (eg))) (p8 (kK (aE DP (au gj (af (ai 8) (aq))) (eC (.int 0)))) (bP 6 (aE bO (eFn (BD (ai 6) (jT) (jm (aE yH (au gj (af (ai 6) (aq))) (ai 9))))) (ai 8))) (pC (gk "list" fY (ai 6) (af (bL 4 iO (af (ai 7) (af (ai 1) (af (ai 2) (af (ai 4) (aq)))))) (aq)))))))
noncomputable def ou:MS:=bq (bP 5 (aE yH (aE Ez (eC (.int 1)) (au gj (af (ai 2) (aq)))) (eC (.int 1)))) (bq (bP 6 (au bU (aq))) (bq (xh (gN 7) (ai 0) j4) (fC (Lb (ai 6)))))
noncomputable def jI (ds:List D):M D:=jn (λds=>dR 10 ou ds) ds
noncomputable abbrev sy:List Str:=["one","parts","rows"]
noncomputable def iR:DS→M D:=bL 4 jH (af (ai 0) (af (ai 1) (af (ai 2) (af (eC (.fn "add_row")) (aq)))))
noncomputable def eU (ds:List D):M D:=λG=>yf (N9 3 iR ds G)
noncomputable abbrev EF:List Str:=["top","parts_of","make","made","one","parts","number"]
noncomputable abbrev Jr:Nat:=5
noncomputable def pL:MS:=pC (gk "list" fY (ai 5) (af (gk "list" yI (ai 3) aq) (aq)))
noncomputable def jJ:MS:=bq (bP 5 (au bU (aq))) (bq (lA kL (gN 6) (af (au gj (af (uE 1 1 (λy=>List.lookup y [("look_parts",eu)]) (af (ai 4) (aq))) (aq))) (aq)) pL) (pC (gk "list" fY (ai 3) (af (Ai 2 2 (λy=>List.lookup y [("table_of",(1,eU))]) (af (ai 4) (af (Lb (ai 5)) (aq)))) (aq)))))
noncomputable def Aq:MS:=bq (bP 3 (au bU (aq))) (bq (tV (gN 4) (Le (af (bL 2 jY (af (ai 0) (af (ai 1) (aq)))) (aq))) jJ) (fC (aE fB (ai 3) (eC (.int 0)))))
noncomputable def sA (ds:List D):M D:=dR 7 Aq ds
noncomputable abbrev uJ:List Str:=["look","rows","changed"]
noncomputable def kU:MS:=bq (bP 1 (au bU (aq))) (bq (bP 2 (bL 3 sA (af (ai 0) (af (eC (.fn "look_parts")) (af (LH "table_of" [1]) (aq)))))) (fC (au gx (af (au qg (af (ai 1) (aq))) (af (ai 2) (aq))))))
noncomputable def nH (ds:List D):M D:=jn (λds G=>yf (dR 3 kU ds G)) ds
noncomputable abbrev oz:List Str:=["_law_rows","_law_number","_law_way_here","_law_seen","_law_k","_law_step","_law_row"]
noncomputable abbrev jA:Nat:=1
noncomputable def fU (bC bQ:List D→M D):MS:=bq (p8 (zC (tS (mj tH (bL 2 dY (af (ai 1) (af (au gj (af (ai 0) (aq))) (aq)))))) (kK (aE LW (ai 1) (ai 3)))) (fC (eC (.bl false))) (eg)) (bq (ya (eC (.bl true)) (ai 3) (ai 1)) (bq (bP 6 (aE fB (ai 0) (ai 1))) (bq (p8 (zC (tS (mj tH (Cw .tup (ai 6)))) (zC (kK (aE (mq true) (au gj (af (ai 6) (aq))) (eC (.int 3)))) (kK (aE (mq true) (aE fB (ai 6) (eC (.int 0))) (aE fB (ai 5) (eC (.int 0))))))) (fC (eC (.bl false))) (eg)) (bq (p8 (tS (mj tH (bL 4 bQ (af (ai 0) (af (aE fB (ai 6) (eC (.int 1))) (af (aE fB (ai 5) (eC (.int 1))) (af (ai 3) (aq)))))))) (fC (eC (.bl false))) (eg)) (bP 1 (aE fB (ai 6) (eC (.int 2))))))))
noncomputable def gq (bC bQ:List D→M D):MS:=bq (tV (gP 4 5) (sf (af (ai 2) (aq))) (fU bC bQ)) (fC (aE (QY false) (ai 1) (eC .i9)))
noncomputable abbrev t9:List Str:=["_law_rows","_law_told","_law_look","_law_seen"]
noncomputable def cM (bC bQ:List D→M D):MS:=bq (p8 (tS (mj tH (Cw .tup (ai 1)))) (fC (eC (.bl false))) (eg)) (bq (p8 (kK (aE (mq false) (aE fB (ai 2) (eC (.int 0))) (eC (.str "way")))) (fC (Cs (aE (mq false) (au gj (af (ai 1) (aq))) (eC (.int 2))) (Cs (aE (mq false) (aE fB (ai 1) (eC (.int 0))) (eC (.str "from"))) (bL 4 bC (af (ai 0) (af (aE fB (ai 1) (eC (.int 1))) (af (aE fB (ai 2) (eC (.int 1))) (af (ai 3) (aq))))))))) (eg)) (bq (p8 (zC (kK (aE (mq true) (au gj (af (ai 1) (aq))) (au gj (af (ai 2) (aq))))) (kK (aE (mq true) (aE fB (ai 1) (eC (.int 0))) (aE fB (ai 2) (eC (.int 0)))))) (fC (eC (.bl false))) (eg)) (bq (p8 (kK (aE (mq false) (aE fB (ai 2) (eC (.int 0))) (eC (.str "not")))) (fC (bL 4 bQ (af (ai 0) (af (aE fB (ai 1) (eC (.int 1))) (af (aE fB (ai 2) (eC (.int 1))) (af (ai 3) (aq))))))) (eg)) (bq (p8 (kK (aE (BC false) (aE fB (ai 2) (eC (.int 0))) (eFn (au bU (af (eC (.str "both")) (af (eC (.str "either")) (aq))))))) (fC (Cs (bL 4 bQ (af (ai 0) (af (aE fB (ai 1) (eC (.int 1))) (af (aE fB (ai 2) (eC (.int 1))) (af (ai 3) (aq)))))) (bL 4 bQ (af (ai 0) (af (aE fB (ai 1) (eC (.int 2))) (af (aE fB (ai 2) (eC (.int 2))) (af (ai 3) (aq)))))))) (eg)) (fC (aE (mq false) (ai 1) (ai 2)))))))
mutual
noncomputable def aQ:Nat→List D→M D
  | 0,_=>M.stop
  | n+1,ds=>dR 7 (gq (aQ n) (aO n)) ds
noncomputable def aO:Nat→List D→M D
  | 0,_=>M.stop
  | n+1,ds=>dR 4 (cM (aQ n) (aO n)) ds
end
noncomputable abbrev ua:List D→M D:=aO 60
noncomputable abbrev vM:List Str:=["_law_look","_law_told","_law_seen"]
noncomputable abbrev A2:Nat:=62
noncomputable def ng:MS:=bq (bP 1 (bL 1 nH (af (ai 0) (aq)))) (bq (p8 (zC (tS (mj tH (Cw .tup (ai 1)))) (zC (kK (aE (mq true) (au gj (af (ai 1) (aq))) (eC (.int 2)))) (tS (mj tH (Cw .tup (aE fB (ai 1) (eC (.int 0)))))))) (fC (eC (.bl false))) (eg)) (bq (bP 2 (Lh)) (fC (Cs (bL 4 ua (af (aE fB (ai 1) (eC (.int 0))) (af (aE fB (ai 1) (eC (.int 1))) (af (ai 0) (af (ai 2) (aq)))))) (aE (mq false) (au EC (af (ai 2) (aq))) (au gj (af (aE fB (ai 1) (eC (.int 0))) (aq))))))))
noncomputable def j5 (ds:List D):M D:=jn (λds=>dR 3 ng ds) ds
noncomputable abbrev UZ:List Str:=["_law_script","_law_names_here","_law_reach","_law_pile_here","_law_item"]
noncomputable def CY:MS:=p8 (tS (mj tH (bL 1 j5 (af (aE fB (ai 4) (eC (.int 0))) (aq))))) (fC (eC (.bl false))) (eg)
noncomputable def B3:MS:=bq (bP 1 (bL 1 j0 (af (au zU (af (eFn (BD (ai 0) (jT) (jm (eC (.int 1))))) (aq))) (aq)))) (bq (bP 2 (BY [("down",eFn (au bU (af (eC (.int 0)) (aq)))),("deep",eFn (au bU (af (eC (.int 0)) (aq)))),("later",eFn (au bU (af (eC (.int 0)) (aq))))])) (bq (bP 3 (bL 5 jI (af (eFn (aE bO (bL 2 fH (af (ai 0) (af (eC (.int 0)) (aq)))) (bL 2 fH (af (ai 0) (af (eC (.int 1)) (aq)))))) (af (ai 1) (af (eFn (au bU (af (au gx (af (eC (.int 0)) (af (aE fB (ai 1) (eC (.int 0))) (aq)))) (aq)))) (af (ai 2) (af (eC (.int 1)) (aq)))))))) (bq (xh (gN 4) (eFn (aE bO (eFn (BD (ai 3) (jm (zH (eC (.int 4)))) (jT))) (eFn (BD (ai 3) (jm (zH (eC (.int 1)))) (jT))))) CY) (fC (eC (.bl true))))))
noncomputable def HQ (ds:List D):M D:=jn (λds G=>yf (dR 5 B3 ds G)) ds
structure YC where
  f:Nat→Addr
  d:Nat→FuncData
  c:Nat→Addr
structure Txt (K:PySem.W.Frag) (mg:Str→Option Value) (t:YC):Prop where
  qx:vc K "look_parts" "look_parts" bW (t.f 0) (t.d 0)
  vN:Binds K (t.d 0) ["look"] []
  qy:mg "look_parts"=some (.ref (t.f 0))
  yl:vc K "look_with" "look_with" cC (t.f 1) (t.d 1)
  EG:Binds K (t.d 1) ["look","parts"] []
  EH:mg "look_with"=some (.ref (t.f 1))
  vO:vc K "all_within" "all_within" bG (t.f 2) (t.d 2)
  CZ:Binds K (t.d 2) ["top","parts_of"] []
  C0:mg "all_within"=some (.ref (t.f 2))
  EI:vc K "folded" "folded" cV (t.f 3) (t.d 3)
  LY:Binds K (t.d 3) ["top","parts_of","make"] []
  LZ:mg "folded"=some (.ref (t.f 3))
  nI:vc K "table_of" "table_of" bZ (t.f 4) (t.d 4)
  Gw:Binds K (t.d 4) ["look"] []
  nJ:mg "table_of"=some (.ref (t.f 4))
  ym:vc K "exchanged" "exchanged" cE (t.f 5) (t.d 5)
  EJ:Binds K (t.d 5) ["look","parts","rows","add"] []
  EK:mg "exchanged"=some (.ref (t.f 5))
  B4:vc K "add_way" "add_way" cF (t.f 6) (t.d 6)
  Js:Binds K (t.d 6) ["way","looks","rows","add"] []
  Jt:mg "add_way"=some (.ref (t.f 6))
  B5:vc K "add_row" "add_row" fQ (t.f 7) (t.d 7)
  Ju:Binds K (t.d 7) ["rows","row"] []
  B6:mg "add_row"=some (.ref (t.f 7))
  dh:vc K "_law_mix" "_law_mix" cR (t.f 8) (t.d 8)
  dG:Binds K (t.d 8) ["_law_cell","_law_k"] []
  dH:mg "_law_mix"=some (.ref (t.f 8))
  qA:vc K "_law_cells" "_law_cells" bH (t.f 9) (t.d 9)
  vP:Binds K (t.d 9) ["_law_script","_law_start"] []
  vQ:mg "_law_cells"=some (.ref (t.f 9))
  vR:vc K "_law_names" "_law_names" bf (t.f 10) (t.d 10)
  C1:Binds K (t.d 10) ["_law_cell"] []
  C2:mg "_law_names"=some (.ref (t.f 10))
  yo:vc K "_law_leaf" "_law_leaf" bA (t.f 11) (t.d 11)
  EL:Binds K (t.d 11) ["_law_cell","_law_names_here","_law_rows","_law_spot"] []
  EM:mg "_law_leaf"=some (.ref (t.f 11))
  uc:vc K "_law_truths" "_law_truths" aU (t.f 12) (t.d 12)
  A3:Binds K (t.d 12) ["_law_pile_here","_law_cell","_law_every"] []
  A4:mg "_law_truths"=some (.ref (t.f 12))
  ud:vc K "_law_before" "_law_before" bK (t.f 13) (t.d 13)
  A5:Binds K (t.d 13) ["_law_masks_of","_law_bits"] []
  A6:mg "_law_before"=some (.ref (t.f 13))
  sC:vc K "_law_many" "_law_many" cK (t.f 14) (t.d 14)
  yp:Binds K (t.d 14) ["_law_pile_here","_law_cell"] []
  yq:mg "_law_many"=some (.ref (t.f 14))
  Ar:vc K "_law_way" "_law_way" aN (t.f 15) (t.d 15)
  Gx:Binds K (t.d 15) ["_law_pile_here","_law_cell","_law_every","_law_reach"] []
  Gy:mg "_law_way"=some (.ref (t.f 15))
  yr:vc K "_law_pile" "_law_pile" aT (t.f 16) (t.d 16)
  EN:Binds K (t.d 16) ["_law_cells_here","_law_names_here","_law_rows","_law_reach","_law_spot"] []
  EO:mg "_law_pile"=some (.ref (t.f 16))
  pM:vc K "_law_is_number" "_law_is_number" bh (t.f 17) (t.d 17)
  xJ:Binds K (t.d 17) ["_law_thing","_law_many_here"] []
  xK:mg "_law_is_number"=some (.ref (t.f 17))
  oA:vc K "_law_walked_way" "_law_walked_way" az (t.f 18) (t.d 18)
  vS:Binds K (t.d 18) ["_law_rows","_law_number","_law_way_here","_law_seen"] []
  aQ:mg "_law_walked_way"=some (.ref (t.f 18))
  iu:vc K "_law_walked" "_law_walked" br (t.f 19) (t.d 19)
  jo:Binds K (t.d 19) ["_law_rows","_law_told","_law_look","_law_seen"] []
  aO:mg "_law_walked"=some (.ref (t.f 19))
  vU:vc K "_law_right" "_law_right" bI (t.f 20) (t.d 20)
  C3:Binds K (t.d 20) ["_law_look"] []
  C4:mg "_law_right"=some (.ref (t.f 20))
  U0:vc K "law" "law" ia (t.f 21) (t.d 21)
  aax:Binds K (t.d 21) ["_law_script"] []
  M_law:mg "law"=some (.ref (t.f 21))
  RK:mg "bool"=none
  oB:mg "enumerate"=none
  HR:mg "int"=none
  iY:mg "isinstance"=none
  ie:mg "len"=none
  Gz:mg "list"=none
  Pc:mg "max"=none
  Pd:mg "min"=none
  oE:mg "range"=none
  nK:mg "reversed"=none
  Pe:mg "sum"=none
  oF:mg "tuple"=none
  Pf:mg "zip"=none
theorem As:DN "_law_before":=by symm
theorem qB:DN "_law_bits":=by symm
theorem bu:DN "_law_cell":=by symm
theorem ue:DN "_law_cells":=by symm
theorem jB:DN "_law_cells_here":=by symm
theorem iZ:DN "_law_deep":=by symm
theorem oS:DN "_law_digit":=by symm
theorem lJ:DN "_law_every":=by symm
theorem Au:DN "_law_go":=by symm
theorem vV:DN "_law_good":=by symm
theorem vW:DN "_law_here":=by symm
theorem Jv:DN "_law_i":=by symm
theorem vX:DN "_law_is_number":=by symm
theorem j6:DN "_law_item":=by symm
theorem tB:DN "_law_j":=by symm
theorem jK:DN "_law_k":=by symm
theorem vY:DN "_law_kind":=by symm
theorem C5:DN "_law_leaf":=by symm
theorem cY:DN "_law_look":=by symm
theorem uf:DN "_law_looks":=by symm
theorem vZ:DN "_law_many":=by symm
theorem dI:DN "_law_many_here":=by symm
theorem C6:DN "_law_mask":=by symm
theorem xM:DN "_law_masks_of":=by symm
theorem cT:DN "_law_mix":=by symm
theorem nh:DN "_law_name":=by symm
theorem A7:DN "_law_names":=by symm
theorem dZ:DN "_law_names_here":=by symm
theorem dJ:DN "_law_number":=by symm
theorem dP:DN "_law_one":=by symm
theorem iw:DN "_law_other":=by symm
theorem C7:DN "_law_pile":=by symm
theorem aM:DN "_law_pile_here":=by symm
theorem A8:DN "_law_place":=by symm
theorem oU:DN "_law_reach":=by symm
theorem A9:DN "_law_right":=by symm
theorem jL:DN "_law_row":=by symm
theorem dM:DN "_law_rows":=by symm
theorem gK:DN "_law_script":=by symm
theorem fJ:DN "_law_seen":=by symm
theorem gY:DN "_law_some":=by symm
theorem v5:DN "_law_spot":=by symm
theorem ug:DN "_law_start":=by symm
theorem v7:DN "_law_step":=by symm
theorem uh:DN "_law_steps":=by symm
theorem oV:DN "_law_thing":=by symm
theorem bX:DN "_law_told":=by symm
theorem Av:DN "_law_truths":=by symm
theorem iS:DN "_law_walked":=by symm
theorem uK:DN "_law_walked_way":=by symm
theorem ER:DN "_law_way":=by symm
theorem i0:DN "_law_way_here":=by symm
theorem v8:DN "_law_wide":=by symm
theorem v9:DN "_law_word":=by symm
theorem L0:DN "add":=by symm
theorem GA:DN "add_row":=by symm
theorem GB:DN "add_way":=by symm
theorem Ba:DN "all_within":=by symm
theorem Om:DN "bool":=by symm
theorem GC:DN "changed":=by symm
theorem C8:DN "exchanged":=by symm
theorem Jw:DN "folded":=by symm
theorem ES:DN "found":=by symm
theorem L1:DN "inner":=by symm
theorem RL:DN "int":=by symm
theorem i6:DN "look":=by symm
theorem Bb:DN "look_parts":=by symm
theorem C9:DN "look_with":=by symm
theorem L4:DN "looks":=by symm
theorem Dc:DN "made":=by symm
theorem Oo:DN "make":=by symm
theorem Aw:DN "one":=by symm
theorem Oq:DN "part":=by symm
theorem lU:DN "parts":=by symm
theorem sD:DN "parts_of":=by symm
theorem HS:DN "rest":=by symm
theorem RM:DN "row":=by symm
theorem tF:DN "rows":=by symm
theorem HU:DN "step":=by symm
theorem ET:DN "table_of":=by symm
theorem L5:DN "top":=by symm
theorem wc:DN "tuple":=by symm
theorem uL:DN "waiting":=by symm
theorem RN:DN "way":=by symm
theorem Ot:bootBuiltins "bool"=some (.type (Ty.nm .bl)):=by symm
theorem Ou:("bool":Str)≠"__name__":=by symm
theorem RO:bootBuiltins "int"=some (.type (Ty.nm .int)):=by symm
theorem RP:("int":Str)≠"__name__":=by symm
theorem we:bootBuiltins "tuple"=some (.type (Ty.nm .tup)):=by symm
theorem wg:("tuple":Str)≠"__name__":=by symm
noncomputable def yL:Scope:={kind:=.function,names:=[ (.ofString ".0",.local),(.ofString "go",.local),(.ofString "inner",.local)],isGenerator:=false,isCoroutine:=false,more:=[]}
theorem j7:dX (aa bW) qp yL ["go","inner"] []:=⟨by symm,rfl,by symm,by symm,by symm,by symm,by symm⟩
noncomputable def Ax:Scope:={kind:=.function,names:=[ (.ofString ".0",.local),(.ofString "step",.local),(.ofString "part",.local)],isGenerator:=false,isCoroutine:=false,more:=[]}
theorem i7:dX (aa cC) su Ax ["step","part"] []:=⟨by symm,rfl,by symm,by symm,by symm,by symm,by symm⟩
noncomputable def rq:Scope:={kind:=.function,names:=[ (.ofString ".0",.local),(.ofString "_law_k",.local),(.ofString "_law_script",.free)],isGenerator:=false,isCoroutine:=false,more:=[]}
theorem iF:dX (aa bH) m8 rq ["_law_k"] [true]:=⟨by symm,rfl,by symm,by symm,by symm,by symm,by symm⟩
noncomputable def ig:Scope:={kind:=.function,names:=[ (.ofString ".0",.local),(.ofString "_law_k",.local),(.ofString "_law_mix",.globalImplicit),(.ofString "len",.globalImplicit),(.ofString "_law_script",.free),(.ofString "_law_start",.free)],isGenerator:=false,isCoroutine:=false,more:=[]}
theorem gr:dX (aa bH) m8 ig ["_law_k"] [true,true]:=⟨by symm,rfl,by symm,by symm,by symm,by symm,by symm⟩
noncomputable def ju:Scope:={kind:=.function,names:=[ (.ofString ".0",.local),(.ofString "_law_k",.local),(.ofString "_law_mix",.globalImplicit),(.ofString "_law_cell",.free),(.ofString "_law_word",.free)],isGenerator:=false,isCoroutine:=false,more:=[]}
theorem gu:dX (aa bf) qu ju ["_law_k"] [true,false,true]:=⟨by symm,rfl,by symm,by symm,by symm,by symm,by symm⟩
noncomputable def Bc:Scope:={kind:=.function,names:=[(.ofString ".0",.local),(.ofString "_law_item",.local)],isGenerator:=false,isCoroutine:=false,more:=[]}
theorem mE:dX (aa aN) qv Bc ["_law_item"] []:=⟨by symm,rfl,by symm,by symm,by symm,by symm,by symm⟩
noncomputable def Bd:Scope:={kind:=.function,names:=[(.ofString ".0",.local),(.ofString "_law_item",.local)],isGenerator:=false,isCoroutine:=false,more:=[]}
theorem mF:dX (aa aN) qv Bd ["_law_item"] []:=⟨by symm,rfl,by symm,by symm,by symm,by symm,by symm⟩
theorem oW:LK (aa bK) "_law_bits" .local:=by symm
theorem eE:LK (aa bK) "_law_here" .local:=by symm
theorem kF:LK (aa bK) "_law_i" .local:=by symm
theorem jq:LK (aa bK) "_law_mask" .local:=by symm
theorem mG:LK (aa bK) "_law_masks_of" .local:=by symm
theorem oX:LK (aa bK) "enumerate" .globalImplicit:=by symm
theorem cU:LK (aa bH) "_law_cells_here" .local:=by symm
theorem nU:LK (aa bH) "_law_script" .cell:=by symm
theorem oY:LK (aa bH) "_law_start" .cell:=by symm
theorem oG:LK (aa bH) "len" .globalImplicit:=by symm
theorem wj:LK (aa bH) "min" .globalImplicit:=by symm
theorem mU:LK (aa bH) "range" .globalImplicit:=by symm
theorem j8:LK (aa bh) "_law_many_here" .local:=by symm
theorem fk:LK (aa bh) "_law_thing" .local:=by symm
theorem qC:LK (aa bh) "bool" .globalImplicit:=by symm
theorem rH:LK (aa bh) "int" .globalImplicit:=by symm
theorem ir:LK (aa bh) "isinstance" .globalImplicit:=by symm
theorem fK:LK (aa bA) "_law_bits" .local:=by symm
theorem gZ:LK (aa bA) "_law_cell" .local:=by symm
theorem mV:LK (aa bA) "_law_j" .local:=by symm
theorem g6:LK (aa bA) "_law_kind" .local:=by symm
theorem iA:LK (aa bA) "_law_mix" .globalImplicit:=by symm
theorem mH:LK (aa bA) "_law_names_here" .local:=by symm
theorem kG:LK (aa bA) "_law_row" .local:=by symm
theorem j9:LK (aa bA) "_law_rows" .local:=by symm
theorem qE:LK (aa bA) "_law_spot" .local:=by symm
theorem qF:LK (aa bA) "enumerate" .globalImplicit:=by symm
theorem xN:LK (aa bA) "int" .globalImplicit:=by symm
theorem xO:LK (aa bA) "len" .globalImplicit:=by symm
theorem qG:LK (aa cK) "_law_cell" .local:=by symm
theorem rJ:LK (aa cK) "_law_mix" .globalImplicit:=by symm
theorem ni:LK (aa cK) "_law_pile_here" .local:=by symm
theorem xP:LK (aa cK) "len" .globalImplicit:=by symm
theorem xQ:LK (aa cK) "min" .globalImplicit:=by symm
theorem iB:LK (aa cR) "_law_cell" .local:=by symm
theorem cO:LK (aa cR) "_law_digit" .local:=by symm
theorem uM:LK (aa cR) "_law_j" .local:=by symm
theorem jC:LK (aa cR) "_law_k" .local:=by symm
theorem cG:LK (aa cR) "_law_number" .local:=by symm
theorem wk:LK (aa cR) "range" .globalImplicit:=by symm
theorem dz:LK (aa bf) "_law_cell" .cell:=by symm
theorem eV:LK (aa bf) "_law_j" .local:=by symm
theorem lV:LK (aa bf) "_law_k" .local:=by symm
theorem dN:LK (aa bf) "_law_mix" .globalImplicit:=by symm
theorem cg:LK (aa bf) "_law_name" .local:=by symm
theorem eW:LK (aa bf) "_law_names_here" .local:=by symm
theorem jr:LK (aa bf) "_law_place" .local:=by symm
theorem gM:LK (aa bf) "_law_wide" .local:=by symm
theorem gQ:LK (aa bf) "_law_word" .cell:=by symm
theorem wm:LK (aa bf) "int" .globalImplicit:=by symm
theorem gG:LK (aa bf) "range" .globalImplicit:=by symm
theorem cP:LK (aa aT) "_law_cell" .local:=by symm
theorem mJ:LK (aa aT) "_law_cells_here" .local:=by symm
theorem gR:LK (aa aT) "_law_every" .local:=by symm
theorem qH:LK (aa aT) "_law_leaf" .globalImplicit:=by symm
theorem qI:LK (aa aT) "_law_many" .globalImplicit:=by symm
theorem dB:LK (aa aT) "_law_many_here" .local:=by symm
theorem rK:LK (aa aT) "_law_mix" .globalImplicit:=by symm
theorem mK:LK (aa aT) "_law_names_here" .local:=by symm
theorem aG:LK (aa aT) "_law_pile_here" .local:=by symm
theorem pN:LK (aa aT) "_law_reach" .local:=by symm
theorem kg:LK (aa aT) "_law_rows" .local:=by symm
theorem cz:LK (aa aT) "_law_some" .local:=by symm
theorem qJ:LK (aa aT) "_law_spot" .local:=by symm
theorem oZ:LK (aa aT) "_law_truths" .globalImplicit:=by symm
theorem rL:LK (aa aT) "_law_way" .globalImplicit:=by symm
theorem xR:LK (aa aT) "int" .globalImplicit:=by symm
theorem fR:LK (aa aT) "len" .globalImplicit:=by symm
theorem jM:LK (aa bI) "_law_look" .local:=by symm
theorem gT:LK (aa bI) "_law_seen" .local:=by symm
theorem cj:LK (aa bI) "_law_told" .local:=by symm
theorem nV:LK (aa bI) "_law_walked" .globalImplicit:=by symm
theorem jt:LK (aa bI) "isinstance" .globalImplicit:=by symm
theorem kh:LK (aa bI) "len" .globalImplicit:=by symm
theorem qK:LK (aa bI) "table_of" .globalImplicit:=by symm
theorem mW:LK (aa bI) "tuple" .globalImplicit:=by symm
theorem o5:LK (aa aU) "_law_cell" .local:=by symm
theorem cW:LK (aa aU) "_law_deep" .local:=by symm
theorem nW:LK (aa aU) "_law_every" .local:=by symm
theorem cu:LK (aa aU) "_law_many_here" .local:=by symm
theorem pO:LK (aa aU) "_law_mix" .globalImplicit:=by symm
theorem aH:LK (aa aU) "_law_one" .local:=by symm
theorem bN:LK (aa aU) "_law_other" .local:=by symm
theorem eX:LK (aa aU) "_law_pile_here" .local:=by symm
theorem cZ:LK (aa aU) "_law_way_here" .local:=by symm
theorem uN:LK (aa aU) "len" .globalImplicit:=by symm
theorem uO:LK (aa aU) "max" .globalImplicit:=by symm
theorem aV:LK (aa br) "_law_look" .local:=by symm
theorem eF:LK (aa br) "_law_rows" .local:=by symm
theorem eN:LK (aa br) "_law_seen" .local:=by symm
theorem aW:LK (aa br) "_law_told" .local:=by symm
theorem fV:LK (aa br) "_law_walked" .globalImplicit:=by symm
theorem kW:LK (aa br) "_law_walked_way" .globalImplicit:=by symm
theorem nX:LK (aa br) "isinstance" .globalImplicit:=by symm
theorem jD:LK (aa br) "len" .globalImplicit:=by symm
theorem sE:LK (aa br) "tuple" .globalImplicit:=by symm
theorem jQ:LK (aa az) "_law_is_number" .globalImplicit:=by symm
theorem nY:LK (aa az) "_law_k" .local:=by symm
theorem bB:LK (aa az) "_law_number" .local:=by symm
theorem bS:LK (aa az) "_law_row" .local:=by symm
theorem fm:LK (aa az) "_law_rows" .local:=by symm
theorem fq:LK (aa az) "_law_seen" .local:=by symm
theorem fy:LK (aa az) "_law_step" .local:=by symm
theorem kX:LK (aa az) "_law_walked" .globalImplicit:=by symm
theorem ki:LK (aa az) "_law_way_here" .local:=by symm
theorem mL:LK (aa az) "enumerate" .globalImplicit:=by symm
theorem lW:LK (aa az) "isinstance" .globalImplicit:=by symm
theorem kj:LK (aa az) "len" .globalImplicit:=by symm
theorem o6:LK (aa az) "tuple" .globalImplicit:=by symm
theorem pQ:LK (aa aN) "_law_before" .globalImplicit:=by symm
theorem kH:LK (aa aN) "_law_cell" .local:=by symm
theorem iC:LK (aa aN) "_law_deep" .local:=by symm
theorem qL:LK (aa aN) "_law_every" .local:=by symm
theorem jf:LK (aa aN) "_law_go" .local:=by symm
theorem gb:LK (aa aN) "_law_good" .local:=by symm
theorem iD:LK (aa aN) "_law_item" .local:=by symm
theorem nL:LK (aa aN) "_law_k" .local:=by symm
theorem g7:LK (aa aN) "_law_looks" .local:=by symm
theorem rM:LK (aa aN) "_law_many" .globalImplicit:=by symm
theorem iT:LK (aa aN) "_law_many_here" .local:=by symm
theorem sF:LK (aa aN) "_law_mix" .globalImplicit:=by symm
theorem fW:LK (aa aN) "_law_pile_here" .local:=by symm
theorem qM:LK (aa aN) "_law_reach" .local:=by symm
theorem gc:LK (aa aN) "_law_some" .local:=by symm
theorem g8:LK (aa aN) "_law_steps" .local:=by symm
theorem rN:LK (aa aN) "enumerate" .globalImplicit:=by symm
theorem yM:LK (aa aN) "len" .globalImplicit:=by symm
theorem yN:LK (aa aN) "max" .globalImplicit:=by symm
theorem lX:LK (aa aN) "reversed" .globalImplicit:=by symm
theorem yO:LK (aa aN) "sum" .globalImplicit:=by symm
theorem wo:LK (aa aN) "tuple" .globalImplicit:=by symm
theorem Ay:LK (aa fQ) "len" .globalImplicit:=by symm
theorem Az:LK (aa fQ) "row" .local:=by symm
theorem rA:LK (aa fQ) "rows" .local:=by symm
theorem AA:LK (aa cF) "add" .local:=by symm
theorem yP:LK (aa cF) "list" .globalImplicit:=by symm
theorem rB:LK (aa cF) "look" .local:=by symm
theorem xS:LK (aa cF) "looks" .local:=by symm
theorem jw:LK (aa cF) "rest" .local:=by symm
theorem tO:LK (aa cF) "reversed" .globalImplicit:=by symm
theorem yQ:LK (aa cF) "rows" .local:=by symm
theorem rC:LK (aa cF) "step" .local:=by symm
theorem AB:LK (aa cF) "way" .local:=by symm
theorem AD:LK (aa cF) "zip" .globalImplicit:=by symm
theorem jh:LK (aa bG) "found" .local:=by symm
theorem wu:LK (aa bG) "len" .globalImplicit:=by symm
theorem uP:LK (aa bG) "list" .globalImplicit:=by symm
theorem ko:LK (aa bG) "one" .local:=by symm
theorem qN:LK (aa bG) "parts_of" .local:=by symm
theorem qO:LK (aa bG) "reversed" .globalImplicit:=by symm
theorem wz:LK (aa bG) "top" .local:=by symm
theorem gf:LK (aa bG) "waiting" .local:=by symm
theorem kY:LK rq "_law_script" .free:=by symm
theorem nj:LK ig "_law_mix" .globalImplicit:=by symm
theorem kZ:LK ig "_law_script" .free:=by symm
theorem lY:LK ig "_law_start" .free:=by symm
theorem qP:LK ig "len" .globalImplicit:=by symm
theorem mO:LK ju "_law_cell" .free:=by symm
theorem nk:LK ju "_law_mix" .globalImplicit:=by symm
theorem mP:LK ju "_law_word" .free:=by symm
theorem nM:LK ic "add_row" .globalImplicit:=by symm
theorem mQ:LK ic "exchanged" .globalImplicit:=by symm
theorem qQ:LK ic "one" .local:=by symm
theorem o7:LK ic "parts" .local:=by symm
theorem pR:LK ic "rows" .free:=by symm
theorem xT:LK (aa cE) "add" .local:=by symm
theorem sG:LK (aa cE) "add_way" .globalImplicit:=by symm
theorem kq:LK (aa cE) "look" .local:=by symm
theorem qR:LK (aa cE) "look_with" .globalImplicit:=by symm
theorem nN:LK (aa cE) "parts" .local:=by symm
theorem wA:LK (aa cE) "rows" .local:=by symm
theorem sH:LK (aa cV) "all_within" .globalImplicit:=by symm
theorem Be:LK (aa cV) "len" .globalImplicit:=by symm
theorem kr:LK (aa cV) "made" .local:=by symm
theorem AE:LK (aa cV) "make" .local:=by symm
theorem xU:LK (aa cV) "number" .local:=by symm
theorem o8:LK (aa cV) "one" .local:=by symm
theorem mR:LK (aa cV) "parts" .local:=by symm
theorem nO:LK (aa cV) "parts_of" .local:=by symm
theorem yR:LK (aa cV) "range" .globalImplicit:=by symm
theorem uQ:LK (aa cV) "reversed" .globalImplicit:=by symm
theorem Bf:LK (aa cV) "top" .local:=by symm
theorem oH:LK (aa ia) "_law_cells" .globalImplicit:=by symm
theorem lg:LK (aa ia) "_law_item" .local:=by symm
theorem wB:LK (aa ia) "_law_names" .globalImplicit:=by symm
theorem fL:LK (aa ia) "_law_names_here" .local:=by symm
theorem xV:LK (aa ia) "_law_pile" .globalImplicit:=by symm
theorem gg:LK (aa ia) "_law_pile_here" .local:=by symm
theorem kB:LK (aa ia) "_law_reach" .local:=by symm
theorem wC:LK (aa ia) "_law_right" .globalImplicit:=by symm
theorem jE:LK (aa ia) "_law_script" .local:=by symm
theorem GD:LK (aa ia) "sum" .globalImplicit:=by symm
theorem uR:LK (aa bW) "list" .globalImplicit:=by symm
theorem g9:LK (aa bW) "look" .local:=by symm
theorem xW:LK (aa cC) "len" .globalImplicit:=by symm
theorem iG:LK (aa cC) "look" .local:=by symm
theorem jF:LK (aa cC) "parts" .local:=by symm
theorem nP:LK (aa cC) "tuple" .globalImplicit:=by symm
theorem xX:LK (aa cC) "zip" .globalImplicit:=by symm
theorem mX:LK (aa bZ) "changed" .local:=by symm
theorem uS:LK (aa bZ) "folded" .globalImplicit:=by symm
theorem xY:LK (aa bZ) "look" .local:=by symm
theorem qS:LK (aa bZ) "look_parts" .globalImplicit:=by symm
theorem pS:LK (aa bZ) "rows" .cell:=by symm
theorem wF:LK (aa bZ) "tuple" .globalImplicit:=by symm
theorem L6 {p:List Value→Prop} (h:∀ a0,p [a0]):∀ us:List Value,us.length=1→p us:=λus e=>by
  rcases us with _ | ⟨a0,us⟩
  · cases e
  rcases us with _ | ⟨z,us⟩
  · exact h a0
  · cases e
theorem De {p:List Value→Prop} (h:∀ a0 a1,p [a0,a1]):∀ us:List Value,us.length=2→p us:=λus e=>by
  rcases us with _ | ⟨a0,us⟩
  · cases e
  rcases us with _ | ⟨a1,us⟩
  · cases e
  rcases us with _ | ⟨z,us⟩
  · exact h a0 a1
  · cases e
theorem U1 {p:List Value→Prop} (h:∀ a0 a1 a2,p [a0,a1,a2]):∀ us:List Value,us.length=3→p us:=λus e=>by
  rcases us with _ | ⟨a0,us⟩
  · cases e
  rcases us with _ | ⟨a1,us⟩
  · cases e
  rcases us with _ | ⟨a2,us⟩
  · cases e
  rcases us with _ | ⟨z,us⟩
  · exact h a0 a1 a2
  · cases e
theorem Jx {p:List Value→Prop} (h:∀ a0 a1 a2 a3,p [a0,a1,a2,a3]):∀ us:List Value,us.length=4→p us:=λus e=>by
  rcases us with _ | ⟨a0,us⟩
  · cases e
  rcases us with _ | ⟨a1,us⟩
  · cases e
  rcases us with _ | ⟨a2,us⟩
  · cases e
  rcases us with _ | ⟨a3,us⟩
  · cases e
  rcases us with _ | ⟨z,us⟩
  · exact h a0 a1 a2 a3
  · cases e
theorem YD {p:List Value→Prop} (h:∀ a0 a1 a2 a3 a4,p [a0,a1,a2,a3,a4]):∀ us:List Value,us.length=5→p us:=λus e=>by
  rcases us with _ | ⟨a0,us⟩
  · cases e
  rcases us with _ | ⟨a1,us⟩
  · cases e
  rcases us with _ | ⟨a2,us⟩
  · cases e
  rcases us with _ | ⟨a3,us⟩
  · cases e
  rcases us with _ | ⟨a4,us⟩
  · cases e
  rcases us with _ | ⟨z,us⟩
  · exact h a0 a1 a2 a3 a4
  · cases e
theorem sI:rW "table_of" (aD bZ)=some dF:=rfl
theorem EU:∀ (l j:Nat) (z:Str),[1][l]?=some j→dF.names[l]?=some z→uJ[j]?=some z:=by
  intro l j z h1 h2
  match l,h1,h2 with
  | 0,h1,h2=>cases h1;cases h2;rfl
  | l+1,h1,h2=>cases h1
theorem EV:∀ z∈dF.names,(aa bZ).names.lookup z=some .cell:=by symm
theorem EW {L:Nat}:∀ (l:Nat) (z:Str),dF.names[l]?=some z→∃ d,[L+1][l]?=some d∧(cellsFrom (L+1) (aa bZ).names []).lookup z=some d:=by
  intro l z h
  match l,h with
  | 0,h=>cases h;exact ⟨_,rfl,rfl⟩
  | l+1,h=>cases h
section
variable {P:Program} {w:World} {K:PySem.W.Frag} {mg:Str→Option Value} {base:Heap} {t:YC}
theorem um:cX qp ["look"] (aa bW):=⟨rfl,rfl,rfl,by symm,rfl,by symm,by symm⟩
theorem Bg (T:Txt K mg t):bV P w K mg base (eO P w) 1 (t.f 0) (t.d 0) ["look"] (bJ K mg 1 eu):=by
 refine bV.imp (sp:=bJ K mg 1 (λds=>dR 1 gn ds)) ?_ gF
 refine BG (k:=0) (ms:=gn) T.qx um (by decide) (by decide) (λ_=>rfl) ?_
 intro X EE cdv A outer s H E hX hr hx rP
 subst hX
 have hu:=dD hr
 have nd:=um.nd
 have hfr:gC (jO (eO P w) P w K mg base qp "look_parts" (aa bW) (t.f 0) cdv A outer s H E):=⟨_,outer,s.heap.objs.size,rfl,rfl,rfl⟩
 refine ao ?_ ?_
 refine gh ?_ ?_ cH
 refine cA (kJ hu) ?_ jd ?_
 refine av (ah 0 (Or.inl g9) i6 rfl) ak ?_
 symm
 symm
 refine aA ?_
 refine bM ?_
 refine cJ ?_
 refine CG (xs:=["go","inner"]) (ow:=NK K 2) hx hfr j7 (DX rfl j7) D0 rfl ?_ ?_ ?_
 refine av (ah 0 (Or.inl g9) i6 rfl) ak ?_
 symm
 exact kO λcl C pins s0 H0 fp E1 SK hx=>(ah 1 (sd j7 (by simp)) L1 rfl)
 symm
 refine ao ?_ ?_
 refine gh ?_ ?_ cH
 refine cA (FH hu) ?_ ?_ ?_
 refine av (ah 0 (Or.inl g9) i6 rfl) ak ?_
 symm
 refine fT ?_
 refine jP ?_
 refine jP ?_
 exact jP aj
 symm
 refine aA ?_
 refine bM ?_
 refine cJ ?_
 refine NQ T.Gz uR ?_ ?_
 refine ay ?_ ?_ aj
 refine cJ ?_
 refine nA (ah 0 (Or.inl g9) i6 rfl) ?_ p6
 exact p7 ak
 symm
 symm
 refine aA ?_
 refine bM ?_
 refine cJ ?_
 exact fD aj
theorem wG:cX su ["look","parts"] (aa cC):=⟨rfl,rfl,rfl,by symm,rfl,by symm,by symm⟩
theorem Df (T:Txt K mg t):bV P w K mg base (eO P w) 1 (t.f 1) (t.d 1) ["look","parts"] (bJ K mg 2 lQ):=by
 refine bV.imp (sp:=bJ K mg 2 (λds=>dR 2 iM ds)) ?_ gF
 refine BG (k:=0) (ms:=iM) T.yl wG (by decide) (by decide) (λ_=>rfl) ?_
 intro X EE cdv A outer s H E hX hr hx rP
 subst hX
 have hu:=dD hr
 have nd:=wG.nd
 have hfr:gC (jO (eO P w) P w K mg base su "look_with" (aa cC) (t.f 1) cdv A outer s H E):=⟨_,outer,s.heap.objs.size,rfl,rfl,rfl⟩
 refine ao ?_ ?_
 refine gh ?_ ?_ cH
 refine cA (kJ hu) ?_ jd ?_
 refine av (ah 0 (Or.inl iG) i6 rfl) ak ?_
 symm
 symm
 refine aA ?_
 refine bM ?_
 refine fT ?_
 refine jP ?_
 refine ay ?_ ?_ aj
 refine zR T.oF nP ?_ ?_
 refine ay ?_ ?_ aj
 refine cJ ?_
 refine KZ (xs:=["step","part"]) (ow:=NK K 2) hx hfr i7 (DX rfl i7) D0 rfl ?_ ?_ ?_
 refine N8 T.Pf xX ?_ ?_
 refine ay ?_ ?_ ?_
 refine av (ah 0 (Or.inl iG) i6 rfl) ak ?_
 symm
 symm
 refine ay (ah 1 (Or.inl jF) lU rfl) ?_ aj
 symm
 symm
 refine kO λcl C pins s0 H0 fp E1 SK hx=>?_
 refine fT ?_
 refine ay ?_ ?_ ?_
 refine av (ah 0 (sd i7 (by simp)) HU rfl) ak ?_
 symm
 symm
 refine ay (ah 1 (sd i7 (by simp)) Oq rfl) ?_ aj
 symm
 symm
 symm
 symm
 symm
 refine ao ?_ ?_
 refine gh ?_ ?_ cH
 refine cA (kJ hu) ?_ ak ?_
 refine fF T.ie xW ?_ ?_
 refine ay (ah 1 (Or.inl jF) lU rfl) ?_ aj
 symm
 symm
 symm
 refine aA ?_
 exact bM (ah 0 (Or.inl iG) i6 rfl)
 refine aA ?_
 refine bM ?_
 refine cI ?_ ?_
 refine fT ?_
 refine ay ?_ ?_ aj
 refine av (ah 0 (Or.inl iG) i6 rfl) ak ?_
 symm
 symm
 refine zR T.oF nP ?_ ?_
 refine ay (ah 1 (Or.inl jF) lU rfl) ?_ aj
 symm
 symm
theorem AF:cX BZ ["rows","row"] (aa fQ):=⟨rfl,rfl,rfl,by symm,rfl,by symm,by symm⟩
theorem GF (T:Txt K mg t):bV P w K mg base (eO P w) 1 (t.f 7) (t.d 7) ["rows","row"] (bJ K mg 2 kQ):=by
 refine BG (k:=0) (ms:=xG) T.B5 AF (by decide) (by decide) (λ_=>rfl) ?_
 intro X EE cdv A outer s H E hX hr hx rP
 subst hX
 have hu:=dD hr
 have nd:=AF.nd
 have hfr:gC (jO (eO P w) P w K mg base BZ "add_row" (aa fQ) (t.f 7) cdv A outer s H E):=⟨_,outer,s.heap.objs.size,rfl,rfl,rfl⟩
 refine ao ?_ ?_
 refine n8 ?_ ?_
 refine kP (ah 0 (Or.inl rA) tF rfl) ?_ ?_ ?_ rfl
 refine ay (ah 1 (Or.inl Az) RM rfl) ?_ aj
 symm
 symm
 symm
 symm
 refine aA ?_
 refine bM ?_
 refine ux ?_ ak
 refine fF T.ie Ay ?_ ?_
 refine ay (ah 0 (Or.inl rA) tF rfl) ?_ aj
 symm
 symm
theorem yt:cX Ao ["_law_cell","_law_k"] (aa cR):=⟨rfl,rfl,rfl,by symm,rfl,by symm,by symm⟩
theorem EX (T:Txt K mg t):bV P w K mg base (eO P w) 1 (t.f 8) (t.d 8) ["_law_cell","_law_k"] (bJ K mg 2 aK):=by
 refine bV.imp (sp:=bJ K mg 2 (λds=>dR 5 nG ds)) ?_ gF
 refine BG (k:=0) (ms:=nG) T.dh yt (by decide) (by decide) (λ_=>rfl) ?_
 intro X EE cdv A outer s H E hX hr hx rP
 subst hX
 have hu:=dD hr
 have nd:=yt.nd
 have hfr:gC (jO (eO P w) P w K mg base Ao "_law_mix" (aa cR) (t.f 8) cdv A outer s H E):=⟨_,outer,s.heap.objs.size,rfl,rfl,rfl⟩
 refine ao ?_ ?_
 refine bg (i:=2) nd (Or.inl cO) ak (Or.inl rfl) rfl ?_
 symm
 refine ao ?_ ?_
 refine gh ?_ ?_ cH
 refine cA Q3 (ah 0 (Or.inl iB) bu rfl) ?_ ?_
 exact QN ak ak
 symm
 refine ao ?_ ?_
 refine bg (i:=2) nd (Or.inl cO) (ah 0 (Or.inl iB) bu rfl) (Or.inl rfl) rfl ?_
 symm
 refine aA ?_
 refine r9 rP rfl T.oE wk ?_ ?_ ?_ ?_
 refine ay ?_ ?_ aj
 exact iz (ah 1 (Or.inl jC) jK rfl) ak
 symm
 exact n9 (i:=3) nd (Or.inl uM) (Or.inl rfl) rfl
 refine aA ?_
 refine bg (i:=2) nd (Or.inl cO) ?_ (Or.inl rfl) rfl ?_
 exact G5 (ah 2 (Or.inl cO) oS rfl) ak
 symm
 symm
 refine ao ?_ ?_
 refine gh ?_ ?_ cH
 refine cA rZ (ah 2 (Or.inl cO) oS rfl) ak ?_
 symm
 refine aA ?_
 refine bM ?_
 exact iz (ah 2 (Or.inl cO) oS rfl) ak
 refine ao ?_ ?_
 refine bg (i:=4) nd (Or.inl cG) ?_ (Or.inl rfl) rfl ?_
 refine cI ?_ ak
 refine cI ?_ ?_
 exact iz (ah 0 (Or.inl iB) bu rfl) ak
 exact zz ak (ah 1 (Or.inl jC) jK rfl)
 symm
 refine ao ?_ ?_
 refine bg (i:=4) nd (Or.inl cG) ?_ (Or.inl rfl) rfl ?_
 refine iz ?_ ak
 exact zz (ah 4 (Or.inl cG) dJ rfl) (ah 4 (Or.inl cG) dJ rfl)
 symm
 refine aA ?_
 refine bM ?_
 refine G5 ?_ ak
 refine iz ?_ ak
 refine zz (ah 4 (Or.inl cG) dJ rfl) ?_
 refine cI ?_ ak
 refine cI (ah 4 (Or.inl cG) dJ rfl) ?_
 exact zz ak (ah 1 (Or.inl jC) jK rfl)
theorem sJ:cX tZ ["_law_masks_of","_law_bits"] (aa bK):=⟨rfl,rfl,rfl,by symm,rfl,by symm,by symm⟩
theorem AG (T:Txt K mg t):bV P w K mg base (eO P w) 1 (t.f 13) (t.d 13) ["_law_masks_of","_law_bits"] (bJ K mg 2 lC):=by
 refine bV.imp (sp:=bJ K mg 2 (λds=>dR 5 lB ds)) ?_ gF
 refine BG (k:=0) (ms:=lB) T.ud sJ (by decide) (by decide) (λ_=>rfl) ?_
 intro X EE cdv A outer s H E hX hr hx rP
 subst hX
 have hu:=dD hr
 have nd:=sJ.nd
 have hfr:gC (jO (eO P w) P w K mg base tZ "_law_before" (aa bK) (t.f 13) cdv A outer s H E):=⟨_,outer,s.heap.objs.size,rfl,rfl,rfl⟩
 refine ao ?_ ?_
 refine bg (i:=2) nd (Or.inl eE) ak (Or.inl rfl) rfl ?_
 symm
 refine ao ?_ ?_
 refine sZ rP rfl ?_ ?_ ?_ ?_
 refine Ag T.oB oX ?_ ?_
 refine ay (ah 0 (Or.inl mG) xM rfl) ?_ aj
 symm
 symm
 exact vq (i:=3) (j:=4) rfl nd (Or.inl kF) (Or.inl jq) (Or.inl rfl) (Or.inl rfl) rfl rfl
 refine aA ?_
 refine gh ?_ ?_ cH
 refine cA (xg hu) ?_ ak ?_
 exact CQ (ah 4 (Or.inl jq) C6 rfl) (ah 1 (Or.inl oW) qB rfl)
 symm
 refine aA ?_
 refine bg (i:=2) nd (Or.inl eE) ?_ (Or.inl rfl) rfl ?_
 refine Gq (ah 2 (Or.inl eE) vW rfl) ?_
 exact CS ak (ah 3 (Or.inl kF) Jv rfl)
 symm
 symm
 refine aA ?_
 exact bM (ah 2 (Or.inl eE) vW rfl)
theorem oJ:cX pJ ["_law_thing","_law_many_here"] (aa bh):=⟨rfl,rfl,rfl,by symm,rfl,by symm,by symm⟩
theorem wH (T:Txt K mg t):bV P w K mg base (eO P w) 1 (t.f 17) (t.d 17) ["_law_thing","_law_many_here"] (bJ K mg 2 dY):=by
 refine bV.imp (sp:=bJ K mg 2 (λds=>dR 2 iX ds)) ?_ gF
 refine BG (k:=0) (ms:=iX) T.pM oJ (by decide) (by decide) (λ_=>rfl) ?_
 intro X EE cdv A outer s H E hX hr hx rP
 subst hX
 have hu:=dD hr
 have nd:=oJ.nd
 have hfr:gC (jO (eO P w) P w K mg base pJ "_law_is_number" (aa bh) (t.f 17) cdv A outer s H E):=⟨_,outer,s.heap.objs.size,rfl,rfl,rfl⟩
 refine aA ?_
 refine bM ?_
 refine uA ?_ ?_
 refine xr .int ?_ T.iY T.HR ir rH (ah 0 (Or.inl fk) oV rfl) RO RP RL.1 ?_
 decide
 symm
 refine uA ?_ ?_
 refine Q5 ?_
 refine xr .bl ?_ T.iY T.RK ir qC (ah 0 (Or.inl fk) oV rfl) Ot Ou Om.1 ?_
 decide
 symm
 refine zG ?_
 refine KL Q2 rY ak (ah 0 (Or.inl fk) oV rfl) (ah 1 (Or.inl j8) dI rfl) ?_
 symm
theorem uo:cX vL ["top","parts_of"] (aa bG):=⟨rfl,rfl,rfl,by symm,rfl,by symm,by symm⟩
theorem Bh (T:Txt K mg t) (i8:bV P w K mg base (eO P w) 1 (t.f 0) (t.d 0) ["look"] (bJ K mg 1 eu)):bV P w K mg base (eO P w) 2 (t.f 2) (t.d 2) ["top","parts_of"] (bJ K mg 2 jY):=by
 refine bV.imp (sp:=bJ K mg 2 (λds=>dR 5 m6 ds)) ?_ gF
 refine BG (k:=1) (ms:=m6) T.vO uo (by decide) (by decide) (λ_=>rfl) ?_
 intro X EE cdv A outer s H E hX hr hx rP
 subst hX
 have hu:=dD hr
 have nd:=uo.nd
 have hfr:gC (jO (eO P w) P w K mg base vL "all_within" (aa bG) (t.f 2) cdv A outer s H E):=⟨_,outer,s.heap.objs.size,rfl,rfl,rfl⟩
 refine ao ?_ ?_
 refine bg (i:=2) nd (Or.inl jh) ?_ (Or.inl rfl) rfl ?_
 exact fD aj
 symm
 refine ao ?_ ?_
 refine bg (i:=3) nd (Or.inl gf) ?_ (Or.inl rfl) rfl ?_
 refine fD ?_
 refine ay (ah 0 (Or.inl wz) L5 rfl) ?_ aj
 symm
 symm
 refine ao ?_ ?_
 refine KS rP ?_ ?_
 refine cA rZ ?_ ak ?_
 refine fF T.ie wu ?_ ?_
 refine ay (ah 3 (Or.inl gf) uL rfl) ?_ aj
 symm
 symm
 symm
 refine ao ?_ ?_
 refine bg (i:=4) nd (Or.inl ko) ?_ (Or.inl rfl) rfl ?_
 refine KN (ah 3 (Or.inl gf) uL rfl) ?_ rfl
 symm
 symm
 refine ao ?_ ?_
 refine n8 ?_ ?_
 refine kP (ah 2 (Or.inl jh) ES rfl) ?_ ?_ ?_ rfl
 refine ay (ah 4 (Or.inl ko) Aw rfl) ?_ aj
 symm
 symm
 symm
 symm
 refine aA ?_
 refine n8 ?_ ?_
 refine N2 (ah 3 (Or.inl gf) uL rfl) ?_ ?_ ?_ rfl
 refine ay ?_ ?_ aj
 refine cJ ?_
 refine FT rfl T.Gz uP T.nK qO ?_ ?_
 refine ay ?_ ?_ aj
 refine zS (CX:=eO P w) rfl (Or.inl qN) sD (NR ⟨⟨_,_,_,_,i8,hr.mono (by decide),T.qy,T.qx.kp,T.vN⟩,trivial⟩) (gD hx) ?_ ?_
 refine ay (ah 4 (Or.inl ko) Aw rfl) ?_ aj
 symm
 symm
 symm
 symm
 symm
 symm
 symm
 symm
 refine aA ?_
 refine bM ?_
 exact HA (ah 2 (Or.inl jh) ES rfl)
theorem AH:cX B0 ["way","looks","rows","add"] (aa cF):=⟨rfl,rfl,rfl,by symm,rfl,by symm,by symm⟩
theorem GG (T:Txt K mg t) (xZ:bV P w K mg base (eO P w) 1 (t.f 7) (t.d 7) ["rows","row"] (bJ K mg 2 kQ)):bV P w K mg base (eO P w) 2 (t.f 6) (t.d 6) ["way","looks","rows","add"] (bJ K mg 4 pK):=by
 refine BG (k:=1) (ms:=xH) T.B4 AH (by decide) (by decide) (λ_=>rfl) ?_
 intro X EE cdv A outer s H E hX hr hx rP
 subst hX
 have hu:=dD hr
 have nd:=AH.nd
 have hfr:gC (jO (eO P w) P w K mg base B0 "add_way" (aa cF) (t.f 6) cdv A outer s H E):=⟨_,outer,s.heap.objs.size,rfl,rfl,rfl⟩
 refine ao ?_ ?_
 refine bg (i:=4) nd (Or.inl jw) Kl (Or.inl rfl) rfl ?_
 symm
 refine ao ?_ ?_
 refine sZ rP rfl ?_ ?_ ?_ ?_
 refine Lf T.nK tO ?_ ?_
 refine ay ?_ ?_ aj
 refine cJ ?_
 refine Gv rfl T.Gz yP T.Pf AD ?_ ?_
 refine ay (ah 0 (Or.inl AB) RN rfl) ?_ ?_
 symm
 refine ay (ah 1 (Or.inl xS) L4 rfl) ?_ aj
 symm
 symm
 symm
 symm
 exact vq (i:=5) (j:=6) rfl nd (Or.inl rC) (Or.inl rB) (Or.inl rfl) (Or.inl rfl) rfl rfl
 refine aA ?_
 refine bg (i:=4) nd (Or.inl jw) ?_ (Or.inl rfl) rfl ?_
 refine zS (CX:=eO P w) rfl (Or.inl AA) L0 (NR ⟨⟨_,_,_,_,xZ,hr.mono (by decide),T.B6,T.B5.kp,T.Ju⟩,trivial⟩) (gD hx) ?_ ?_
 refine ay (ah 2 (Or.inl yQ) tF rfl) ?_ ?_
 symm
 refine ay ?_ ?_ aj
 refine fT ?_
 refine ay ?_ ?_ ?_
 refine av (ah 5 (Or.inl rC) HU rfl) ak ?_
 symm
 symm
 refine ay (ah 6 (Or.inl rB) i6 rfl) ?_ ?_
 symm
 refine ay (ah 4 (Or.inl jw) HS rfl) ?_ aj
 symm
 symm
 symm
 symm
 symm
 refine aA ?_
 exact bM (ah 4 (Or.inl jw) HS rfl)
theorem uq:cX m8 ["_law_script","_law_start"] (aa bH):=⟨rfl,rfl,rfl,by symm,rfl,by symm,by symm⟩
theorem Bj (T:Txt K mg t) (aZ:bV P w K mg base (eO P w) 1 (t.f 8) (t.d 8) ["_law_cell","_law_k"] (bJ K mg 2 aK)):bV P w K mg base (eO P w) 2 (t.f 9) (t.d 9) ["_law_script","_law_start"] (bJ K mg 2 fH):=by
 refine bV.imp (sp:=bJ K mg 2 (λds=>dR 3 m9 ds)) ?_ gF
 refine BG (k:=1) (ms:=m9) T.qA uq (by decide) (by decide) (λ_=>rfl) ?_
 intro X EE cdv A outer s H E hX hr hx rP
 subst hX
 have hu:=dD hr
 have nd:=uq.nd
 have hfr:gC (jO (eO P w) P w K mg base m8 "_law_cells" (aa bH) (t.f 9) cdv A outer s H E):=⟨_,outer,s.heap.objs.size,rfl,rfl,rfl⟩
 refine ao ?_ ?_
 refine UH ?_
 refine K0 (i:=2) (xs:=["_law_k"]) (ow:=FO) hx hfr iF (r8 iF) pF rfl nd cU ?_ ?_ ?_ rfl ?_
 refine N3 T.oE mU ?_ ?_
 refine ay (ah 1 (Or.inr (Or.inl oY)) ug rfl) ?_ ?_
 symm
 refine ay ?_ ?_ ?_
 refine Hg rfl T.Pd wj ?_ ?_
 refine ay ?_ ?_ ?_
 refine fF T.ie oG ?_ ?_
 refine ay (ah 0 (Or.inr (Or.inl nU)) gK rfl) ?_ aj
 symm
 symm
 symm
 exact iI aj
 symm
 symm
 exact iI aj
 symm
 refine kO λcl C pins s0 H0 fp E1 SK hx=>?_
 refine av (ah 1 (vm iF kY) gK rfl) (ah 0 (sd iF (by simp)) jK rfl) ?_
 symm
 refine Jb rfl cU rfl ?_
 symm
 symm
 refine aA ?_
 refine bM ?_
 refine cJ ?_
 refine cI (ah 2 (Or.inl cU) jB rfl) ?_
 refine cJ ?_
 refine BI (xs:=["_law_k"]) (ow:=FO) hx hfr gr (r8 gr) pF rfl T.oE mU ?_ ?_ ?_
 refine ay ?_ ?_ aj
 refine ux ak ?_
 refine fF T.ie oG ?_ ?_
 refine ay (ah 2 (Or.inl cU) jB rfl) ?_ aj
 symm
 symm
 symm
 refine kO λcl C pins s0 H0 fp E1 SK hx=>?_
 refine bE aZ (hr.mono (by decide)) T.dH T.dh.kp T.dG (gD hx) (CH nj) cT ?_ ?_
 refine ay ?_ ?_ ?_
 refine fF T.ie (CH qP) ?_ ?_
 refine ay (ah 1 (vm gr kZ) gK rfl) ?_ aj
 symm
 symm
 symm
 refine ay ?_ ?_ aj
 refine cI ?_ (ah 0 (sd gr (by simp)) jK rfl)
 exact cI ak (ah 2 (vm gr lY) ug rfl)
 symm
 symm
 symm
theorem ur:cX qu ["_law_cell"] (aa bf):=⟨rfl,rfl,rfl,by symm,rfl,by symm,by symm⟩
theorem Bk (T:Txt K mg t) (aZ:bV P w K mg base (eO P w) 1 (t.f 8) (t.d 8) ["_law_cell","_law_k"] (bJ K mg 2 aK)):bV P w K mg base (eO P w) 2 (t.f 10) (t.d 10) ["_law_cell"] (bJ K mg 1 j0):=by
 refine bV.imp (sp:=bJ K mg 1 (λds=>dR 8 jZ ds)) ?_ gF
 refine BG (k:=1) (ms:=jZ) T.vR ur (by decide) (by decide) (λ_=>rfl) ?_
 intro X EE cdv A outer s H E hX hr hx rP
 subst hX
 have hu:=dD hr
 have nd:=ur.nd
 have hfr:gC (jO (eO P w) P w K mg base qu "_law_names" (aa bf) (t.f 10) cdv A outer s H E):=⟨_,outer,s.heap.objs.size,rfl,rfl,rfl⟩
 refine ao ?_ ?_
 refine bg (i:=1) nd (Or.inl eW) ?_ (Or.inl rfl) rfl ?_
 exact fD aj
 symm
 refine ao ?_ ?_
 refine gh ?_ ?_ cH
 refine cA (kJ hu) ?_ ak ?_
 refine iz ?_ ak
 refine bE aZ (hr.mono (by decide)) T.dH T.dh.kp T.dG (gD hx) dN cT ?_ ?_
 refine ay (ah 0 (Or.inr (Or.inl dz)) bu rfl) ?_ ?_
 symm
 exact iI aj
 symm
 symm
 refine ao ?_ ?_
 refine bg (i:=2) nd (Or.inr gQ) jd (Or.inl rfl) rfl ?_
 symm
 refine ao ?_ ?_
 refine r9 rP rfl T.oE gG ?_ ?_ ?_ ?_
 exact iI aj
 exact n9 (i:=3) nd (Or.inl eV) (Or.inl rfl) rfl
 refine aA ?_
 refine bg (i:=2) nd (Or.inr gQ) ?_ (Or.inl rfl) rfl ?_
 refine cI (ah 2 (Or.inr (Or.inl gQ)) v9 rfl) ?_
 refine av jd ?_ ?_
 refine iz ?_ ak
 refine bE aZ (hr.mono (by decide)) T.dH T.dh.kp T.dG (gD hx) dN cT ?_ ?_
 refine ay (ah 0 (Or.inr (Or.inl dz)) bu rfl) ?_ ?_
 symm
 refine ay ?_ ?_ aj
 exact cI ak (ah 3 (Or.inl eV) tB rfl)
 symm
 symm
 symm
 symm
 symm
 refine aA ?_
 refine bM ?_
 refine cJ ?_
 refine BI (xs:=["_law_k"]) (ow:=FO) hx hfr gu (r8 gu) pF rfl T.oE gG ?_ ?_ ?_
 exact iI aj
 refine kO λcl C pins s0 H0 fp E1 SK hx=>?_
 refine cJ ?_
 refine nA (ah 3 (vm gu mP) v9 rfl) p6 ?_
 refine p7 ?_
 refine cI ?_ (ah 0 (sd gu (by simp)) jK rfl)
 refine cI ak ?_
 refine iz ?_ ak
 refine bE aZ (hr.mono (by decide)) T.dH T.dh.kp T.dG (gD hx) (CH nk) cT ?_ ?_
 refine ay (ah 1 (vm gu mO) bu rfl) ?_ ?_
 symm
 exact iI aj
 symm
 symm
 refine ao ?_ ?_
 refine bg (i:=4) nd (Or.inl gM) ?_ (Or.inl rfl) rfl ?_
 refine cI ak ?_
 refine iz ?_ ak
 refine bE aZ (hr.mono (by decide)) T.dH T.dh.kp T.dG (gD hx) dN cT ?_ ?_
 refine ay (ah 0 (Or.inr (Or.inl dz)) bu rfl) ?_ ?_
 symm
 exact iI aj
 symm
 symm
 refine ao ?_ ?_
 refine bg (i:=5) nd (Or.inl jr) ?_ (Or.inl rfl) rfl ?_
 refine iz ?_ (ah 4 (Or.inl gM) v8 rfl)
 refine bE aZ (hr.mono (by decide)) T.dH T.dh.kp T.dG (gD hx) dN cT ?_ ?_
 refine ay (ah 0 (Or.inr (Or.inl dz)) bu rfl) ?_ ?_
 symm
 exact iI aj
 symm
 symm
 refine ao ?_ ?_
 refine r9 rP rfl T.oE gG ?_ ?_ ?_ ?_
 exact iI aj
 exact n9 (i:=6) nd (Or.inl lV) (Or.inl rfl) rfl
 refine ao ?_ ?_
 refine bg (i:=7) nd (Or.inl cg) jd (Or.inl rfl) rfl ?_
 symm
 refine ao ?_ ?_
 refine r9 rP rfl T.oE gG ?_ ?_ ?_ ?_
 refine ay (ah 4 (Or.inl gM) v8 rfl) ?_ aj
 symm
 exact n9 (i:=3) nd (Or.inl eV) (Or.inl rfl) rfl
 refine aA ?_
 refine bg (i:=7) nd (Or.inl cg) ?_ (Or.inl rfl) rfl ?_
 refine cI (ah 7 (Or.inl cg) nh rfl) ?_
 refine av jd ?_ ?_
 refine iz ?_ ak
 refine cI ?_ ?_
 refine bE aZ (hr.mono (by decide)) T.dH T.dh.kp T.dG (gD hx) dN cT ?_ ?_
 refine ay (ah 0 (Or.inr (Or.inl dz)) bu rfl) ?_ ?_
 symm
 refine ay ?_ ?_ aj
 exact cI ak (ah 3 (Or.inl eV) tB rfl)
 symm
 symm
 refine zz (ah 6 (Or.inl lV) jK rfl) ?_
 refine FW T.HR wm ?_ ?_
 refine ay ?_ ?_ aj
 exact zB hu (ah 3 (Or.inl eV) tB rfl) (ah 5 (Or.inl jr) A8 rfl)
 symm
 symm
 symm
 symm
 symm
 refine ao ?_ ?_
 refine gh ?_ ?_ cH
 refine cA (FH hu) (ah 7 (Or.inl cg) nh rfl) ?_ ?_
 refine cJ ?_
 refine fD ?_
 refine jP ?_
 refine jP ?_
 refine jP ?_
 refine jP ?_
 refine jP ?_
 refine jP ?_
 refine jP ?_
 refine jP ?_
 refine jP ?_
 refine jP ?_
 refine jP ?_
 exact jP aj
 symm
 refine aA ?_
 refine bg (i:=7) nd (Or.inl cg) ?_ (Or.inl rfl) rfl ?_
 exact cI (ah 7 (Or.inl cg) nh rfl) jd
 symm
 refine aA ?_
 refine n8 ?_ ?_
 refine kP (ah 1 (Or.inl eW) dZ rfl) ?_ ?_ ?_ rfl
 refine ay (ah 7 (Or.inl cg) nh rfl) ?_ aj
 symm
 symm
 symm
 symm
 symm
 refine aA ?_
 refine bM ?_
 exact HA (ah 1 (Or.inl eW) dZ rfl)
theorem wI:cX yh ["_law_cell","_law_names_here","_law_rows","_law_spot"] (aa bA):=⟨rfl,rfl,rfl,by symm,rfl,by symm,by symm⟩
theorem Dg (T:Txt K mg t) (aZ:bV P w K mg base (eO P w) 1 (t.f 8) (t.d 8) ["_law_cell","_law_k"] (bJ K mg 2 aK)):bV P w K mg base (eO P w) 2 (t.f 11) (t.d 11) ["_law_cell","_law_names_here","_law_rows","_law_spot"] (bJ K mg 4 iO):=by
 refine bV.imp (sp:=bJ K mg 4 (λds=>dR 8 jG ds)) ?_ gF
 refine BG (k:=1) (ms:=jG) T.yo wI (by decide) (by decide) (λ_=>rfl) ?_
 intro X EE cdv A outer s H E hX hr hx rP
 subst hX
 have hu:=dD hr
 have nd:=wI.nd
 have hfr:gC (jO (eO P w) P w K mg base yh "_law_leaf" (aa bA) (t.f 11) cdv A outer s H E):=⟨_,outer,s.heap.objs.size,rfl,rfl,rfl⟩
 refine ao ?_ ?_
 refine gh ?_ ?_ cH
 refine cA (kJ hu) ?_ ak ?_
 refine iz ?_ ak
 refine bE aZ (hr.mono (by decide)) T.dH T.dh.kp T.dG (gD hx) iA cT ?_ ?_
 refine ay (ah 0 (Or.inl gZ) bu rfl) ?_ ?_
 symm
 exact iI aj
 symm
 symm
 refine aA ?_
 refine bM ?_
 refine fT ?_
 refine ay ?_ ?_ ?_
 refine fT ?_
 exact jP aj
 symm
 refine ay (ah 3 (Or.inl qE) v5 rfl) ?_ ?_
 symm
 refine iI ?_
 exact iI aj
 refine ao ?_ ?_
 refine gh ?_ ?_ cH
 refine cA (kJ hu) ?_ ak ?_
 refine iz ?_ ak
 refine bE aZ (hr.mono (by decide)) T.dH T.dh.kp T.dG (gD hx) iA cT ?_ ?_
 refine ay (ah 0 (Or.inl gZ) bu rfl) ?_ ?_
 symm
 exact iI aj
 symm
 symm
 refine aA ?_
 refine bM ?_
 refine fT ?_
 refine ay ?_ ?_ ?_
 refine fT ?_
 exact jP aj
 symm
 refine ay ?_ ?_ ?_
 refine ux ?_ ak
 refine CS ak ?_
 refine fF T.ie xO ?_ ?_
 refine ay (ah 2 (Or.inl j9) dM rfl) ?_ aj
 symm
 symm
 symm
 refine iI ?_
 exact iI aj
 refine ao ?_ ?_
 refine bg (i:=4) nd (Or.inl g6) ?_ (Or.inl rfl) rfl ?_
 refine av (ah 1 (Or.inl mH) dZ rfl) ?_ ?_
 refine iz ?_ ak
 refine bE aZ (hr.mono (by decide)) T.dH T.dh.kp T.dG (gD hx) iA cT ?_ ?_
 refine ay (ah 0 (Or.inl gZ) bu rfl) ?_ ?_
 symm
 exact iI aj
 symm
 symm
 symm
 refine ao ?_ ?_
 refine bg (i:=5) nd (Or.inl fK) ak (Or.inl rfl) rfl ?_
 symm
 refine ao ?_ ?_
 refine sZ rP rfl ?_ ?_ ?_ ?_
 refine Ag T.oB qF ?_ ?_
 refine ay (ah 2 (Or.inl j9) dM rfl) ?_ aj
 symm
 symm
 exact vq (i:=6) (j:=7) rfl nd (Or.inl mV) (Or.inl kG) (Or.inl rfl) (Or.inl rfl) rfl rfl
 refine aA ?_
 refine bg (i:=5) nd (Or.inl fK) ?_ (Or.inl rfl) rfl ?_
 refine Gq (ah 5 (Or.inl fK) qB rfl) ?_
 refine CS ?_ (ah 6 (Or.inl mV) tB rfl)
 refine FW T.HR xN ?_ ?_
 refine ay ?_ ?_ aj
 refine zB hu ?_ (ah 4 (Or.inl g6) vY rfl)
 refine av (ah 7 (Or.inl kG) jL rfl) ak ?_
 symm
 symm
 symm
 symm
 symm
 refine aA ?_
 refine bM ?_
 refine fT ?_
 refine ay ?_ ?_ ?_
 refine fT ?_
 refine jP ?_
 refine ay (ah 4 (Or.inl g6) vY rfl) ?_ aj
 symm
 symm
 refine ay (ah 5 (Or.inl fK) qB rfl) ?_ ?_
 symm
 refine iI ?_
 exact iI aj
theorem sL:cX t8 ["_law_pile_here","_law_cell","_law_every"] (aa aU):=⟨rfl,rfl,rfl,by symm,rfl,by symm,by symm⟩
theorem AI (T:Txt K mg t) (aZ:bV P w K mg base (eO P w) 1 (t.f 8) (t.d 8) ["_law_cell","_law_k"] (bJ K mg 2 aK)):bV P w K mg base (eO P w) 2 (t.f 12) (t.d 12) ["_law_pile_here","_law_cell","_law_every"] (bJ K mg 3 eB):=by
 refine bV.imp (sp:=bJ K mg 3 (λds=>dR 8 cL ds)) ?_ gF
 refine BG (k:=1) (ms:=cL) T.uc sL (by decide) (by decide) (λ_=>rfl) ?_
 intro X EE cdv A outer s H E hX hr hx rP
 subst hX
 have hu:=dD hr
 have nd:=sL.nd
 have hfr:gC (jO (eO P w) P w K mg base t8 "_law_truths" (aa aU) (t.f 12) cdv A outer s H E):=⟨_,outer,s.heap.objs.size,rfl,rfl,rfl⟩
 refine ao ?_ ?_
 refine bg (i:=3) nd (Or.inl cZ) ?_ (Or.inl rfl) rfl ?_
 refine iz ?_ ak
 refine bE aZ (hr.mono (by decide)) T.dH T.dh.kp T.dG (gD hx) pO cT ?_ ?_
 refine ay (ah 1 (Or.inl o5) bu rfl) ?_ ?_
 symm
 exact iI aj
 symm
 symm
 refine ao ?_ ?_
 refine bg (i:=4) nd (Or.inl aH) ?_ (Or.inl rfl) rfl ?_
 refine av (ah 0 (Or.inl eX) aM rfl) ?_ ?_
 exact Ct ak
 symm
 symm
 refine ao ?_ ?_
 refine gh ?_ ?_ cH
 refine AS ?_
 refine uy ?_ ?_
 refine cA (kJ hu) (ah 3 (Or.inl cZ) i0 rfl) ak ?_
 symm
 refine uy ?_ ?_
 refine cA rY ?_ ak ?_
 refine av (ah 4 (Or.inl aH) dP rfl) ak ?_
 symm
 symm
 refine vj ?_
 refine cA rY ?_ ak ?_
 refine av (ah 4 (Or.inl aH) dP rfl) ak ?_
 symm
 symm
 refine aA ?_
 refine bM ?_
 refine cJ ?_
 refine fD ?_
 refine ay ?_ ?_ aj
 refine fT ?_
 refine ay ?_ ?_ ?_
 refine fT ?_
 refine jP ?_
 refine ay ?_ ?_ aj
 refine av (ah 4 (Or.inl aH) dP rfl) ak ?_
 symm
 symm
 symm
 refine ay ?_ ?_ ?_
 refine Oh (ah 2 (Or.inl nW) lJ rfl) ?_
 refine av (ah 4 (Or.inl aH) dP rfl) ak ?_
 symm
 symm
 refine ay ?_ ?_ ?_
 refine cI ?_ ak
 refine av (ah 4 (Or.inl aH) dP rfl) ak ?_
 symm
 symm
 refine ay ?_ ?_ aj
 refine cI ?_ ak
 refine av (ah 4 (Or.inl aH) dP rfl) ak ?_
 symm
 symm
 symm
 refine ao ?_ ?_
 refine gh ?_ ?_ cH
 refine AS ?_
 refine uy ?_ ?_
 refine cA rY (ah 3 (Or.inl cZ) i0 rfl) ak ?_
 symm
 refine vj ?_
 refine cA rZ ?_ ak ?_
 refine fF T.ie uN ?_ ?_
 refine ay (ah 0 (Or.inl eX) aM rfl) ?_ aj
 symm
 symm
 symm
 refine ao ?_ ?_
 refine bg (i:=5) nd (Or.inl bN) ?_ (Or.inl rfl) rfl ?_
 refine av (ah 0 (Or.inl eX) aM rfl) ?_ ?_
 exact Ct ak
 symm
 symm
 refine ao ?_ ?_
 refine bg (i:=6) nd (Or.inl cu) ?_ (Or.inl rfl) rfl ?_
 refine cI ?_ ak
 refine cI ?_ ?_
 refine av (ah 4 (Or.inl aH) dP rfl) ak ?_
 symm
 refine av (ah 5 (Or.inl bN) iw rfl) ak ?_
 symm
 symm
 refine ao ?_ ?_
 refine bg (i:=7) nd (Or.inl cW) ?_ (Or.inl rfl) rfl ?_
 refine cI ?_ ak
 refine NP rfl T.Pc uO ?_ ?_
 refine ay ?_ ?_ ?_
 refine av (ah 4 (Or.inl aH) dP rfl) ak ?_
 symm
 symm
 refine ay ?_ ?_ aj
 refine av (ah 5 (Or.inl bN) iw rfl) ak ?_
 symm
 symm
 symm
 symm
 refine ao ?_ ?_
 refine gh ?_ ?_ cH
 refine AS ?_
 refine uy ?_ ?_
 refine cA rY (ah 6 (Or.inl cu) dI rfl) ak ?_
 symm
 refine uy ?_ ?_
 refine cA rY (ah 7 (Or.inl cW) iZ rfl) ak ?_
 symm
 refine vj ?_
 refine cA (kJ hu) (ah 3 (Or.inl cZ) i0 rfl) ak ?_
 symm
 refine aA ?_
 refine bM ?_
 refine cJ ?_
 refine fD ?_
 refine ay ?_ ?_ aj
 refine fT ?_
 refine ay ?_ ?_ ?_
 refine fT ?_
 refine jP ?_
 refine ay ?_ ?_ ?_
 refine av (ah 5 (Or.inl bN) iw rfl) ak ?_
 symm
 symm
 refine ay ?_ ?_ aj
 refine av (ah 4 (Or.inl aH) dP rfl) ak ?_
 symm
 symm
 symm
 refine ay ?_ ?_ ?_
 refine CQ ?_ ?_
 refine av (ah 5 (Or.inl bN) iw rfl) ak ?_
 symm
 refine av (ah 4 (Or.inl aH) dP rfl) ak ?_
 symm
 symm
 refine ay (ah 6 (Or.inl cu) dI rfl) ?_ ?_
 symm
 refine ay (ah 7 (Or.inl cW) iZ rfl) ?_ aj
 symm
 symm
 refine aA ?_
 refine gh ?_ ?_ cH
 refine AS ?_
 refine uy ?_ ?_
 refine cA rY (ah 6 (Or.inl cu) dI rfl) ak ?_
 symm
 refine vj ?_
 refine cA rY (ah 7 (Or.inl cW) iZ rfl) ak ?_
 symm
 refine aA ?_
 refine bM ?_
 refine cJ ?_
 refine fD ?_
 refine ay ?_ ?_ aj
 refine fT ?_
 refine ay ?_ ?_ ?_
 refine fT ?_
 refine jP ?_
 refine ay ?_ ?_ ?_
 refine av (ah 5 (Or.inl bN) iw rfl) ak ?_
 symm
 symm
 refine ay ?_ ?_ aj
 refine av (ah 4 (Or.inl aH) dP rfl) ak ?_
 symm
 symm
 symm
 refine ay ?_ ?_ ?_
 refine Gq ?_ ?_
 refine av (ah 5 (Or.inl bN) iw rfl) ak ?_
 symm
 refine av (ah 4 (Or.inl aH) dP rfl) ak ?_
 symm
 symm
 refine ay (ah 6 (Or.inl cu) dI rfl) ?_ ?_
 symm
 refine ay (ah 7 (Or.inl cW) iZ rfl) ?_ aj
 symm
 symm
 refine aA ?_
 refine bM ?_
 refine cJ ?_
 exact fD aj
theorem wJ:cX yi ["_law_pile_here","_law_cell"] (aa cK):=⟨rfl,rfl,rfl,by symm,rfl,by symm,by symm⟩
theorem Dh (T:Txt K mg t) (aZ:bV P w K mg base (eO P w) 1 (t.f 8) (t.d 8) ["_law_cell","_law_k"] (bJ K mg 2 aK)):bV P w K mg base (eO P w) 2 (t.f 14) (t.d 14) ["_law_pile_here","_law_cell"] (bJ K mg 2 iQ):=by
 refine bV.imp (sp:=bJ K mg 2 (λds=>dR 2 lR ds)) ?_ gF
 refine BG (k:=1) (ms:=lR) T.sC wJ (by decide) (by decide) (λ_=>rfl) ?_
 intro X EE cdv A outer s H E hX hr hx rP
 subst hX
 have hu:=dD hr
 have nd:=wJ.nd
 have hfr:gC (jO (eO P w) P w K mg base yi "_law_many" (aa cK) (t.f 14) cdv A outer s H E):=⟨_,outer,s.heap.objs.size,rfl,rfl,rfl⟩
 refine aA ?_
 refine bM ?_
 refine Hg rfl T.Pd xQ ?_ ?_
 refine ay ?_ ?_ ?_
 refine fF T.ie xP ?_ ?_
 refine ay (ah 0 (Or.inl ni) aM rfl) ?_ aj
 symm
 symm
 symm
 refine ay ?_ ?_ aj
 refine av ?_ ?_ ?_
 refine cJ ?_
 refine fD ?_
 refine iI ?_
 refine iI ?_
 refine iI ?_
 refine iI ?_
 refine iI ?_
 refine iI ?_
 refine iI ?_
 exact iI aj
 refine iz ?_ ak
 refine bE aZ (hr.mono (by decide)) T.dH T.dh.kp T.dG (gD hx) rJ cT ?_ ?_
 refine ay (ah 1 (Or.inl qG) bu rfl) ?_ ?_
 symm
 exact iI aj
 symm
 symm
 symm
 symm
theorem wK:cX yj ["look","parts","rows","add"] (aa cE):=⟨rfl,rfl,rfl,by symm,rfl,by symm,by symm⟩
theorem Di (T:Txt K mg t) (sM:bV P w K mg base (eO P w) 1 (t.f 1) (t.d 1) ["look","parts"] (bJ K mg 2 lQ)) (x6:bV P w K mg base (eO P w) 2 (t.f 6) (t.d 6) ["way","looks","rows","add"] (bJ K mg 4 pK)):bV P w K mg base (eO P w) 3 (t.f 5) (t.d 5) ["look","parts","rows","add"] (bJ K mg 4 jH):=by
 refine BG (k:=2) (ms:=lS) T.ym wK (by decide) (by decide) (λ_=>rfl) ?_
 intro X EE cdv A outer s H E hX hr hx rP
 subst hX
 have hu:=dD hr
 have nd:=wK.nd
 have hfr:gC (jO (eO P w) P w K mg base yj "exchanged" (aa cE) (t.f 5) cdv A outer s H E):=⟨_,outer,s.heap.objs.size,rfl,rfl,rfl⟩
 refine ao ?_ ?_
 refine gh ?_ ?_ cH
 refine cA (kJ hu) ?_ jd ?_
 refine av (ah 0 (Or.inl kq) i6 rfl) ak ?_
 symm
 symm
 refine aA ?_
 refine bM ?_
 refine fT ?_
 refine jP ?_
 refine ay ?_ ?_ aj
 refine bE x6 (hr.mono (by decide)) T.Jt T.B4.kp T.Js (gD hx) sG GB ?_ ?_
 refine ay ?_ ?_ ?_
 refine av (ah 0 (Or.inl kq) i6 rfl) ak ?_
 symm
 symm
 refine ay (ah 1 (Or.inl nN) lU rfl) ?_ ?_
 symm
 refine ay (ah 2 (Or.inl wA) tF rfl) ?_ ?_
 symm
 refine ay (ah 3 (Or.inl xT) L0 rfl) ?_ aj
 symm
 symm
 symm
 refine aA ?_
 refine bM ?_
 refine bE sM (hr.mono (by decide)) T.EH T.yl.kp T.EG (gD hx) qR C9 ?_ ?_
 refine ay (ah 0 (Or.inl kq) i6 rfl) ?_ ?_
 symm
 refine ay (ah 1 (Or.inl nN) lU rfl) ?_ aj
 symm
 symm
theorem yu:cX qv ["_law_pile_here","_law_cell","_law_every","_law_reach"] (aa aN):=⟨rfl,rfl,rfl,by symm,rfl,by symm,by symm⟩
theorem EY (T:Txt K mg t) (aZ:bV P w K mg base (eO P w) 1 (t.f 8) (t.d 8) ["_law_cell","_law_k"] (bJ K mg 2 aK)) (o9:bV P w K mg base (eO P w) 1 (t.f 13) (t.d 13) ["_law_masks_of","_law_bits"] (bJ K mg 2 lC)) (jN:bV P w K mg base (eO P w) 2 (t.f 14) (t.d 14) ["_law_pile_here","_law_cell"] (bJ K mg 2 iQ)):bV P w K mg base (eO P w) 3 (t.f 15) (t.d 15) ["_law_pile_here","_law_cell","_law_every","_law_reach"] (bJ K mg 4 kT):=by
 refine bV.imp (sp:=bJ K mg 4 (λds=>dR 13 jz ds)) ?_ gF
 refine BG (k:=2) (ms:=jz) T.Ar yu (by decide) (by decide) (λ_=>rfl) ?_
 intro X EE cdv A outer s H E hX hr hx rP
 subst hX
 have hu:=dD hr
 have nd:=yu.nd
 have hfr:gC (jO (eO P w) P w K mg base qv "_law_way" (aa aN) (t.f 15) cdv A outer s H E):=⟨_,outer,s.heap.objs.size,rfl,rfl,rfl⟩
 refine ao ?_ ?_
 refine bg (i:=4) nd (Or.inl iT) ?_ (Or.inl rfl) rfl ?_
 refine bE jN (hr.mono (by decide)) T.yq T.sC.kp T.yp (gD hx) rM vZ ?_ ?_
 refine ay (ah 0 (Or.inl fW) aM rfl) ?_ ?_
 symm
 refine ay (ah 1 (Or.inl kH) bu rfl) ?_ aj
 symm
 symm
 symm
 refine ao ?_ ?_
 refine bg (i:=5) nd (Or.inl gc) ?_ (Or.inl rfl) rfl ?_
 refine cJ ?_
 refine nA (ah 0 (Or.inl fW) aM rfl) ?_ p6
 refine p7 ?_
 refine ux ?_ (ah 4 (Or.inl iT) dI rfl)
 refine fF T.ie yM ?_ ?_
 refine ay (ah 0 (Or.inl fW) aM rfl) ?_ aj
 symm
 symm
 symm
 refine ao ?_ ?_
 refine bg (i:=6) nd (Or.inl g7) ?_ (Or.inl rfl) rfl ?_
 refine cI ak ?_
 refine KW rfl T.Pe yO ?_ ?_
 refine ay ?_ ?_ aj
 refine cJ ?_
 refine CG (xs:=["_law_item"]) (ow:=FO) hx hfr mE (r8 mE) pF rfl (ah 5 (Or.inl gc) gY rfl) ?_ ?_
 refine kO λcl C pins s0 H0 fp E1 SK hx=>?_
 refine av (ah 0 (sd mE (by simp)) j6 rfl) ak ?_
 symm
 symm
 symm
 symm
 symm
 refine ao ?_ ?_
 refine bg (i:=7) nd (Or.inl iC) ?_ (Or.inl rfl) rfl ?_
 refine cI ak ?_
 refine NS rfl T.Pc yN ?_ ?_
 refine ay ?_ ?_ aj
 refine cJ ?_
 refine CG (xs:=["_law_item"]) (ow:=FO) hx hfr mF (r8 mF) pF rfl (ah 5 (Or.inl gc) gY rfl) ?_ ?_
 refine kO λcl C pins s0 H0 fp E1 SK hx=>?_
 refine av (ah 0 (sd mF (by simp)) j6 rfl) ak ?_
 symm
 symm
 symm
 symm
 symm
 refine ao ?_ ?_
 refine gh ?_ ?_ cH
 refine AS ?_
 refine zF ?_ ?_
 refine cA rZ (ah 6 (Or.inl g7) uf rfl) ak ?_
 symm
 refine zE ?_
 refine cA rZ (ah 7 (Or.inl iC) iZ rfl) ak ?_
 symm
 refine aA ?_
 refine bM ?_
 refine cJ ?_
 exact fD aj
 refine ao ?_ ?_
 refine bg (i:=8) nd (Or.inl g8) ?_ (Or.inl rfl) rfl ?_
 exact fD aj
 symm
 refine ao ?_ ?_
 refine bg (i:=9) nd (Or.inl gb) (ah 2 (Or.inl qL) lJ rfl) (Or.inl rfl) rfl ?_
 symm
 refine ao ?_ ?_
 refine sZ rP rfl ?_ ?_ ?_ ?_
 refine LP T.oB rN T.nK lX ?_ ?_
 refine ay (ah 5 (Or.inl gc) gY rfl) ?_ aj
 symm
 symm
 exact vq (i:=10) (j:=11) rfl nd (Or.inl nL) (Or.inl iD) (Or.inl rfl) (Or.inl rfl) rfl rfl
 refine ao ?_ ?_
 refine bg (i:=12) nd (Or.inl jf) ?_ (Or.inl rfl) rfl ?_
 refine av ?_ ?_ ?_
 refine cJ ?_
 refine fD ?_
 refine jP ?_
 refine jP ?_
 refine jP ?_
 exact jP aj
 refine iz ?_ ak
 refine bE aZ (hr.mono (by decide)) T.dH T.dh.kp T.dG (gD hx) sF cT ?_ ?_
 refine ay (ah 1 (Or.inl kH) bu rfl) ?_ ?_
 symm
 refine ay ?_ ?_ aj
 exact cI ak (ah 10 (Or.inl nL) jK rfl)
 symm
 symm
 symm
 symm
 refine ao ?_ ?_
 refine n8 ?_ ?_
 refine kP (ah 8 (Or.inl g8) uh rfl) ?_ ?_ ?_ rfl
 refine ay ?_ ?_ aj
 refine fT ?_
 refine ay (ah 12 (Or.inl jf) Au rfl) ?_ ?_
 symm
 refine ay ?_ ?_ aj
 refine av (ah 11 (Or.inl iD) j6 rfl) ak ?_
 symm
 symm
 symm
 symm
 symm
 symm
 refine aA ?_
 refine bg (i:=9) nd (Or.inl gb) ?_ (Or.inl rfl) rfl ?_
 refine bE o9 (hr.mono (by decide)) T.A6 T.ud.kp T.A5 (gD hx) pQ As ?_ ?_
 refine ay ?_ ?_ ?_
 exact RI hu (ah 3 (Or.inl qM) oU rfl) (ah 12 (Or.inl jf) Au rfl) (λ_ _=>rfl)
 symm
 refine ay ?_ ?_ aj
 refine CQ (ah 9 (Or.inl gb) vV rfl) ?_
 refine av (ah 11 (Or.inl iD) j6 rfl) ak ?_
 symm
 symm
 symm
 symm
 symm
 refine aA ?_
 refine bM ?_
 refine cJ ?_
 refine fD ?_
 refine ay ?_ ?_ aj
 refine fT ?_
 refine ay ?_ ?_ ?_
 refine fT ?_
 refine jP ?_
 refine ay ?_ ?_ aj
 refine Ej rfl T.oF wo T.nK lX ?_ ?_
 refine ay (ah 8 (Or.inl g8) uh rfl) ?_ aj
 symm
 symm
 symm
 symm
 refine ay (ah 9 (Or.inl gb) vV rfl) ?_ ?_
 symm
 refine ay (ah 6 (Or.inl g7) uf rfl) ?_ ?_
 symm
 refine ay (ah 7 (Or.inl iC) iZ rfl) ?_ aj
 symm
 symm
theorem wL:cX yk ["_law_cells_here","_law_names_here","_law_rows","_law_reach","_law_spot"] (aa aT):=⟨rfl,rfl,rfl,by symm,rfl,by symm,by symm⟩
theorem Dj (T:Txt K mg t) (aZ:bV P w K mg base (eO P w) 1 (t.f 8) (t.d 8) ["_law_cell","_law_k"] (bJ K mg 2 aK)) (sN:bV P w K mg base (eO P w) 2 (t.f 11) (t.d 11) ["_law_cell","_law_names_here","_law_rows","_law_spot"] (bJ K mg 4 iO)) (pe:bV P w K mg base (eO P w) 2 (t.f 12) (t.d 12) ["_law_pile_here","_law_cell","_law_every"] (bJ K mg 3 eB)) (jN:bV P w K mg base (eO P w) 2 (t.f 14) (t.d 14) ["_law_pile_here","_law_cell"] (bJ K mg 2 iQ)) (uT:bV P w K mg base (eO P w) 3 (t.f 15) (t.d 15) ["_law_pile_here","_law_cell","_law_every","_law_reach"] (bJ K mg 4 kT)):bV P w K mg base (eO P w) 4 (t.f 16) (t.d 16) ["_law_cells_here","_law_names_here","_law_rows","_law_reach","_law_spot"] (bJ K mg 5 jI):=by
 refine bV.imp (sp:=bJ K mg 5 (λds=>dR 10 ou ds)) ?_ gF
 refine BG (k:=3) (ms:=ou) T.yr wL (by decide) (by decide) (λ_=>rfl) ?_
 intro X EE cdv A outer s H E hX hr hx rP
 subst hX
 have hu:=dD hr
 have nd:=wL.nd
 have hfr:gC (jO (eO P w) P w K mg base yk "_law_pile" (aa aT) (t.f 16) cdv A outer s H E):=⟨_,outer,s.heap.objs.size,rfl,rfl,rfl⟩
 refine ao ?_ ?_
 refine bg (i:=5) nd (Or.inl gR) ?_ (Or.inl rfl) rfl ?_
 refine ux ?_ ak
 refine CS ak ?_
 refine fF T.ie fR ?_ ?_
 refine ay (ah 2 (Or.inl kg) dM rfl) ?_ aj
 symm
 symm
 symm
 refine ao ?_ ?_
 refine bg (i:=6) nd (Or.inl aG) ?_ (Or.inl rfl) rfl ?_
 exact fD aj
 symm
 refine ao ?_ ?_
 refine KO rP rfl (ah 0 (Or.inl mJ) jB rfl) ?_ ?_ ?_
 exact n9 (i:=7) nd (Or.inl cP) (Or.inl rfl) rfl
 refine ao ?_ ?_
 refine bg (i:=8) nd (Or.inl cz) ?_ (Or.inl rfl) rfl ?_
 refine cJ ?_
 exact fD aj
 symm
 refine ao ?_ ?_
 refine bg (i:=9) nd (Or.inl dB) ak (Or.inl rfl) rfl ?_
 symm
 refine ao ?_ ?_
 refine gh ?_ ?_ ?_
 refine AS ?_
 refine uy ?_ ?_
 refine cA rZ ?_ ak ?_
 refine fF T.ie fR ?_ ?_
 refine ay (ah 6 (Or.inl aG) aM rfl) ?_ aj
 symm
 symm
 symm
 refine vj ?_
 refine cA (kJ hu) ?_ ak ?_
 refine iz ?_ ak
 refine bE aZ (hr.mono (by decide)) T.dH T.dh.kp T.dG (gD hx) rK cT ?_ ?_
 refine ay (ah 7 (Or.inl cP) bu rfl) ?_ ?_
 symm
 exact iI aj
 symm
 symm
 refine ao ?_ ?_
 refine bg (i:=8) nd (Or.inl cz) ?_ (Or.inl rfl) rfl ?_
 refine bE uT (hr.mono (by decide)) T.Gy T.Ar.kp T.Gx (gD hx) rL ER ?_ ?_
 refine ay (ah 6 (Or.inl aG) aM rfl) ?_ ?_
 symm
 refine ay (ah 7 (Or.inl cP) bu rfl) ?_ ?_
 symm
 refine ay (ah 5 (Or.inl gR) lJ rfl) ?_ ?_
 symm
 refine ay (ah 3 (Or.inl pN) oU rfl) ?_ aj
 symm
 symm
 symm
 refine aA ?_
 refine bg (i:=9) nd (Or.inl dB) ?_ (Or.inl rfl) rfl ?_
 refine bE jN (hr.mono (by decide)) T.yq T.sC.kp T.yp (gD hx) qI vZ ?_ ?_
 refine ay (ah 6 (Or.inl aG) aM rfl) ?_ ?_
 symm
 refine ay (ah 7 (Or.inl cP) bu rfl) ?_ aj
 symm
 symm
 symm
 refine aA ?_
 refine gh ?_ ?_ cH
 refine cA rZ ?_ ak ?_
 refine fF T.ie fR ?_ ?_
 refine ay (ah 6 (Or.inl aG) aM rfl) ?_ aj
 symm
 symm
 symm
 refine ao ?_ ?_
 refine bg (i:=8) nd (Or.inl cz) ?_ (Or.inl rfl) rfl ?_
 refine bE pe (hr.mono (by decide)) T.A4 T.uc.kp T.A3 (gD hx) oZ Av ?_ ?_
 refine ay (ah 6 (Or.inl aG) aM rfl) ?_ ?_
 symm
 refine ay (ah 7 (Or.inl cP) bu rfl) ?_ ?_
 symm
 refine ay (ah 5 (Or.inl gR) lJ rfl) ?_ aj
 symm
 symm
 symm
 refine aA ?_
 refine bg (i:=9) nd (Or.inl dB) ?_ (Or.inl rfl) rfl ?_
 refine ux ak ?_
 refine FW T.HR xR ?_ ?_
 refine ay ?_ ?_ aj
 refine uA ?_ ?_
 refine T7 ?_ ak
 refine fF T.ie fR ?_ ?_
 refine ay (ah 8 (Or.inl cz) gY rfl) ?_ aj
 symm
 symm
 refine zG ?_
 refine zB hu ?_ jd
 refine av ?_ ak ?_
 refine av ?_ ak ?_
 refine av (ah 8 (Or.inl cz) gY rfl) ak ?_
 symm
 symm
 symm
 symm
 symm
 symm
 refine aA ?_
 refine gh ?_ ?_ ?_
 refine cA rZ ?_ ak ?_
 refine fF T.ie fR ?_ ?_
 refine ay (ah 8 (Or.inl cz) gY rfl) ?_ aj
 symm
 symm
 symm
 refine aA ?_
 refine bg (i:=6) nd (Or.inl aG) ?_ (Or.inl rfl) rfl ?_
 refine cI ?_ (ah 8 (Or.inl cz) gY rfl)
 refine cJ ?_
 refine nA (ah 6 (Or.inl aG) aM rfl) p6 ?_
 refine p7 ?_
 refine ux ?_ (ah 9 (Or.inl dB) dI rfl)
 refine fF T.ie fR ?_ ?_
 refine ay (ah 6 (Or.inl aG) aM rfl) ?_ aj
 symm
 symm
 symm
 refine aA ?_
 refine n8 ?_ ?_
 refine kP (ah 6 (Or.inl aG) aM rfl) ?_ ?_ ?_ rfl
 refine ay ?_ ?_ aj
 refine bE sN (hr.mono (by decide)) T.EM T.yo.kp T.EL (gD hx) qH C5 ?_ ?_
 refine ay (ah 7 (Or.inl cP) bu rfl) ?_ ?_
 symm
 refine ay (ah 1 (Or.inl mK) dZ rfl) ?_ ?_
 symm
 refine ay (ah 2 (Or.inl kg) dM rfl) ?_ ?_
 symm
 refine ay (ah 4 (Or.inl qJ) v5 rfl) ?_ aj
 symm
 symm
 symm
 symm
 symm
 symm
 symm
 refine aA ?_
 refine bM ?_
 exact HA (ah 6 (Or.inl aG) aM rfl)
theorem rE:sj sy ["one","parts"] dF.names dF.scope:=⟨rfl,rfl,rfl,by symm,rfl,by symm,by symm,by symm,by symm⟩
theorem yS (T:Txt K mg t) (sO:bV P w K mg base (eO P w) 3 (t.f 5) (t.d 5) ["look","parts","rows","add"] (bJ K mg 4 jH)):Eu P w K mg base (eO P w) 4 dF 2 eU:=by
 refine Oa (k:=3) (me:=iR) rE (by decide) (by decide) (λ_ _=>rfl) (λdoc pm ctv c cs us s=>De (p:=λus=>bindArgs (DL dF cs doc pm c ctv) ⟨us,[]⟩=pure ((["one","parts"]:List Str).zip us)) (λ_ _=>rfl) us) rfl ?_
 intro X EE cs a c A outer s H E hX hr hx rP
 subst hX
 have hu:=dD hr
 have nd:=rE.nd
 have hfr:gC (O7 (eO P w) P w K mg base sy dF cs a c A outer s H E):=⟨_,outer,s.heap.objs.size,rfl,rfl,rfl⟩
 refine bE sO (hr.mono (by decide)) T.EK T.ym.kp T.EJ (gD hx) mQ C8 ?_ ?_
 refine ay (ah 0 (Or.inl qQ) Aw rfl) ?_ ?_
 symm
 refine ay (ah 1 (Or.inl o7) lU rfl) ?_ ?_
 symm
 refine ay (ah 2 (Or.inr (Or.inr pR)) tF rfl) ?_ ?_
 symm
 refine ay ?_ ?_ aj
 exact OW (f:=(t.f 7)) T.B6 nM GA
 symm
 symm
theorem B7:cX EF ["top","parts_of","make"] (aa cV):=⟨rfl,rfl,rfl,by symm,rfl,by symm,by symm⟩
theorem Jy (T:Txt K mg t) (i8:bV P w K mg base (eO P w) 1 (t.f 0) (t.d 0) ["look"] (bJ K mg 1 eu)) (qT:bV P w K mg base (eO P w) 2 (t.f 2) (t.d 2) ["top","parts_of"] (bJ K mg 2 jY)) (nQ:Eu P w K mg base (eO P w) 4 dF 2 eU):bV P w K mg base (eO P w) 5 (t.f 3) (t.d 3) ["top","parts_of","make"] (bJ K mg 3 sA):=by
 refine BG (k:=4) (ms:=Aq) T.EI B7 (by decide) (by decide) (λ_=>rfl) ?_
 intro X EE cdv A outer s H E hX hr hx rP
 subst hX
 have hu:=dD hr
 have nd:=B7.nd
 have hfr:gC (jO (eO P w) P w K mg base EF "folded" (aa cV) (t.f 3) cdv A outer s H E):=⟨_,outer,s.heap.objs.size,rfl,rfl,rfl⟩
 refine ao ?_ ?_
 refine bg (i:=3) nd (Or.inl kr) ?_ (Or.inl rfl) rfl ?_
 exact fD aj
 symm
 refine ao ?_ ?_
 refine sZ rP rfl ?_ ?_ ?_ ?_
 refine Lf T.nK uQ ?_ ?_
 refine ay ?_ ?_ aj
 refine bE qT (hr.mono (by decide)) T.C0 T.vO.kp T.CZ (gD hx) sH Ba ?_ ?_
 refine ay (ah 0 (Or.inl Bf) L5 rfl) ?_ ?_
 symm
 refine ay (ah 1 (Or.inl nO) sD rfl) ?_ aj
 symm
 symm
 symm
 symm
 exact n9 (i:=4) nd (Or.inl o8) (Or.inl rfl) rfl
 refine ao ?_ ?_
 refine bg (i:=5) nd (Or.inl mR) ?_ (Or.inl rfl) rfl ?_
 exact fD aj
 symm
 refine ao ?_ ?_
 refine r9 rP rfl T.oE yR ?_ ?_ ?_ ?_
 refine ay ?_ ?_ aj
 refine fF T.ie Be ?_ ?_
 refine ay ?_ ?_ aj
 refine zS (CX:=eO P w) rfl (Or.inl nO) sD (NR ⟨⟨_,_,_,_,i8,hr.mono (by decide),T.qy,T.qx.kp,T.vN⟩,trivial⟩) (gD hx) ?_ ?_
 refine ay (ah 4 (Or.inl o8) Aw rfl) ?_ aj
 symm
 symm
 symm
 symm
 symm
 exact n9 (i:=6) nd (Or.inl xU) (Or.inl rfl) rfl
 refine aA ?_
 refine n8 ?_ ?_
 refine kP (ah 5 (Or.inl mR) lU rfl) ?_ ?_ ?_ rfl
 refine ay ?_ ?_ aj
 refine KN (ah 3 (Or.inl kr) Dc rfl) ?_ rfl
 symm
 symm
 symm
 symm
 symm
 symm
 refine aA ?_
 refine n8 ?_ ?_
 refine kP (ah 3 (Or.inl kr) Dc rfl) ?_ ?_ ?_ rfl
 refine ay ?_ ?_ aj
 refine Ly (CX:=eO P w) rfl (Or.inl AE) Oo (Yy ⟨_,_,Gp T.nI T.nJ sI,nQ,hr.mono (by decide)⟩) (gD hx) ?_ ?_
 refine ay (ah 4 (Or.inl o8) Aw rfl) ?_ ?_
 symm
 refine ay ?_ ?_ aj
 exact HA (ah 5 (Or.inl mR) lU rfl)
 symm
 symm
 symm
 symm
 symm
 symm
 symm
 refine aA ?_
 refine bM ?_
 refine av (ah 3 (Or.inl kr) Dc rfl) ak ?_
 symm
theorem yw:cX uJ ["look"] (aa bZ):=⟨rfl,rfl,rfl,by symm,rfl,by symm,by symm⟩
theorem EZ (T:Txt K mg t) {c Pt:Addr} (htab:PySem.W.tabIn K "table_of"=some (c,Pt)) (SH:PySem.W.CodeHd base c Pt) (UW:base.BuiltinsAt mg Pt) (AJ:bV P w K mg base (eO P w) 5 (t.f 3) (t.d 3) ["top","parts_of","make"] (bJ K mg 3 sA)):bV P w K mg base (eO P w) 6 (t.f 4) (t.d 4) ["look"] (bJ K mg 1 nH):=by
 refine bV.imp (sp:=bJ K mg 1 (λds G=>yf (dR 3 kU ds G))) ?_ gF
 refine Yv (k:=5) (ms:=kU) T.nI yw (by decide) (by decide) (λ_ _=>rfl) htab T.nJ ?_
 intro X EE A outer s H E hX hr hx hxs rP
 subst hX
 have hu:=dD hr
 have nd:=yw.nd
 have hfr:gC (jO (eO P w) P w K mg base uJ "table_of" (aa bZ) (t.f 4) (.ref c) A outer s H E):=⟨_,outer,s.heap.objs.size,rfl,rfl,rfl⟩
 refine LA ?_ ?_
 refine bg (i:=1) nd (Or.inr pS) ?_ (Or.inl rfl) rfl ?_
 exact fD aj
 symm
 refine Oe (ns:=dF.names) (i:=2) nd rfl mX ?_ ?_ rfl
 refine LI (CX:=eO P w) (k:=Jr) (f:=(t.f 3)) (fd:=(t.d 3)) (ps:=["top","parts_of","make"]) AJ (hr.mono (by decide)) T.LZ T.EI.kp T.LY (gD (hxs dF.names)) uS Jw ?_ ?_
 refine Ex (ah 0 (Or.inl xY) i6 rfl) ?_ ?_
 symm
 refine Ex ?_ ?_ ?_
 exact OW (f:=(t.f 0)) T.qy qS Bb
 symm
 refine Od ?_ ?_
 exact Oc (bd:=HP (BU gJ)) (k:=dF) (y:="table_of") (js:=[1]) (cs:=[s.heap.objs.size+1]) (c:=c) (P:=Pt) rfl rfl rfl (⟨Gp T.nI T.nJ sI,rfl,htab,SH,UW,rfl,rfl,by simp,EW,rfl,EU,EV,λ_=>rfl⟩) rfl rfl
 symm
 symm
 refine id ?_
 have hx:=hxs dF.names
 refine aA ?_
 refine bM ?_
 refine fT ?_
 refine ay ?_ ?_ ?_
 refine zR T.oF wF ?_ ?_
 refine ay (ah 1 (Or.inr (Or.inl pS)) tF rfl) ?_ aj
 symm
 symm
 symm
 refine ay (ah 2 (Or.inl mX) GC rfl) ?_ aj
 symm
theorem nR:cX oz ["_law_rows","_law_number","_law_way_here","_law_seen"] (aa az):=⟨rfl,rfl,rfl,by symm,rfl,by symm,by symm⟩
theorem uU {k:Nat} {bC bQ:List D→M D} (hk:jA≤k) (T:Txt K mg t) (fS:bV P w K mg base (eO P w) 1 (t.f 17) (t.d 17) ["_law_thing","_law_many_here"] (bJ K mg 2 (dY))) (eY:bV P w K mg base (eO P w) k (t.f 18) (t.d 18) ["_law_rows","_law_number","_law_way_here","_law_seen"] (bJ K mg 4 (bC))) (cN:bV P w K mg base (eO P w) k (t.f 19) (t.d 19) ["_law_rows","_law_told","_law_look","_law_seen"] (bJ K mg 4 (bQ))):bV P w K mg base (eO P w) (k+1) (t.f 18) (t.d 18) ["_law_rows","_law_number","_law_way_here","_law_seen"] (bJ K mg 4 (λds=>dR 7 (gq bC bQ) ds)):=by
 refine BG (k:=k) (ms:=gq bC bQ) T.oA nR (by decide) (by decide) (λ_=>rfl) ?_
 intro X EE cdv A outer s H E hX hr hx rP
 subst hX
 have hu:=dD hr
 have nd:=nR.nd
 have hfr:gC (jO (eO P w) P w K mg base oz "_law_walked_way" (aa az) (t.f 18) cdv A outer s H E):=⟨_,outer,s.heap.objs.size,rfl,rfl,rfl⟩
 refine ao ?_ ?_
 refine sZ rP rfl ?_ ?_ ?_ ?_
 refine Ag T.oB mL ?_ ?_
 refine ay (ah 2 (Or.inl ki) i0 rfl) ?_ aj
 symm
 symm
 exact vq (i:=4) (j:=5) rfl nd (Or.inl nY) (Or.inl fy) (Or.inl rfl) (Or.inl rfl) rfl rfl
 refine ao ?_ ?_
 refine gh ?_ ?_ cH
 refine AS ?_
 refine zF ?_ ?_
 refine uz ?_
 refine uD ?_ ?_
 refine bE fS (hr.mono (Nat.le_trans (show vK≤jA by decide) hk)) T.xK T.pM.kp T.xJ (gD hx) jQ vX ?_ ?_
 refine ay (ah 1 (Or.inl bB) dJ rfl) ?_ ?_
 symm
 refine ay ?_ ?_ aj
 refine fF T.ie kj ?_ ?_
 refine ay (ah 0 (Or.inl fm) dM rfl) ?_ aj
 symm
 symm
 symm
 symm
 symm
 refine zE ?_
 refine cA (RJ hu) (ah 1 (Or.inl bB) dJ rfl) (ah 3 (Or.inl fq) fJ rfl) ?_
 symm
 refine aA ?_
 exact bM vf
 refine ao ?_ ?_
 refine N5 hu vf (ah 3 (Or.inl fq) fJ rfl) (ah 1 (Or.inl bB) dJ rfl) ?_
 symm
 refine ao ?_ ?_
 refine bg (i:=6) nd (Or.inl bS) ?_ (Or.inl rfl) rfl ?_
 refine av (ah 0 (Or.inl fm) dM rfl) (ah 1 (Or.inl bB) dJ rfl) ?_
 symm
 symm
 refine ao ?_ ?_
 refine gh ?_ ?_ cH
 refine AS ?_
 refine zF ?_ ?_
 refine uz ?_
 refine uD ?_ ?_
 refine xr .tup ?_ T.iY T.oF lW o6 (ah 6 (Or.inl bS) jL rfl) we wg wc.1 ?_
 decide
 symm
 symm
 refine zF ?_ ?_
 refine cA (xg hu) ?_ ak ?_
 refine fF T.ie kj ?_ ?_
 refine ay (ah 6 (Or.inl bS) jL rfl) ?_ aj
 symm
 symm
 symm
 refine zE ?_
 refine cA (xg hu) ?_ ?_ ?_
 refine av (ah 6 (Or.inl bS) jL rfl) ak ?_
 symm
 refine av (ah 5 (Or.inl fy) v7 rfl) ak ?_
 symm
 symm
 refine aA ?_
 exact bM vf
 refine ao ?_ ?_
 refine gh ?_ ?_ cH
 refine uz ?_
 refine uD ?_ ?_
 refine bE cN hr T.aO T.iu.kp T.jo (gD hx) kX iS ?_ ?_
 refine ay (ah 0 (Or.inl fm) dM rfl) ?_ ?_
 symm
 refine ay ?_ ?_ ?_
 refine av (ah 6 (Or.inl bS) jL rfl) ak ?_
 symm
 symm
 refine ay ?_ ?_ ?_
 refine av (ah 5 (Or.inl fy) v7 rfl) ak ?_
 symm
 symm
 refine ay (ah 3 (Or.inl fq) fJ rfl) ?_ aj
 symm
 symm
 symm
 refine aA ?_
 exact bM vf
 refine aA ?_
 refine bg (i:=1) nd (Or.inl bB) ?_ (Or.inl rfl) rfl ?_
 refine av (ah 6 (Or.inl bS) jL rfl) ak ?_
 symm
 symm
 symm
 refine aA ?_
 refine bM ?_
 exact QZ (ah 1 (Or.inl bB) dJ rfl) Kl
theorem sP:cX t9 ["_law_rows","_law_told","_law_look","_law_seen"] (aa br):=⟨rfl,rfl,rfl,by symm,rfl,by symm,by symm⟩
theorem AK {k:Nat} {bC bQ:List D→M D} (hk:jA≤k) (T:Txt K mg t) (eY:bV P w K mg base (eO P w) k (t.f 18) (t.d 18) ["_law_rows","_law_number","_law_way_here","_law_seen"] (bJ K mg 4 (bC))) (cN:bV P w K mg base (eO P w) k (t.f 19) (t.d 19) ["_law_rows","_law_told","_law_look","_law_seen"] (bJ K mg 4 (bQ))):bV P w K mg base (eO P w) (k+1) (t.f 19) (t.d 19) ["_law_rows","_law_told","_law_look","_law_seen"] (bJ K mg 4 (λds=>dR 4 (cM bC bQ) ds)):=by
 refine BG (k:=k) (ms:=cM bC bQ) T.iu sP (by decide) (by decide) (λ_=>rfl) ?_
 intro X EE cdv A outer s H E hX hr hx rP
 subst hX
 have hu:=dD hr
 have nd:=sP.nd
 have hfr:gC (jO (eO P w) P w K mg base t9 "_law_walked" (aa br) (t.f 19) cdv A outer s H E):=⟨_,outer,s.heap.objs.size,rfl,rfl,rfl⟩
 refine ao ?_ ?_
 refine gh ?_ ?_ cH
 refine uz ?_
 refine uD ?_ ?_
 refine xr .tup ?_ T.iY T.oF nX sE (ah 1 (Or.inl aW) bX rfl) we wg wc.1 ?_
 decide
 symm
 symm
 refine aA ?_
 exact bM vf
 refine ao ?_ ?_
 refine gh ?_ ?_ cH
 refine cA (kJ hu) ?_ jd ?_
 refine av (ah 2 (Or.inl aV) cY rfl) ak ?_
 symm
 symm
 refine aA ?_
 refine bM ?_
 refine uA ?_ ?_
 refine zB hu ?_ ak
 refine fF T.ie jD ?_ ?_
 refine ay (ah 1 (Or.inl aW) bX rfl) ?_ aj
 symm
 symm
 refine uA ?_ ?_
 refine zB hu ?_ jd
 refine av (ah 1 (Or.inl aW) bX rfl) ak ?_
 symm
 refine zG ?_
 refine bE eY hr T.aQ T.oA.kp T.vS (gD hx) kW uK ?_ ?_
 refine ay (ah 0 (Or.inl eF) dM rfl) ?_ ?_
 symm
 refine ay ?_ ?_ ?_
 refine av (ah 1 (Or.inl aW) bX rfl) ak ?_
 symm
 symm
 refine ay ?_ ?_ ?_
 refine av (ah 2 (Or.inl aV) cY rfl) ak ?_
 symm
 symm
 refine ay (ah 3 (Or.inl eN) fJ rfl) ?_ aj
 symm
 symm
 refine ao ?_ ?_
 refine gh ?_ ?_ cH
 refine AS ?_
 refine zF ?_ ?_
 refine cA (xg hu) ?_ ?_ ?_
 refine fF T.ie jD ?_ ?_
 refine ay (ah 1 (Or.inl aW) bX rfl) ?_ aj
 symm
 symm
 refine fF T.ie jD ?_ ?_
 refine ay (ah 2 (Or.inl aV) cY rfl) ?_ aj
 symm
 symm
 symm
 refine zE ?_
 refine cA (xg hu) ?_ ?_ ?_
 refine av (ah 1 (Or.inl aW) bX rfl) ak ?_
 symm
 refine av (ah 2 (Or.inl aV) cY rfl) ak ?_
 symm
 symm
 refine aA ?_
 exact bM vf
 refine ao ?_ ?_
 refine gh ?_ ?_ cH
 refine cA (kJ hu) ?_ jd ?_
 refine av (ah 2 (Or.inl aV) cY rfl) ak ?_
 symm
 symm
 refine aA ?_
 refine bM ?_
 refine bE cN hr T.aO T.iu.kp T.jo (gD hx) fV iS ?_ ?_
 refine ay (ah 0 (Or.inl eF) dM rfl) ?_ ?_
 symm
 refine ay ?_ ?_ ?_
 refine av (ah 1 (Or.inl aW) bX rfl) ak ?_
 symm
 symm
 refine ay ?_ ?_ ?_
 refine av (ah 2 (Or.inl aV) cY rfl) ak ?_
 symm
 symm
 refine ay (ah 3 (Or.inl eN) fJ rfl) ?_ aj
 symm
 symm
 refine ao ?_ ?_
 refine gh ?_ ?_ cH
 refine cA (FH hu) ?_ ?_ ?_
 refine av (ah 2 (Or.inl aV) cY rfl) ak ?_
 symm
 refine cJ ?_
 refine fD ?_
 refine jP ?_
 exact jP aj
 symm
 refine aA ?_
 refine bM ?_
 refine uA ?_ ?_
 refine bE cN hr T.aO T.iu.kp T.jo (gD hx) fV iS ?_ ?_
 refine ay (ah 0 (Or.inl eF) dM rfl) ?_ ?_
 symm
 refine ay ?_ ?_ ?_
 refine av (ah 1 (Or.inl aW) bX rfl) ak ?_
 symm
 symm
 refine ay ?_ ?_ ?_
 refine av (ah 2 (Or.inl aV) cY rfl) ak ?_
 symm
 symm
 refine ay (ah 3 (Or.inl eN) fJ rfl) ?_ aj
 symm
 symm
 refine zG ?_
 refine bE cN hr T.aO T.iu.kp T.jo (gD hx) fV iS ?_ ?_
 refine ay (ah 0 (Or.inl eF) dM rfl) ?_ ?_
 symm
 refine ay ?_ ?_ ?_
 refine av (ah 1 (Or.inl aW) bX rfl) ak ?_
 symm
 symm
 refine ay ?_ ?_ ?_
 refine av (ah 2 (Or.inl aV) cY rfl) ak ?_
 symm
 symm
 refine ay (ah 3 (Or.inl eN) fJ rfl) ?_ aj
 symm
 symm
 refine aA ?_
 refine bM ?_
 exact zB hu (ah 1 (Or.inl aW) bX rfl) (ah 2 (Or.inl aV) cY rfl)
theorem mY (T:Txt K mg t) (fS:bV P w K mg base (eO P w) 1 (t.f 17) (t.d 17) ["_law_thing","_law_many_here"] (bJ K mg 2 (dY))):∀ n:Nat,bV P w K mg base (eO P w) (1+n) (t.f 18) (t.d 18) ["_law_rows","_law_number","_law_way_here","_law_seen"] (bJ K mg 4 (aQ n))∧bV P w K mg base (eO P w) (1+n) (t.f 19) (t.d 19) ["_law_rows","_law_told","_law_look","_law_seen"] (bJ K mg 4 (aO n))
  | 0=>⟨by rw [show aQ 0=λ_=>M.stop from by funext ds;rw [aQ]];exact HK,by rw [show aO 0=λ_=>M.stop from by funext ds;rw [aO]];exact HK⟩
  | n+1=>by
    obtain ⟨eY,cN⟩:=mY T fS n
    have oK:=uU (Nat.le_add_right 1 n) T fS eY cN
    rw [show (λds=>dR 7 (gq (aQ n) (aO n)) ds)=aQ (n+1) from by funext ds;rw [aQ]] at oK
    have uu:=AK (Nat.le_add_right 1 n) T eY cN
    rw [show (λds=>dR 4 (cM (aQ n) (aO n)) ds)=aO (n+1) from by funext ds;rw [aO]] at uu
    exact ⟨oK,uu⟩
theorem uv:cX vM ["_law_look"] (aa bI):=⟨rfl,rfl,rfl,by symm,rfl,by symm,by symm⟩
theorem Bl (T:Txt K mg t) (uV:bV P w K mg base (eO P w) 6 (t.f 4) (t.d 4) ["look"] (bJ K mg 1 nH)) (cN:bV P w K mg base (eO P w) 61 (t.f 19) (t.d 19) ["_law_rows","_law_told","_law_look","_law_seen"] (bJ K mg 4 ua)):bV P w K mg base (eO P w) 62 (t.f 20) (t.d 20) ["_law_look"] (bJ K mg 1 j5):=by
 refine bV.imp (sp:=bJ K mg 1 (λds=>dR 3 ng ds)) ?_ gF
 refine BG (k:=61) (ms:=ng) T.vU uv (by decide) (by decide) (λ_=>rfl) ?_
 intro X EE cdv A outer s H E hX hr hx rP
 subst hX
 have hu:=dD hr
 have nd:=uv.nd
 have hfr:gC (jO (eO P w) P w K mg base vM "_law_right" (aa bI) (t.f 20) cdv A outer s H E):=⟨_,outer,s.heap.objs.size,rfl,rfl,rfl⟩
 refine ao ?_ ?_
 refine bg (i:=1) nd (Or.inl cj) ?_ (Or.inl rfl) rfl ?_
 refine bE uV (hr.mono (by decide)) T.nJ T.nI.kp T.Gw (gD hx) qK ET ?_ ?_
 refine ay (ah 0 (Or.inl jM) cY rfl) ?_ aj
 symm
 symm
 symm
 refine ao ?_ ?_
 refine gh ?_ ?_ cH
 refine AS ?_
 refine zF ?_ ?_
 refine uz ?_
 refine uD ?_ ?_
 refine xr .tup ?_ T.iY T.oF jt mW (ah 1 (Or.inl cj) bX rfl) we wg wc.1 ?_
 decide
 symm
 symm
 refine zF ?_ ?_
 refine cA (xg hu) ?_ ak ?_
 refine fF T.ie kh ?_ ?_
 refine ay (ah 1 (Or.inl cj) bX rfl) ?_ aj
 symm
 symm
 symm
 refine zE ?_
 refine uz ?_
 refine uD ?_ ?_
 refine xr .tup ?_ T.iY T.oF jt mW ?_ we wg wc.1 ?_
 decide
 refine av (ah 1 (Or.inl cj) bX rfl) ak ?_
 symm
 symm
 symm
 refine aA ?_
 exact bM vf
 refine ao ?_ ?_
 refine bg (i:=2) nd (Or.inl gT) N4 (Or.inl rfl) rfl ?_
 symm
 refine aA ?_
 refine bM ?_
 refine uA ?_ ?_
 refine bE cN (hr.mono (by decide)) T.aO T.iu.kp T.jo (gD hx) nV iS ?_ ?_
 refine ay ?_ ?_ ?_
 refine av (ah 1 (Or.inl cj) bX rfl) ak ?_
 symm
 symm
 refine ay ?_ ?_ ?_
 refine av (ah 1 (Or.inl cj) bX rfl) ak ?_
 symm
 symm
 refine ay (ah 0 (Or.inl jM) cY rfl) ?_ ?_
 symm
 refine ay (ah 2 (Or.inl gT) fJ rfl) ?_ aj
 symm
 symm
 refine zG ?_
 refine zB hu ?_ ?_
 refine Oj T.ie kh ?_ ?_
 refine ay (ah 2 (Or.inl gT) fJ rfl) ?_ aj
 symm
 symm
 refine fF T.ie kh ?_ ?_
 refine ay ?_ ?_ aj
 refine av (ah 1 (Or.inl cj) bX rfl) ak ?_
 symm
 symm
 symm
theorem L7:sj UZ ["_law_script"] [] (aa ia):=⟨rfl,rfl,rfl,by symm,rfl,by symm,by symm,by symm,by symm⟩
theorem RQ (T:Txt K mg t) (nq:bV P w K mg base (eO P w) 2 (t.f 9) (t.d 9) ["_law_script","_law_start"] (bJ K mg 2 fH)) (qU:bV P w K mg base (eO P w) 2 (t.f 10) (t.d 10) ["_law_cell"] (bJ K mg 1 j0)) (sQ:bV P w K mg base (eO P w) 4 (t.f 16) (t.d 16) ["_law_cells_here","_law_names_here","_law_rows","_law_reach","_law_spot"] (bJ K mg 5 jI)) (qV:bV P w K mg base (eO P w) 62 (t.f 20) (t.d 20) ["_law_look"] (bJ K mg 1 j5)):u0 P w K mg base (eO P w) 63 (t.f 21) (t.d 21) ["_law_script"] (bJ K mg 1 HQ):=by
 refine u0.imp (sp:=bJ K mg 1 (λds G=>yf (dR 5 B3 ds G))) ?_ gF
 refine UU (k:=62) (ms:=B3) T.U0 L7 (by decide) (by decide) (by decide) (λ_ _=>rfl) ?_
 intro X EE c A outer s H E hX hr hx rP
 subst hX
 have hu:=dD hr
 have nd:=L7.nd
 refine ao ?_ ?_
 refine bg (i:=1) ?_ ?_ ?_ ?_ ?_ ?_
 exact nd
 exact (Or.inl fL)
 refine bE (CX:=eO P w) (k:=A1) (f:=(t.f 10)) (fd:=(t.d 10)) (ps:=["_law_cell"]) ?_ ?_ ?_ ?_ ?_ ?_ ?_ ?_ ?_ ?_
 exact qU
 exact hr.mono (by decide)
 exact T.C2
 exact T.vR.kp
 exact T.C1
 exact gD hx
 exact wB
 exact A7
 refine ay ?_ ?_ ?_
 refine KW ?_ ?_ ?_ ?_ ?_
 exact rfl
 exact T.Pe
 exact GD
 refine ay ?_ ?_ ?_
 refine cJ ?_
 refine nA ?_ ?_ ?_
 refine ah 0 ?_ ?_ ?_
 exact (Or.inl jE)
 exact gK
 exact rfl
 exact p6
 refine p7 ?_
 exact ak
 symm
 exact aj
 symm
 symm
 exact aj
 symm
 exact Or.inr fL
 exact rfl
 symm
 refine ao ?_ ?_
 refine bg (i:=2) ?_ ?_ ?_ ?_ ?_ ?_
 exact nd
 exact (Or.inl kB)
 refine Ol (l:=[("down",eFn (au bU (af (eC (.int 0)) (aq)))),("deep",eFn (au bU (af (eC (.int 0)) (aq)))),("later",eFn (au bU (af (eC (.int 0)) (aq))))]) ?_ ?_ ?_ ?_ ?_
 refine LX ?_ ?_ ?_
 exact jd
 refine cJ ?_
 refine fD ?_
 refine iI ?_
 exact aj
 refine LX ?_ ?_ ?_
 exact jd
 refine cJ ?_
 refine fD ?_
 refine iI ?_
 exact aj
 refine LX ?_ ?_ ?_
 exact jd
 refine cJ ?_
 refine fD ?_
 refine iI ?_
 exact aj
 exact Nm
 exact rfl
 exact rfl
 simp
 symm
 exact Or.inr kB
 exact rfl
 symm
 refine ao ?_ ?_
 refine bg (i:=3) ?_ ?_ ?_ ?_ ?_ ?_
 exact nd
 exact (Or.inl gg)
 refine bE (CX:=eO P w) (k:=CW) (f:=(t.f 16)) (fd:=(t.d 16)) (ps:=["_law_cells_here","_law_names_here","_law_rows","_law_reach","_law_spot"]) ?_ ?_ ?_ ?_ ?_ ?_ ?_ ?_ ?_ ?_
 exact sQ
 exact hr.mono (by decide)
 exact T.EO
 exact T.yr.kp
 exact T.EN
 exact gD hx
 exact xV
 exact C7
 refine ay ?_ ?_ ?_
 refine cJ ?_
 refine cI ?_ ?_
 refine bE (CX:=eO P w) (k:=t6) (f:=(t.f 9)) (fd:=(t.d 9)) (ps:=["_law_script","_law_start"]) ?_ ?_ ?_ ?_ ?_ ?_ ?_ ?_ ?_ ?_
 exact nq
 exact hr.mono (by decide)
 exact T.vQ
 exact T.qA.kp
 exact T.vP
 exact gD hx
 exact oH
 exact ue
 refine ay ?_ ?_ ?_
 refine ah 0 ?_ ?_ ?_
 exact (Or.inl jE)
 exact gK
 exact rfl
 symm
 refine iI ?_
 exact aj
 symm
 refine bE (CX:=eO P w) (k:=t6) (f:=(t.f 9)) (fd:=(t.d 9)) (ps:=["_law_script","_law_start"]) ?_ ?_ ?_ ?_ ?_ ?_ ?_ ?_ ?_ ?_
 exact nq
 exact hr.mono (by decide)
 exact T.vQ
 exact T.qA.kp
 exact T.vP
 exact gD hx
 exact oH
 exact ue
 refine ay ?_ ?_ ?_
 refine ah 0 ?_ ?_ ?_
 exact (Or.inl jE)
 exact gK
 exact rfl
 symm
 refine iI ?_
 exact aj
 symm
 symm
 refine ay ?_ ?_ ?_
 refine ah 1 ?_ ?_ ?_
 exact (Or.inl fL)
 exact dZ
 exact rfl
 symm
 refine ay ?_ ?_ ?_
 refine cJ ?_
 refine fD ?_
 refine ay ?_ ?_ ?_
 refine fT ?_
 refine iI ?_
 refine ay ?_ ?_ ?_
 refine av ?_ ?_ ?_
 refine ah 1 ?_ ?_ ?_
 exact (Or.inl fL)
 exact dZ
 exact rfl
 exact ak
 symm
 symm
 exact aj
 symm
 exact aj
 symm
 refine ay ?_ ?_ ?_
 refine ah 2 ?_ ?_ ?_
 exact (Or.inl kB)
 exact oU
 exact rfl
 symm
 refine iI ?_
 exact aj
 symm
 exact Or.inr gg
 exact rfl
 symm
 refine ao ?_ ?_
 refine KO ?_ ?_ ?_ ?_ ?_ ?_
 exact rP
 exact rfl
 refine cJ ?_
 refine cI ?_ ?_
 refine cJ ?_
 refine nA ?_ ?_ ?_
 refine ah 3 ?_ ?_ ?_
 exact (Or.inl gg)
 exact aM
 exact rfl
 refine p7 ?_
 refine Ct ?_
 exact ak
 exact p6
 refine cJ ?_
 refine nA ?_ ?_ ?_
 refine ah 3 ?_ ?_ ?_
 exact (Or.inl gg)
 exact aM
 exact rfl
 refine p7 ?_
 refine Ct ?_
 exact ak
 exact p6
 refine n9 (i:=4) ?_ ?_ ?_ ?_
 exact nd
 exact (Or.inl lg)
 exact Or.inr lg
 exact rfl
 refine aA ?_
 refine gh ?_ ?_ ?_
 refine uz ?_
 refine uD ?_ ?_
 refine bE (CX:=eO P w) (k:=A2) (f:=(t.f 20)) (fd:=(t.d 20)) (ps:=["_law_look"]) ?_ ?_ ?_ ?_ ?_ ?_ ?_ ?_ ?_ ?_
 exact qV
 exact hr.mono (by decide)
 exact T.C4
 exact T.vU.kp
 exact T.C3
 exact gD hx
 exact wC
 exact A9
 refine ay ?_ ?_ ?_
 refine av ?_ ?_ ?_
 refine ah 4 ?_ ?_ ?_
 exact (Or.inl lg)
 exact j6
 exact rfl
 exact ak
 symm
 symm
 exact aj
 symm
 symm
 refine aA ?_
 refine bM ?_
 exact vf
 exact cH
 symm
 refine aA ?_
 refine bM ?_
 exact vf
end
theorem RS {K:PySem.W.Frag} {h:Heap} {mg:Str→Option Value} (X:K.In h) (G:h.Ns mainGlobals mg) {f0:Addr} {od0 YE:Option Addr} {sl0:Array (Option Value)} {oc0 YF YG YH WS YI:Value} (a0:PySem.W.nsIn K mainGlobals "look_parts"=some (some (.ref f0))) (l0:K.lookup f0=some ⟨oc0,od0,.func (PySem.W.fnOf "look_parts" "look_parts" (aL bW) (aD bW) (aa bW) .none YF YG YH YE WS YI),sl0⟩) (c0:PySem.W.codeIn K WS "look_parts"=true) (k0:PySem.W.keepIn K (.ref f0)=true) {f1:Addr} {od1 an1:Option Addr} {sl1:Array (Option Value)} {oc1 kV1 dc1 pm1 YJ ct1:Value} (a1:PySem.W.nsIn K mainGlobals "look_with"=some (some (.ref f1))) (l1:K.lookup f1=some ⟨oc1,od1,.func (PySem.W.fnOf "look_with" "look_with" (aL cC) (aD cC) (aa cC) .none kV1 dc1 pm1 an1 YJ ct1),sl1⟩) (c1:PySem.W.codeIn K YJ "look_with"=true) (k1:PySem.W.keepIn K (.ref f1)=true) {f2:Addr} {od2 an2:Option Addr} {sl2:Array (Option Value)} {oc2 kV2 dc2 pm2 YK ct2:Value} (a2:PySem.W.nsIn K mainGlobals "all_within"=some (some (.ref f2))) (l2:K.lookup f2=some ⟨oc2,od2,.func (PySem.W.fnOf "all_within" "all_within" (aL bG) (aD bG) (aa bG) .none kV2 dc2 pm2 an2 YK ct2),sl2⟩) (c2:PySem.W.codeIn K YK "all_within"=true) (k2:PySem.W.keepIn K (.ref f2)=true) {f3:Addr} {od3 an3:Option Addr} {sl3:Array (Option Value)} {oc3 kV3 dc3 pm3 YL ct3:Value} (a3:PySem.W.nsIn K mainGlobals "folded"=some (some (.ref f3))) (l3:K.lookup f3=some ⟨oc3,od3,.func (PySem.W.fnOf "folded" "folded" (aL cV) (aD cV) (aa cV) .none kV3 dc3 pm3 an3 YL ct3),sl3⟩) (c3:PySem.W.codeIn K YL "folded"=true) (k3:PySem.W.keepIn K (.ref f3)=true) {f4:Addr} {od4 an4:Option Addr} {sl4:Array (Option Value)} {oc4 kV4 dc4 pm4 YM ct4:Value} (a4:PySem.W.nsIn K mainGlobals "table_of"=some (some (.ref f4))) (l4:K.lookup f4=some ⟨oc4,od4,.func (PySem.W.fnOf "table_of" "table_of" (aL bZ) (aD bZ) (aa bZ) .none kV4 dc4 pm4 an4 YM ct4),sl4⟩) (c4:PySem.W.codeIn K YM "table_of"=true) (k4:PySem.W.keepIn K (.ref f4)=true) {f5:Addr} {od5 an5:Option Addr} {sl5:Array (Option Value)} {oc5 kV5 dc5 pm5 YN ct5:Value} (a5:PySem.W.nsIn K mainGlobals "exchanged"=some (some (.ref f5))) (l5:K.lookup f5=some ⟨oc5,od5,.func (PySem.W.fnOf "exchanged" "exchanged" (aL cE) (aD cE) (aa cE) .none kV5 dc5 pm5 an5 YN ct5),sl5⟩) (c5:PySem.W.codeIn K YN "exchanged"=true) (k5:PySem.W.keepIn K (.ref f5)=true) {f6:Addr} {od6 an6:Option Addr} {sl6:Array (Option Value)} {oc6 kV6 dc6 pm6 YO ct6:Value} (a6:PySem.W.nsIn K mainGlobals "add_way"=some (some (.ref f6))) (l6:K.lookup f6=some ⟨oc6,od6,.func (PySem.W.fnOf "add_way" "add_way" (aL cF) (aD cF) (aa cF) .none kV6 dc6 pm6 an6 YO ct6),sl6⟩) (c6:PySem.W.codeIn K YO "add_way"=true) (k6:PySem.W.keepIn K (.ref f6)=true) {f7:Addr} {od7 an7:Option Addr} {sl7:Array (Option Value)} {oc7 kV7 dc7 pm7 YQ ct7:Value} (a7:PySem.W.nsIn K mainGlobals "add_row"=some (some (.ref f7))) (l7:K.lookup f7=some ⟨oc7,od7,.func (PySem.W.fnOf "add_row" "add_row" (aL fQ) (aD fQ) (aa fQ) .none kV7 dc7 pm7 an7 YQ ct7),sl7⟩) (c7:PySem.W.codeIn K YQ "add_row"=true) (k7:PySem.W.keepIn K (.ref f7)=true) {f8:Addr} {od8 an8:Option Addr} {sl8:Array (Option Value)} {oc8 kV8 dc8 pm8 YR ct8:Value} (a8:PySem.W.nsIn K mainGlobals "_law_mix"=some (some (.ref f8))) (l8:K.lookup f8=some ⟨oc8,od8,.func (PySem.W.fnOf "_law_mix" "_law_mix" (aL cR) (aD cR) (aa cR) .none kV8 dc8 pm8 an8 YR ct8),sl8⟩) (c8:PySem.W.codeIn K YR "_law_mix"=true) (k8:PySem.W.keepIn K (.ref f8)=true) {f9:Addr} {od9 an9:Option Addr} {sl9:Array (Option Value)} {oc9 kV9 dc9 pm9 YS ct9:Value} (a9:PySem.W.nsIn K mainGlobals "_law_cells"=some (some (.ref f9))) (l9:K.lookup f9=some ⟨oc9,od9,.func (PySem.W.fnOf "_law_cells" "_law_cells" (aL bH) (aD bH) (aa bH) .none kV9 dc9 pm9 an9 YS ct9),sl9⟩) (c9:PySem.W.codeIn K YS "_law_cells"=true) (k9:PySem.W.keepIn K (.ref f9)=true) {WT:Addr} {YT U3:Option Addr} {YU:Array (Option Value)} {YV U4 U5 U6 RT U7:Value} (SM:PySem.W.nsIn K mainGlobals "_law_names"=some (some (.ref WT))) (l10:K.lookup WT=some ⟨YV,YT,.func (PySem.W.fnOf "_law_names" "_law_names" (aL bf) (aD bf) (aa bf) .none U4 U5 U6 U3 RT U7),YU⟩) (c10:PySem.W.codeIn K RT "_law_names"=true) (k10:PySem.W.keepIn K (.ref WT)=true) {WU:Addr} {YW U8:Option Addr} {YX:Array (Option Value)} {YY U9 Va Vb RU Vc:Value} (SN:PySem.W.nsIn K mainGlobals "_law_leaf"=some (some (.ref WU))) (l11:K.lookup WU=some ⟨YY,YW,.func (PySem.W.fnOf "_law_leaf" "_law_leaf" (aL bA) (aD bA) (aa bA) .none U9 Va Vb U8 RU Vc),YX⟩) (c11:PySem.W.codeIn K RU "_law_leaf"=true) (k11:PySem.W.keepIn K (.ref WU)=true) {NN:Addr} {YZ Vd:Option Addr} {Y0:Array (Option Value)} {Y3 Ve Vf Vg RV Vh:Value} (L8:PySem.W.nsIn K mainGlobals "_law_truths"=some (some (.ref NN))) (l12:K.lookup NN=some ⟨Y3,YZ,.func (PySem.W.fnOf "_law_truths" "_law_truths" (aL aU) (aD aU) (aa aU) .none Ve Vf Vg Vd RV Vh),Y0⟩) (c12:PySem.W.codeIn K RV "_law_truths"=true) (k12:PySem.W.keepIn K (.ref NN)=true) {WV:Addr} {Y4 Vi:Option Addr} {Y5:Array (Option Value)} {Y6 Vj Vk Vl RW Vm:Value} (a13:PySem.W.nsIn K mainGlobals "_law_before"=some (some (.ref WV))) (l13:K.lookup WV=some ⟨Y6,Y4,.func (PySem.W.fnOf "_law_before" "_law_before" (aL bK) (aD bK) (aa bK) .none Vj Vk Vl Vi RW Vm),Y5⟩) (c13:PySem.W.codeIn K RW "_law_before"=true) (k13:PySem.W.keepIn K (.ref WV)=true) {WW:Addr} {Y7 Vn:Option Addr} {Y8:Array (Option Value)} {Y9 Vo Vp Vq RX Vr:Value} (a14:PySem.W.nsIn K mainGlobals "_law_many"=some (some (.ref WW))) (l14:K.lookup WW=some ⟨Y9,Y7,.func (PySem.W.fnOf "_law_many" "_law_many" (aL cK) (aD cK) (aa cK) .none Vo Vp Vq Vn RX Vr),Y8⟩) (c14:PySem.W.codeIn K RX "_law_many"=true) (k14:PySem.W.keepIn K (.ref WW)=true) {WX:Addr} {Za Vs:Option Addr} {Zb:Array (Option Value)} {Zc Vt Vu Vv RY Vw:Value} (a15:PySem.W.nsIn K mainGlobals "_law_way"=some (some (.ref WX))) (l15:K.lookup WX=some ⟨Zc,Za,.func (PySem.W.fnOf "_law_way" "_law_way" (aL aN) (aD aN) (aa aN) .none Vt Vu Vv Vs RY Vw),Zb⟩) (c15:PySem.W.codeIn K RY "_law_way"=true) (k15:PySem.W.keepIn K (.ref WX)=true) {WY:Addr} {Zd Vx:Option Addr} {Ze:Array (Option Value)} {Zf Vy Vz VA RZ VB:Value} (a16:PySem.W.nsIn K mainGlobals "_law_pile"=some (some (.ref WY))) (l16:K.lookup WY=some ⟨Zf,Zd,.func (PySem.W.fnOf "_law_pile" "_law_pile" (aL aT) (aD aT) (aa aT) .none Vy Vz VA Vx RZ VB),Ze⟩) (c16:PySem.W.codeIn K RZ "_law_pile"=true) (k16:PySem.W.keepIn K (.ref WY)=true) {WZ:Addr} {Zg VC:Option Addr} {Zh:Array (Option Value)} {Zi VD VE VF R0 VG:Value} (a17:PySem.W.nsIn K mainGlobals "_law_is_number"=some (some (.ref WZ))) (l17:K.lookup WZ=some ⟨Zi,Zg,.func (PySem.W.fnOf "_law_is_number" "_law_is_number" (aL bh) (aD bh) (aa bh) .none VD VE VF VC R0 VG),Zh⟩) (c17:PySem.W.codeIn K R0 "_law_is_number"=true) (k17:PySem.W.keepIn K (.ref WZ)=true) {W0:Addr} {Zj VH:Option Addr} {Zk:Array (Option Value)} {Zl VI VJ VL R1 VM:Value} (a18:PySem.W.nsIn K mainGlobals "_law_walked_way"=some (some (.ref W0))) (l18:K.lookup W0=some ⟨Zl,Zj,.func (PySem.W.fnOf "_law_walked_way" "_law_walked_way" (aL az) (aD az) (aa az) .none VI VJ VL VH R1 VM),Zk⟩) (c18:PySem.W.codeIn K R1 "_law_walked_way"=true) (k18:PySem.W.keepIn K (.ref W0)=true) {W2:Addr} {Zm VN:Option Addr} {Zn:Array (Option Value)} {Zo VO VP VQ R3 VR:Value} (a19:PySem.W.nsIn K mainGlobals "_law_walked"=some (some (.ref W2))) (l19:K.lookup W2=some ⟨Zo,Zm,.func (PySem.W.fnOf "_law_walked" "_law_walked" (aL br) (aD br) (aa br) .none VO VP VQ VN R3 VR),Zn⟩) (c19:PySem.W.codeIn K R3 "_law_walked"=true) (k19:PySem.W.keepIn K (.ref W2)=true) {W3:Addr} {Zp VS:Option Addr} {Zq:Array (Option Value)} {Zr VT VU VW R4 VX:Value} (Fc:PySem.W.nsIn K mainGlobals "_law_right"=some (some (.ref W3))) (l20:K.lookup W3=some ⟨Zr,Zp,.func (PySem.W.fnOf "_law_right" "_law_right" (aL bI) (aD bI) (aa bI) .none VT VU VW VS R4 VX),Zq⟩) (c20:PySem.W.codeIn K R4 "_law_right"=true) (k20:PySem.W.keepIn K (.ref W3)=true) {W4:Addr} {Zs VY:Option Addr} {Zt:Array (Option Value)} {Zu VZ V0 V1 R5 V2:Value} (Ov:PySem.W.nsIn K mainGlobals "law"=some (some (.ref W4))) (l21:K.lookup W4=some ⟨Zu,Zs,.func (PySem.W.fnOf "law" "law" (aL ia) (aD ia) (aa ia) .none VZ V0 V1 VY R5 V2),Zt⟩) (c21:PySem.W.codeIn K R5 "law"=true) (k21:PySem.W.keepIn K (.ref W4)=true) (z0:PySem.W.nsIn K mainGlobals "bool"=some none) (z1:PySem.W.nsIn K mainGlobals "enumerate"=some none) (z2:PySem.W.nsIn K mainGlobals "int"=some none) (z3:PySem.W.nsIn K mainGlobals "isinstance"=some none) (z4:PySem.W.nsIn K mainGlobals "len"=some none) (z5:PySem.W.nsIn K mainGlobals "list"=some none) (z6:PySem.W.nsIn K mainGlobals "max"=some none) (z7:PySem.W.nsIn K mainGlobals "min"=some none) (z8:PySem.W.nsIn K mainGlobals "range"=some none) (z9:PySem.W.nsIn K mainGlobals "reversed"=some none) (z10:PySem.W.nsIn K mainGlobals "sum"=some none) (z11:PySem.W.nsIn K mainGlobals "tuple"=some none) (Zv:PySem.W.nsIn K mainGlobals "zip"=some none):∃ t,Txt K mg t∧∃ kV dc pm an cd ct,(t.d 21)=PySem.W.fnOf "law" "law" (aL ia) (aD ia) (aa ia) .none kV dc pm an cd ct:=by
  have F0:=gi (st:=bW) l0 c0 k0
  have F1:=gi (st:=cC) l1 c1 k1
  have F2:=gi (st:=bG) l2 c2 k2
  have F3:=gi (st:=cV) l3 c3 k3
  have F4:=gi (st:=bZ) l4 c4 k4
  have F5:=gi (st:=cE) l5 c5 k5
  have F6:=gi (st:=cF) l6 c6 k6
  have F7:=gi (st:=fQ) l7 c7 k7
  have F8:=gi (st:=cR) l8 c8 k8
  have F9:=gi (st:=bH) l9 c9 k9
  have F10:=gi (st:=bf) l10 c10 k10
  have F11:=gi (st:=bA) l11 c11 k11
  have F12:=gi (st:=aU) l12 c12 k12
  have F13:=gi (st:=bK) l13 c13 k13
  have F14:=gi (st:=cK) l14 c14 k14
  have F15:=gi (st:=aN) l15 c15 k15
  have F16:=gi (st:=aT) l16 c16 k16
  have F17:=gi (st:=bh) l17 c17 k17
  have F18:=gi (st:=az) l18 c18 k18
  have F19:=gi (st:=br) l19 c19 k19
  have F20:=gi (st:=bI) l20 c20 k20
  have F21:=gi (st:=ia) l21 c21 k21
  exact ⟨⟨λi=>[f0,f1,f2,f3,f4,f5,f6,f7,f8,f9,WT,WU,NN,WV,WW,WX,WY,WZ,W0,W2,W3,W4].getD i f0,λi=>[PySem.W.fnOf "look_parts" "look_parts" (aL bW) (aD bW) (aa bW) .none YF YG YH YE WS YI,PySem.W.fnOf "look_with" "look_with" (aL cC) (aD cC) (aa cC) .none kV1 dc1 pm1 an1 YJ ct1,PySem.W.fnOf "all_within" "all_within" (aL bG) (aD bG) (aa bG) .none kV2 dc2 pm2 an2 YK ct2,PySem.W.fnOf "folded" "folded" (aL cV) (aD cV) (aa cV) .none kV3 dc3 pm3 an3 YL ct3,PySem.W.fnOf "table_of" "table_of" (aL bZ) (aD bZ) (aa bZ) .none kV4 dc4 pm4 an4 YM ct4,PySem.W.fnOf "exchanged" "exchanged" (aL cE) (aD cE) (aa cE) .none kV5 dc5 pm5 an5 YN ct5,PySem.W.fnOf "add_way" "add_way" (aL cF) (aD cF) (aa cF) .none kV6 dc6 pm6 an6 YO ct6,PySem.W.fnOf "add_row" "add_row" (aL fQ) (aD fQ) (aa fQ) .none kV7 dc7 pm7 an7 YQ ct7,PySem.W.fnOf "_law_mix" "_law_mix" (aL cR) (aD cR) (aa cR) .none kV8 dc8 pm8 an8 YR ct8,PySem.W.fnOf "_law_cells" "_law_cells" (aL bH) (aD bH) (aa bH) .none kV9 dc9 pm9 an9 YS ct9,PySem.W.fnOf "_law_names" "_law_names" (aL bf) (aD bf) (aa bf) .none U4 U5 U6 U3 RT U7,PySem.W.fnOf "_law_leaf" "_law_leaf" (aL bA) (aD bA) (aa bA) .none U9 Va Vb U8 RU Vc,PySem.W.fnOf "_law_truths" "_law_truths" (aL aU) (aD aU) (aa aU) .none Ve Vf Vg Vd RV Vh,PySem.W.fnOf "_law_before" "_law_before" (aL bK) (aD bK) (aa bK) .none Vj Vk Vl Vi RW Vm,PySem.W.fnOf "_law_many" "_law_many" (aL cK) (aD cK) (aa cK) .none Vo Vp Vq Vn RX Vr,PySem.W.fnOf "_law_way" "_law_way" (aL aN) (aD aN) (aa aN) .none Vt Vu Vv Vs RY Vw,PySem.W.fnOf "_law_pile" "_law_pile" (aL aT) (aD aT) (aa aT) .none Vy Vz VA Vx RZ VB,PySem.W.fnOf "_law_is_number" "_law_is_number" (aL bh) (aD bh) (aa bh) .none VD VE VF VC R0 VG,PySem.W.fnOf "_law_walked_way" "_law_walked_way" (aL az) (aD az) (aa az) .none VI VJ VL VH R1 VM,PySem.W.fnOf "_law_walked" "_law_walked" (aL br) (aD br) (aa br) .none VO VP VQ VN R3 VR,PySem.W.fnOf "_law_right" "_law_right" (aL bI) (aD bI) (aa bI) .none VT VU VW VS R4 VX,PySem.W.fnOf "law" "law" (aL ia) (aD ia) (aa ia) .none VZ V0 V1 VY R5 V2].getD i (PySem.W.fnOf "look_parts" "look_parts" (aL bW) (aD bW) (aa bW) .none YF YG YH YE WS YI),λi=>[].getD i 0⟩,⟨F0,F0.binds (λ_ _ _ _ _ _=>L6 λ_=>rfl),PySem.W.mg_of X G a0,F1,F1.binds (λ_ _ _ _ _ _=>De λ_ _=>rfl),PySem.W.mg_of X G a1,F2,F2.binds (λ_ _ _ _ _ _=>De λ_ _=>rfl),PySem.W.mg_of X G a2,F3,F3.binds (λ_ _ _ _ _ _=>U1 λ_ _ _=>rfl),PySem.W.mg_of X G a3,F4,F4.binds (λ_ _ _ _ _ _=>L6 λ_=>rfl),PySem.W.mg_of X G a4,F5,F5.binds (λ_ _ _ _ _ _=>Jx λ_ _ _ _=>rfl),PySem.W.mg_of X G a5,F6,F6.binds (λ_ _ _ _ _ _=>Jx λ_ _ _ _=>rfl),PySem.W.mg_of X G a6,F7,F7.binds (λ_ _ _ _ _ _=>De λ_ _=>rfl),PySem.W.mg_of X G a7,F8,F8.binds (λ_ _ _ _ _ _=>De λ_ _=>rfl),PySem.W.mg_of X G a8,F9,F9.binds (λ_ _ _ _ _ _=>De λ_ _=>rfl),PySem.W.mg_of X G a9,F10,F10.binds (λ_ _ _ _ _ _=>L6 λ_=>rfl),PySem.W.mg_of X G SM,F11,F11.binds (λ_ _ _ _ _ _=>Jx λ_ _ _ _=>rfl),PySem.W.mg_of X G SN,F12,F12.binds (λ_ _ _ _ _ _=>U1 λ_ _ _=>rfl),PySem.W.mg_of X G L8,F13,F13.binds (λ_ _ _ _ _ _=>De λ_ _=>rfl),PySem.W.mg_of X G a13,F14,F14.binds (λ_ _ _ _ _ _=>De λ_ _=>rfl),PySem.W.mg_of X G a14,F15,F15.binds (λ_ _ _ _ _ _=>Jx λ_ _ _ _=>rfl),PySem.W.mg_of X G a15,F16,F16.binds (λ_ _ _ _ _ _=>YD λ_ _ _ _ _=>rfl),PySem.W.mg_of X G a16,F17,F17.binds (λ_ _ _ _ _ _=>De λ_ _=>rfl),PySem.W.mg_of X G a17,F18,F18.binds (λ_ _ _ _ _ _=>Jx λ_ _ _ _=>rfl),PySem.W.mg_of X G a18,F19,F19.binds (λ_ _ _ _ _ _=>Jx λ_ _ _ _=>rfl),PySem.W.mg_of X G a19,F20,F20.binds (λ_ _ _ _ _ _=>L6 λ_=>rfl),PySem.W.mg_of X G Fc,F21,F21.binds (λ_ _ _ _ _ _=>L6 λ_=>rfl),PySem.W.mg_of X G Ov,PySem.W.mg_none_of X G z0,PySem.W.mg_none_of X G z1,PySem.W.mg_none_of X G z2,PySem.W.mg_none_of X G z3,PySem.W.mg_none_of X G z4,PySem.W.mg_none_of X G z5,PySem.W.mg_none_of X G z6,PySem.W.mg_none_of X G z7,PySem.W.mg_none_of X G z8,PySem.W.mg_none_of X G z9,PySem.W.mg_none_of X G z10,PySem.W.mg_none_of X G z11,PySem.W.mg_none_of X G Zv⟩,_,_,_,_,_,_,rfl⟩
section
variable {P:Program} {w:World} {K:PySem.W.Frag} {mg:Str→Option Value} {base:Heap} {t:YC}
theorem R6 (T:Txt K mg t) {c Pt:Addr} (htab:PySem.W.tabIn K "table_of"=some (c,Pt)) (SH:PySem.W.CodeHd base c Pt) (UW:base.BuiltinsAt mg Pt):u0 P w K mg base (eO P w) 63 (t.f 21) (t.d 21) ["_law_script"] (bJ K mg 1 HQ):=by
  have i8:=Bg (P:=P) (w:=w) (base:=base) T
  have sM:=Df (P:=P) (w:=w) (base:=base) T
  have xZ:=GF (P:=P) (w:=w) (base:=base) T
  have aZ:=EX (P:=P) (w:=w) (base:=base) T
  have o9:=AG (P:=P) (w:=w) (base:=base) T
  have fS:=wH (P:=P) (w:=w) (base:=base) T
  have qT:=Bh (P:=P) (w:=w) (base:=base) T i8
  have x6:=GG (P:=P) (w:=w) (base:=base) T xZ
  have nq:=Bj (P:=P) (w:=w) (base:=base) T aZ
  have qU:=Bk (P:=P) (w:=w) (base:=base) T aZ
  have sN:=Dg (P:=P) (w:=w) (base:=base) T aZ
  have pe:=AI (P:=P) (w:=w) (base:=base) T aZ
  have jN:=Dh (P:=P) (w:=w) (base:=base) T aZ
  have sO:=Di (P:=P) (w:=w) (base:=base) T sM x6
  have uT:=EY (P:=P) (w:=w) (base:=base) T aZ o9 jN
  have sQ:=Dj (P:=P) (w:=w) (base:=base) T aZ sN pe jN uT
  have nQ:=yS (P:=P) (w:=w) (base:=base) T sO
  have AJ:=Jy (P:=P) (w:=w) (base:=base) T i8 qT nQ
  have uV:=EZ (P:=P) (w:=w) (base:=base) T htab SH UW AJ
  obtain ⟨eY,cN⟩:=mY (P:=P) (w:=w) (base:=base) T fS 60
  have qV:=Bl (P:=P) (w:=w) (base:=base) T uV cN
  have V3:=RQ (P:=P) (w:=w) (base:=base) T nq qU sQ qV
  exact V3
end
end K41
section
open PySem PySem.Spec L2 L3
local macro_rules
 | `(tactic| simp! [$a,*])=>`(tactic| simp [cQ,fO,Hi,Hj,Hl,Ho,Hq,Hr,NV,NW,mC,rj,zc,Hs,K4,OY,zd,iE,aF,oi,je,zX,vB,oj,iL,iW,K5,FY,D5,Ht,FZ,Hu,K6,vC,pH,xx,D6,Hv,K7,CJ,zY,D7,nE,OZ,O0,Hw,Hx,Hy,K8,K9,D8,vD,La,mT,Lj,Ll,HC,Lm,El,HE,HF,HG,O3,Lw,fG,tH,fB,bw,jc,kM,gj,bO,gx,jV,fY,yI,DV,WD,Ty.is,$a,*])
local macro_rules
 | `(tactic| dsimp! [$a,*])=>`(tactic| simp [cQ,fO,Hi,Hj,Hl,Ho,Hq,Hr,NV,NW,mC,rj,zc,Hs,K4,OY,zd,iE,aF,oi,je,zX,vB,oj,iL,iW,K5,FY,D5,Ht,FZ,Hu,K6,vC,pH,xx,D6,Hv,K7,CJ,zY,D7,nE,OZ,O0,Hw,Hx,Hy,K8,K9,D8,vD,La,mT,Lj,Ll,HC,Lm,El,HE,HF,HG,O3,Lw,fG,tH,fB,bw,jc,kM,gj,Yp,gx,jV,fY,yI,DV,WD,Ty.is,$a,*])
namespace K41
open PySem PySem.Spec L2 L3
theorem E0 (c k:Int) (n4:Option D):∀ (its:List D) (dg:Int) (j:Option D),0≤dg→∃ (W5:Int) (j':Option D),0≤W5∧∀ G,fE (gN 3) om its [some (.int c),some (.int k),some (.int dg),j,n4] G=.nx [some (.int c),some (.int k),some (.int W5),j',n4] G
 | [],dg,j,h=>⟨dg,j,h,λG=>by rw [jX]⟩
 | x::its,dg,j,h=>by
  obtain ⟨W5,j',h',e⟩:=E0 c k n4 its (dg / 840) (some x) (by nofun)
  refine ⟨W5,j',h',λG=>?_⟩
  rw [fP rfl]
  have e1:om [some (.int c),some (.int k),some (.int dg),some x,n4] G=.nx [some (.int c),some (.int k),some (.int (dg / 840)),some x,n4] G:=by
   simp! [om]
  simp only [List.set_cons_succ,List.set_cons_zero,e1,mT]
  exact e G
theorem GH (c k:Int) (hk:0≤k∧k<10000):∃ v:Int,0≤v∧∀ G,aK [.int c,.int k] G=.ok (.int v) G:=by
 obtain ⟨k0,k1⟩:=hk
 have hr:=tu (j:=k % 46) (by nofun) (by nofun)
 have key:∃ dg:Int,∃ j,0≤dg∧∀ G,(p8 (kK (aE WB (ai 0) (aE Nu (eC (.int 10)) (eC (.int 9))))) (oq) (eg)) [some (.int c),some (.int k),some (.int 0),none,none] G=.nx [some (.int c),some (.int k),some (.int dg),j,none] G:=by
  by_cases hc:(1000000000:Int)≤c
  ·obtain ⟨dg,j,h,e⟩:=E0 c k none ((List.range' 0 (k % 46).toNat).map λ(k:Nat)=>.int (0+(k:Int))) c none (by nofun)
   refine ⟨dg,j,h,λG=>?_⟩
   generalize ((List.range' 0 (k % 46).toNat).map λ(k:Nat)=>D.int (0+(k:Int)))=its at hr e
   simp! [hc,oq,hr,e]
  ·refine ⟨0,none,by nofun,λG=>?_⟩
   simp! [hc]
 obtain ⟨dg,j,hd,e⟩:=key
 generalize hS:p8 (kK (aE WB (ai 0) (aE Nu (eC (.int 10)) (eC (.int 9))))) (oq) (eg)=S at e
 by_cases h0:0<dg
 ·refine ⟨dg % 840,by nofun,λG=>?_⟩
  refine dw ?_ fj
  unfold nG
  rw [hS]
  simp! [e,h0]
 ·have p0:0≤c % 1000000007:=by nofun
  have p1:c % 1000000007<1000000007:=by nofun
  generalize hy:c % 1000000007=y at p0 p1
  have a1:-18446744073709551616<y+7919*k+13:=by nofun
  have a2:y+7919*k+13<18446744073709551616:=by nofun
  generalize hz:y+7919*k+13=z at a1 a2
  have b1:0≤z*z % 998244353:=by nofun
  have b2:z*z % 998244353<998244353:=by nofun
  have b3:-18446744073709551616<z*z % 998244353:=by nofun
  have b4:z*z % 998244353<18446744073709551616:=by nofun
  generalize hu:z*z % 998244353=u at b1 b2 b3 b4
  refine ⟨u*(u+16807*k+1) % 1000000007 / 3,by nofun,λG=>?_⟩
  refine dw ?_ fj
  unfold nG
  rw [hS]
  have h0':dg≤0:=by nofun
  simp! [e,h0,h0',hy,hz,hu,a1,a2,b3,b4]
noncomputable def mx (c k:Int):Int:=if h:0≤k∧k<10000 then Classical.choose (GH c k h) else 0
theorem HV (c k:Int):0≤mx c k:=by
 unfold mx
 split
 ·rename_i h;exact (Classical.choose_spec (GH c k h)).1
 ·nofun
theorem lq (c k:Int) (h0:0≤k) (h1:k<10000) (G:DH):aK [.int c,.int k] G=.ok (.int (mx c k)) G:=by
 have h:0≤k∧k<10000:=⟨h0,h1⟩
 unfold mx
 rw [dif_pos h]
 exact (Classical.choose_spec (GH c k h)).2 G
theorem Zw (n:Nat):HT.ji n n (some 1)=min 1 n:=HT.GU n n 1
theorem qW:∀ ns:List Int,intsOf (ns.map .int)=some ns
 | []=>rfl
 | n::ns=>by rw [List.map_cons,intsOf,qW ns];rfl
theorem Ma (ns:List Int) (τ:DS) (G:DH):∃ c:Int,au zU (af (eFn (BD (ai 0) (jT) (jm (eC (.int 1))))) (aq)) (some (.con (ns.map .int))::τ) G=.ok (.int c) G:=by
 have z1:(1:Nat)≤sizeLine:=lz (by nofun)
 have e:cutD (ns.map D.int) none (some 1)=(ns.take 1).map .int:=by
  unfold cutD
  rw [Zw,HT.DA]
  cases ns<;>simp
 have hc:aX ((ns.take 1).map D.int)=true:=bz λ_=>fj
 have hz:((ns.take 1).map D.int).length≤sizeLine:=Nat.le_trans (by simp;nofun) z1
 have e1:eFn (BD (ai 0) (jT) (jm (eC (.int 1)))) (some (.con (ns.map .int))::τ) G=.ok (.con ((ns.take 1).map .int)) G:=by
  rw [dS]
  have e2:BD (ai 0) (jT) (jm (eC (.int 1))) (some (.con (ns.map .int))::τ) G=bU ((ns.take 1).map .int) G:=by
   simp! [IP,e]
  rw [e2,fZ hz hc]
 refine ⟨(ns.take 1).sum,?_⟩
 simp! [e1,zU,qW,← List.map_take]
noncomputable def SO (ns:List Int):D→D
 | .int j=>.int (ns.getD j.toNat 0)
 | _=>.i9
noncomputable def V4 (n s:Int):D→D
 | .int j=>.int (mx n (40+s+j))
 | _=>.i9
theorem Ow (ns:List Int) (j:Nat) (h:j<ns.length):pX (ns.map D.int) (j:Int)=some (.int (ns.getD j 0)):=by
 refine yV ?_
 rw [List.getElem?_map,List.getElem?_eq_getElem h]
 simp [h]
theorem E2 (ns:List Int) (hl:ns.length≤63) (s:Nat) (hs:s≤1) (G:DH):∃ xs:List Int,6≤xs.length∧xs.length≤40∧fH [.con (ns.map .int),.int s] G=.ok (.con (xs.map .int)) G:=by
 have hN:vE (s:Int) (ns.length:Int) 2≤32:=by
  unfold vE
  split<;>nofun
 have hI:∀ i:Nat,i<vE (s:Int) (ns.length:Int) 2→s+i*2<ns.length:=by
  intro i hi
  unfold vE at hi
  split at hi<;>nofun
 have h64:¬ ((64:Int)<(ns.length:Int)):=by nofun
 have Zx:(ns.length:Int)≤64:=by nofun
 generalize hNN:vE (s:Int) (ns.length:Int) 2=N at hN hI
 have q1:-1073741824≤(s:Int):=by nofun
 have q2:(s:Int)<1073741824:=by nofun
 have q3:-1073741824≤(ns.length:Int):=by nofun
 have q4:(ns.length:Int)<1073741824:=by nofun
 have c1:=tw (τ:=[some (D.con (ns.map D.int)),some (.int (s:Int)),none]) (G:=G) (gO:=oN) (ks:=[true]) (te:=aE fB (ai 1) (ai 0)) (own:=λx=>[x]) (f:=SO ns) ((List.range N).map λ(i:Nat)=>D.int ((s:Int)+(i:Int)*2)) [] (by simp;nofun) (λx _=>rfl) (λx hx acc=>by
  obtain ⟨i,hi,rfl⟩:=List.mem_map.mp hx
  have hi':=hI i (List.mem_range.mp hi)
  have ea:=Ow ns (s+i*2) hi'
  rw [show ((s+i*2:Nat):Int)=(s:Int)+(i:Int)*2 by nofun] at ea
  have et:((s:Int)+(i:Int)*2).toNat=s+i*2:=by nofun
  simp! [mask,ea,SO,et])
 have e1:eFn (qh oN [true] (BN (af (ai 1) (af (au (kM λi j=>if j<i then j else i) (af (au gj (af (ai 0) (aq))) (af (eC (.int 64)) (aq)))) (af (eC (.int 2)) (aq))))) (lN) (aE fB (ai 1) (ai 0))) [some (D.con (ns.map D.int)),some (.int (s:Int)),none] G=.ok (.con (((List.range N).map λ(i:Nat)=>D.int ((s:Int)+(i:Int)*2)).map (SO ns))) G:=by
  rw [dS]
  have e2:qh oN [true] (BN (af (ai 1) (af (au (kM λi j=>if j<i then j else i) (af (au gj (af (ai 0) (aq))) (af (eC (.int 64)) (aq)))) (af (eC (.int 2)) (aq))))) (lN) (aE fB (ai 1) (ai 0)) [some (D.con (ns.map D.int)),some (.int (s:Int)),none] G=.ok (.obj G.length) (G++[.lst (((List.range N).map λ(i:Nat)=>D.int ((s:Int)+(i:Int)*2)).map (SO ns))]):=by
   simp only [List.nil_append] at c1
   rw [← c1,← Ln]
   simp! [ints3,h64,Zx,q1,q2,q3,q4,hNN]
  rw [e2,xy]
  rw [List.map_map]
  exact bz λ_=>fj
 have ex1:((List.range N).map λ(i:Nat)=>D.int ((s:Int)+(i:Int)*2)).map (SO ns)=((List.range N).map λi=>ns.getD (s+i*2) 0).map .int:=by
  rw [List.map_map,List.map_map]
  refine List.map_congr_left λi _=>?_
  have et:((s:Int)+(i:Int)*2).toNat=s+i*2:=by nofun
  simp only [Function.comp,SO,et]
 rw [ex1] at e1
 generalize hX:(List.range N).map (λi=>ns.getD (s+i*2) 0)=X at e1
 have hXl:X.length=N:=by rw [← hX];simp
 have hr:kL [.int (6 - (X.length:Int))]=some ((List.range (6 - (X.length:Int)).toNat).map λ(k:Nat)=>.int (0+(k:Int))):=by
  show (if -(2^62)≤(6 - (X.length:Int))∧(6 - (X.length:Int))<2^62 then some ((List.range (6 - (X.length:Int)).toNat).map λ(k:Nat)=>D.int (0+(k:Int))) else none)=_
  rw [if_pos ⟨by nofun,by nofun⟩]
 have c2:=tw (τ:=[some (D.con (ns.map D.int)),some (.int (s:Int)),some (.con (X.map .int))]) (G:=G) (gO:=oN) (ks:=[true,true]) (te:=bL 2 aK (af (au gj (af (ai 1) (aq))) (af (aE bO (aE bO (eC (.int 40)) (ai 2)) (ai 0)) (aq)))) (own:=λx=>[x]) (f:=V4 ns.length s) ((List.range (6 - (X.length:Int)).toNat).map λ(k:Nat)=>D.int (0+(k:Int))) [] (by simp;nofun) (λx _=>rfl) (λx hx acc=>by
  obtain ⟨i,hi,rfl⟩:=List.mem_map.mp hx
  have hi':=List.mem_range.mp hi
  have hm:=lq ns.length (40+s+(0+(i:Int))) (by nofun) (by nofun) (G++[.lst acc])
  simp only [Int.zero_add] at hm
  simp! [mask,V4,hm])
 generalize hL:(List.range (6 - (X.length:Int)).toNat).map (λ(k:Nat)=>D.int (0+(k:Int)))=L at hr c2
 have e3:eFn (mz kL oN [true,true] (af (aE yH (eC (.int 6)) (au gj (af (ai 2) (aq)))) (aq)) (lN) (bL 2 aK (af (au gj (af (ai 1) (aq))) (af (aE bO (aE bO (eC (.int 40)) (ai 2)) (ai 0)) (aq))))) [some (D.con (ns.map D.int)),some (.int (s:Int)),some (.con (X.map .int))] G=.ok (.con (L.map (V4 ns.length s))) G:=by
  rw [dS]
  have e4:mz kL oN [true,true] (af (aE yH (eC (.int 6)) (au gj (af (ai 2) (aq)))) (aq)) (lN) (bL 2 aK (af (au gj (af (ai 1) (aq))) (af (aE bO (aE bO (eC (.int 40)) (ai 2)) (ai 0)) (aq)))) [some (D.con (ns.map D.int)),some (.int (s:Int)),some (.con (X.map .int))] G=.ok (.obj G.length) (G++[.lst (L.map (V4 ns.length s))]):=by
   simp only [List.nil_append] at c2
   rw [← c2]
   simp! [hr]
  rw [e4,xy]
  rw [← hL,List.map_map]
  exact bz λ_=>fj
 have ex2:L.map (V4 ns.length s)=((List.range (6 - (X.length:Int)).toNat).map λ(k:Nat)=>mx ns.length (40+s+(0+(k:Int)))).map .int:=by
  rw [← hL,List.map_map,List.map_map];rfl
 rw [ex2] at e3
 generalize hY:(List.range (6 - (X.length:Int)).toNat).map (λ(k:Nat)=>mx ns.length (40+s+(0+(k:Int))))=Y at e3
 have hYl:Y.length=(6 - (X.length:Int)).toNat:=by rw [← hY];simp
 refine ⟨X++Y,by simp;nofun,by simp;nofun,dw ?_ (by rw [gy];exact bz λ_=>fj)⟩
 have hz:(X.map D.int++Y.map D.int).length≤sizeLine:=lz (by simp;nofun)
 have hcl:aX (X.map D.int++Y.map D.int)=true:=by rw [← List.map_append];exact bz λ_=>fj
 have e5:eFn (aE bO (ai 2) (eFn (mz kL oN [true,true] (af (aE yH (eC (.int 6)) (au gj (af (ai 2) (aq)))) (aq)) (lN) (bL 2 aK (af (au gj (af (ai 1) (aq))) (af (aE bO (aE bO (eC (.int 40)) (ai 2)) (ai 0)) (aq))))))) [some (D.con (ns.map D.int)),some (.int (s:Int)),some (.con (X.map .int))] G=.ok (.con (X.map D.int++Y.map D.int)) G:=by
  rw [dS,vB]
  have e6:ai 2 [some (D.con (ns.map D.int)),some (.int (s:Int)),some (.con (X.map .int))] G=.ok (.con (X.map .int)) G:=rfl
  rw [e6,iE,aF,e3,iE]
  show (bU _ G).fw G=_
  rw [fZ hz hcl]
 unfold m9
 rw [List.map_append]
 simp! [e1,e5]
theorem Mb (x:Str) (l u:Option Int) (h:PyData.strOk x=true):PyData.strOk (Txt.slice x l u)=true:=by
 unfold Txt.slice
 split
 ·exact h
 ·unfold PyData.strOk at h ⊢
  simp only [List.all_toArray,List.all_eq_true,List.mem_filterMap] at h ⊢
  rintro c ⟨i,_,hi⟩
  have h2:=Array.all_eq_true'.mp h c (Array.mem_of_getElem? hi)
  exact h2
noncomputable abbrev lets:Str:="abcdefghijklmnopqrstuvwxyz"
theorem HW (i:Int) (G:DH):∃ s,fB (.str lets) (.int (i % 26)) G=.ok (.str s) G∧PyData.strOk s=true∧s.length=1:=
 Rj lets (i % 26) G (by nofun) (by show i % 26<((26:Nat):Int);nofun) (by symm) (by symm)
theorem B8 (c:Int) (G:DH) (a1 a4 a5 a6 a7:Option D):∀ (m j:Nat) (t:Str) (a3:Option D),j+m≤100→PyData.strOk t=true→t.length≤j+1 →
  ∃ (u:Str) (b3:Option D),PyData.strOk u=true∧u.length≤j+m+1∧fE (gN 3) lF ((List.range' j m).map λ(k:Nat)=>.int (0+(k:Int))) [some (.int c),a1,some (.str t),a3,a4,a5,a6,a7] G=.nx [some (.int c),a1,some (.str u),b3,a4,a5,a6,a7] G
 | 0,j,t,a3,h,k1,k2=>⟨t,a3,k1,by nofun,by simp [fE]⟩
 | m+1,j,t,a3,h,k1,k2=>by
  have hm:=lq c (32+(0+(j:Int))) (by nofun) (by nofun) G
  obtain ⟨s,es,ks,ls⟩:=HW (mx c (32+(0+(j:Int)))) G
  have hz:t.length+s.length≤sizeLine:=lz (by nofun)
  obtain ⟨u,b3,ku,lu,ih⟩:=B8 c G a1 a4 a5 a6 a7 m (j+1) (t++s) (some (.int (0+(j:Int)))) (by nofun) (good_add k1 ks) (by rw [CI];nofun)
  refine ⟨u,b3,ku,by nofun,?_⟩
  rw [List.range'_succ,List.map_cons,fP rfl]
  have e:lF [some (.int c),a1,some (.str t),some (.int (0+(j:Int))),a4,a5,a6,a7] G=.nx [some (.int c),a1,some (.str (t++s)),some (.int (0+(j:Int))),a4,a5,a6,a7] G:=by
   generalize (0+(j:Int))=jj at hm es
   unfold lF
   simp only [mC,vB,je,zX,iE,aF,vC,iW,iL,oi,List.getElem?_cons_succ,List.getElem?_cons_zero,List.length_cons,List.length_nil,if_true,bO,hm,jc,es,if_pos hz,rj,List.set_cons_succ,List.set_cons_zero,show (0:Int)<26 from by decide,decide_true]
  simp only [List.set_cons_succ,List.set_cons_zero,e,mT]
  rw [ih]
theorem B9 (c w p kk:Int) (hk:-100<kk∧kk<100) (G:DH) (a1 a2:Option D):∀ (m j:Nat) (t:Str) (a3:Option D),j+m≤100→PyData.strOk t=true→t.length≤j+1 →
  ∃ (u:Str) (b3:Option D),PyData.strOk u=true∧u.length≤j+m+1∧fE (gN 3) lG ((List.range' j m).map λ(k:Nat)=>.int (0+(k:Int))) [some (.int c),a1,a2,a3,some (.int w),some (.int p),some (.int kk),some (.str t)] G=.nx [some (.int c),a1,a2,b3,some (.int w),some (.int p),some (.int kk),some (.str u)] G
 | 0,j,t,a3,h,k1,k2=>⟨t,a3,k1,by nofun,by simp [fE]⟩
 | m+1,j,t,a3,h,k1,k2=>by
  have hm:=lq c (32+(0+(j:Int))) (by nofun) (by nofun) G
  obtain ⟨s,es,ks,ls⟩:=HW (mx c (32+(0+(j:Int)))+kk*(if (0+(j:Int))==p then 1 else 0)) G
  have hz:t.length+s.length≤sizeLine:=lz (by nofun)
  obtain ⟨u,b3,ku,lu,ih⟩:=B9 c w p kk hk G a1 a2 m (j+1) (t++s) (some (.int (0+(j:Int)))) (by nofun) (good_add k1 ks) (by rw [CI];nofun)
  refine ⟨u,b3,ku,by nofun,?_⟩
  rw [List.range'_succ,List.map_cons,fP rfl]
  have hk1:(decide (-(2^64)<kk)&&decide (kk<2^64))=true:=by simp;nofun
  have e:lG [some (.int c),a1,a2,some (.int (0+(j:Int))),some (.int w),some (.int p),some (.int kk),some (.str t)] G=.nx [some (.int c),a1,a2,some (.int (0+(j:Int))),some (.int w),some (.int p),some (.int kk),some (.str (t++s))] G:=by
   generalize (0+(j:Int))=jj at hm es
   unfold lG
   simp only [mC,vB,oj,je,zX,iE,aF,vC,iW,iL,oi,List.getElem?_cons_succ,List.getElem?_cons_zero,List.length_cons,List.length_nil,if_true,bO,hm,cB,vp,Bool.false_xor,jc,hk1,Bool.true_or,es,if_pos hz,rj,List.set_cons_succ,List.set_cons_zero,show (0:Int)<26 from by decide,decide_true]
  simp only [List.set_cons_succ,List.set_cons_zero,e,mT]
  rw [ih]
noncomputable def kept:List Str:=["start","rule","row","mix","many","any","kind","not","both","either","way","mark"]
noncomputable abbrev Ph:DS→M D:=eFn (au bU (af (eC (.str "start")) (af (eC (.str "rule")) (af (eC (.str "row")) (af (eC (.str "mix")) (af (eC (.str "many")) (af (eC (.str "any")) (af (eC (.str "kind")) (af (eC (.str "not")) (af (eC (.str "both")) (af (eC (.str "either")) (af (eC (.str "way")) (af (eC (.str "mark")) (aq))))))))))))))
theorem Mc (τ:DS) (G:DH):Ph τ G=.ok (.con (kept.map .str)) G:=by
 unfold Ph
 rw [dS]
 have Zv:(12:Nat)≤sizeLine:=lz (by nofun)
 have e:au bU (af (eC (.str "start")) (af (eC (.str "rule")) (af (eC (.str "row")) (af (eC (.str "mix")) (af (eC (.str "many")) (af (eC (.str "any")) (af (eC (.str "kind")) (af (eC (.str "not")) (af (eC (.str "both")) (af (eC (.str "either")) (af (eC (.str "way")) (af (eC (.str "mark")) (aq))))))))))))) τ G=bU (kept.map .str) G:=by
  simp only [oj,iW,iL,zX,iE,aF,oi];rfl
 rw [e,fZ (ds:=kept.map .str) (show (kept.map D.str).length≤sizeLine from Zv) (bz λ_=>cy)]
theorem Ox (c w p kk:Int) (G:DH) (ws:List Str) (hw:ws.length≤100) (a2 a3:Option D) (u:Str) (ku:PyData.strOk u=true) (lu:u.length≤20):∃ v:Str,PyData.strOk v=true∧v.length≤21 ∧
  lH [some (.int c),some (.obj G.length),a2,a3,some (.int w),some (.int p),some (.int kk),some (.str u)] (G++[.lst (ws.map .str)]) =
   .nx [some (.int c),some (.obj G.length),a2,a3,some (.int w),some (.int p),some (.int kk),some (.str v)] (G++[.lst ((ws++[v]).map .str)]):=by
 have hin:=zW u kept (G++[.lst (ws.map .str)]) ku (by symm)
 generalize kept.any (·==u)=bb at hin
 have hz:u.length+("z":Str).length≤sizeLine:=by
  have:("z":Str).length=1:=by symm
  exact lz (by nofun)
 have hz2:ws.length<sizeLine:=Nat.lt_of_lt_of_le (by nofun) (lz (n:=101) (by nofun))
 have hk:=Mc
 cases bb with
 | true=>
  refine ⟨u++"z",good_add ku (by symm),(by rw [CI];have:=(show ("z":Str).length=1 by symm);nofun),?_⟩
  unfold lH
  simp! [hk,BC,hin,hz,hz2]
 | false=>
  refine ⟨u,ku,by nofun,?_⟩
  unfold lH
  simp! [hk,BC,hin,hz2]
theorem AL (c w p:Int) (hw:0≤w) (W6:w≤8) (G:DH) (a2:Option D):∀ (m j:Nat) (ws:List Str) (a3 a6 a7:Option D),j+m≤5→ws.length=j→(∀ s∈ws,PyData.strOk s=true∧s.length≤21) →
  ∃ (us:List Str) (b3 b6 b7:Option D),us.length=j+m∧(∀ s∈us,PyData.strOk s=true∧s.length≤21) ∧
   fE (gN 6) lI ((List.range' j m).map λ(k:Nat)=>.int (0+(k:Int))) [some (.int c),some (.obj G.length),a2,a3,some (.int w),some (.int p),a6,a7] (G++[.lst (ws.map .str)])=.nx [some (.int c),some (.obj G.length),a2,b3,some (.int w),some (.int p),b6,b7] (G++[.lst (us.map .str)])
 | 0,j,ws,a3,a6,a7,h,hl,hs=>⟨ws,a3,a6,a7,by nofun,hs,by simp [fE]⟩
 | m+1,j,ws,a3,a6,a7,h,hl,hs=>by
  obtain ⟨u,b3,ku,lu,e1⟩:=B9 c w p (0+(j:Int)) (by nofun) (G++[.lst (ws.map .str)]) (some (.obj G.length)) a2 w.toNat 0 ⟨#[]⟩ a3 (by nofun) (by symm) (by show 0≤1;nofun)
  obtain ⟨v,kv,lv,e2⟩:=Ox c w p (0+(j:Int)) G ws (by nofun) a2 b3 u ku (by nofun)
  obtain ⟨us,c3,c6,c7,Rz,yF,ih⟩:=AL c w p hw W6 G a2 m (j+1) (ws++[v]) b3 (some (.int (0+(j:Int)))) (some (.str v)) (by nofun) (by simp [hl]) (λs hm=>by
   rcases List.mem_append.mp hm with h | h
   ·exact hs s h
   ·rw [List.mem_singleton.mp h];exact ⟨kv,lv⟩)
  refine ⟨us,c3,c6,c7,by nofun,yF,?_⟩
  have hr:=tu (j:=w) hw (by nofun)
  generalize ((List.range' 0 w.toNat).map λ(k:Nat)=>D.int (0+(k:Int)))=its at hr e1
  rw [List.range'_succ,List.map_cons,fP rfl]
  generalize (0+(j:Int))=jj at e1 e2 ih
  have e:lI [some (.int c),some (.obj G.length),a2,a3,some (.int w),some (.int p),some (.int jj),a7] (G++[.lst (ws.map .str)])=.nx [some (.int c),some (.obj G.length),a2,b3,some (.int w),some (.int p),some (.int jj),some (.str v)] (G++[.lst ((ws++[v]).map .str)]):=by
   unfold lI
   have e0:("":Str)=⟨#[]⟩:=rfl
   rw [e0]
   simp only [cQ,mC,zX,rj,fO,List.set_cons_succ,List.set_cons_zero,xx,iW,iL,je,iE,aF,oi,List.getElem?_cons_succ,List.getElem?_cons_zero,K7,hr,e1,e2]
  simp only [List.set_cons_succ,List.set_cons_zero,e,mT]
  exact ih
noncomputable def V5 (t:Str) (v:Int):D→D
 | .int j=>.str (Txt.slice t none (some (1+v % 4+j)))
 | _=>.i9
theorem Me (c:Int) (G:DH):∃ ws:List Str,ws.length=5∧(∀ s∈ws,PyData.strOk s=true∧s.length≤21)∧j0 [.int c] G=.ok (.con (ws.map .str)) G:=by
 have z0:(0:Nat)≤sizeLine:=Nat.zero_le _
 have m40:=lq c 40 (by nofun) (by nofun)
 have m41:=lq c 41 (by nofun) (by nofun)
 have m42:=lq c 42 (by nofun) (by nofun)
 have m43:=lq c 43 (by nofun) (by nofun)
 have n41:=HV c 41
 have n42:=HV c 42
 by_cases h0:mx c 40 % 3=0
 ·obtain ⟨u,b3,ku,lu,e1⟩:=B8 c (G++[.lst []]) (some (.obj G.length)) none none none none 7 0 "q" none (by nofun) (by symm) (by symm)
  have hr:=tu (j:=7) (by nofun) (by nofun)
  rw [show (7:Int).toNat=7 from rfl] at hr
  generalize ((List.range' 0 7).map λ(k:Nat)=>D.int (0+(k:Int)))=its at hr e1
  have SQ:=tu (j:=5) (by nofun) (by nofun)
  rw [show (5:Int).toNat=5 from rfl] at SQ
  have hsz:u.length≤sizeLine:=lz (by nofun)
  generalize hτ:([some (.int c),some (.obj G.length),some (.str u),b3,none,none,none,none]:DS)=τ at e1
  have hc:∀ G1,eFn (mz kL oN [true,false,true] (af (eC (.int 5)) (aq)) (lN) (eFn (BD (ai 3) (jT) (jm (aE bO (aE bO (eC (.int 1)) (aE lM (bL 2 aK (af (ai 1) (af (eC (.int 43)) (aq)))) (eC (.int 4)))) (ai 0)))))) τ G1=.ok (.con (((List.range' 0 5).map λ(k:Nat)=>D.int (0+(k:Int))).map (V5 u (mx c 43)))) G1:=λG1=>by
   have c1:=tw (τ:=τ) (G:=G1) (gO:=oN) (ks:=[true,false,true]) (te:=eFn (BD (ai 3) (jT) (jm (aE bO (aE bO (eC (.int 1)) (aE lM (bL 2 aK (af (ai 1) (af (eC (.int 43)) (aq)))) (eC (.int 4)))) (ai 0))))) (own:=λx=>[x]) (f:=V5 u (mx c 43)) ((List.range' 0 5).map λ(k:Nat)=>D.int (0+(k:Int))) [] (by simp) (λx _=>rfl) (λx hx acc=>by
    obtain ⟨i,hi,rfl⟩:=List.mem_map.mp hx
    subst hτ
    generalize (0+(i:Int))=ii
    simp! [dS,mask,m43,IP,V5,hsz])
   rw [dS]
   have e2:mz kL oN [true,false,true] (af (eC (.int 5)) (aq)) (lN) (eFn (BD (ai 3) (jT) (jm (aE bO (aE bO (eC (.int 1)) (aE lM (bL 2 aK (af (ai 1) (af (eC (.int 43)) (aq)))) (eC (.int 4)))) (ai 0))))) τ G1=.ok (.obj G1.length) (G1++[.lst (((List.range' 0 5).map λ(k:Nat)=>D.int (0+(k:Int))).map (V5 u (mx c 43)))]):=by
    simp only [List.nil_append] at c1
    rw [← c1]
    simp only [zY,iW,iL,zX,iE,aF,oi,SQ]
   rw [e2,xy]
   rw [List.map_map]
   exact bz λ_=>cy
  have ex:((List.range' 0 5).map λ(k:Nat)=>D.int (0+(k:Int))).map (V5 u (mx c 43))=((List.range' 0 5).map λ(k:Nat)=>Txt.slice u none (some (1+mx c 43 % 4+(0+(k:Int))))).map .str:=by
   rw [List.map_map,List.map_map];rfl
  rw [ex] at hc
  refine ⟨(List.range' 0 5).map λ(k:Nat)=>Txt.slice u none (some (1+mx c 43 % 4+(0+(k:Int)))),by simp,λs hs=>?_,?_⟩
  ·obtain ⟨i,_,rfl⟩:=List.mem_map.mp hs
   exact ⟨Mb u _ _ ku,Nat.le_trans (Txt.slice_le u _ _) (by nofun)⟩
  ·refine mZ (R:=[.lst []]) ?_ (by rw [gy];exact bz λ_=>cy)
   generalize (((List.range' 0 5).map λ(k:Nat)=>Txt.slice u none (some (1+mx c 43 % 4+(0+(k:Int))))).map D.str)=ws at hc
   generalize hC:eFn (mz kL oN [true,false,true] (af (eC (.int 5)) (aq)) (lN) (eFn (BD (ai 3) (jT) (jm (aE bO (aE bO (eC (.int 1)) (aE lM (bL 2 aK (af (ai 1) (af (eC (.int 43)) (aq)))) (eC (.int 4)))) (ai 0))))))=C at hc
   subst hτ
   unfold jZ t7
   rw [hC]
   have hn:bU [] G=.ok (.obj G.length) (G++[.lst []]):=if_pos z0
   simp! [hn,m40,cB,h0,hr,e1,hc]
 ·have hw1:0≤1+mx c 41 % 8:=by nofun
  have W6:1+mx c 41 % 8≤8:=by nofun
  have hw3:0<1+mx c 41 % 8:=by nofun
  obtain ⟨us,b3,b6,b7,Rz,yF,e1⟩:=AL c (1+mx c 41 % 8) (mx c 42 % (1+mx c 41 % 8)) hw1 W6 G none 5 0 [] none none none (by nofun) rfl (λs h=>by simp at h)
  have SQ:=tu (j:=5) (by nofun) (by nofun)
  rw [show (5:Int).toNat=5 from rfl] at SQ
  generalize ((List.range' 0 5).map λ(k:Nat)=>D.int (0+(k:Int)))=its at SQ e1
  generalize hww:1+mx c 41 % 8=w at e1 hw1 W6 hw3
  generalize hpp:mx c 42 % w=pp at e1
  refine ⟨us,Rz,yF,mZ (R:=[.dead]) ?_ (by rw [gy];exact bz λ_=>cy)⟩
  have hn:bU [] G=.ok (.obj G.length) (G++[.lst []]):=if_pos z0
  have h0':(mx c 40 % 3==0)=false:=by simpa using h0
  unfold jZ
  simp only [List.map_nil] at e1
  simp! [hn,m40,m41,m42,cB,h0',SQ,hww,hpp,hw3,e1]
theorem Fc {a b:D}:pX [a,b] 0=some a:=rfl
theorem Ov {a b:D}:pX [a,b] 1=some b:=rfl
theorem W7 {a b c:D}:pX [a,b,c] 0=some a:=rfl
theorem SR {a:D}:pX [a] 0=some a:=rfl
mutual
inductive Lk where
 | one (m:Bool)
 | kind (s:Str)
 | not (l:Lk)
 | bin (e:Bool) (l r:Lk)
 | way (w:Wy)
inductive Wy where
 | nil
 | cons (g:Str) (l:Lk) (w:Wy)
end
noncomputable def Dk (m:Bool):Str:=if m then "mark" else "any"
noncomputable def yT (e:Bool):Str:=if e then "either" else "both"
mutual
noncomputable def Lk.D:Lk→L3.D
 | .one m=>.tup [.str (Dk m)]
 | .kind s=>.tup [.str "kind",.str s]
 | .not l=>.tup [.str "not",l.D]
 | .bin e l r=>.tup [.str (yT e),l.D,r.D]
 | .way w=>.tup [.str "way",.tup w.Ds]
noncomputable def Wy.Ds:Wy→List L3.D
 | .nil=>[]
 | .cons g l w=>.tup [.str g,l.D]::w.Ds
end
mutual
noncomputable def Lk.sz:Lk→Nat
 | .one _=>1
 | .kind _=>1
 | .not l=>1+l.sz
 | .bin _ l r=>1+(l.sz+r.sz)
 | .way w=>1+w.sz
noncomputable def Wy.sz:Wy→Nat
 | .nil=>0
 | .cons _ l w=>l.sz+w.sz
end
mutual
noncomputable def Lk.Ok:Lk→Prop
 | .one _=>True
 | .kind s=>PyData.strOk s=true
 | .not l=>l.Ok
 | .bin _ l r=>l.Ok∧r.Ok
 | .way w=>w.Ok
noncomputable def Wy.Ok:Wy→Prop
 | .nil=>True
 | .cons g l w=>PyData.strOk g=true∧l.Ok∧w.Ok
end
mutual
noncomputable def Lk.dep:Lk→Nat
 | .one _=>1
 | .kind _=>1
 | .not l=>1+l.dep
 | .bin _ l r=>1+max l.dep r.dep
 | .way w=>1+w.dep
noncomputable def Wy.dep:Wy→Nat
 | .nil=>0
 | .cons _ l w=>max l.dep w.dep
end
theorem sR (m:Bool):PyData.strOk (Dk m)=true:=by cases m<;>symm
theorem oM:PyData.strOk ("kind":Str)=true:=by symm
theorem nT:PyData.strOk ("not":Str)=true:=by symm
theorem sS:PyData.strOk ("way":Str)=true:=by symm
theorem qX (e:Bool):PyData.strOk (yT e)=true:=by cases e<;>symm
mutual
theorem x8:∀ (l:Lk),l.D.closed=true
 | .one m=>by simp [Lk.D,D.closed,aJ,aP,cy]
 | .kind nm=>by simp [Lk.D,D.closed,aJ,aP,cy]
 | .not l=>by simp [Lk.D,D.closed,aJ,aP,cy,x8 l]
 | .bin e l r=>by simp [Lk.D,D.closed,aJ,aP,cy,x8 l,x8 r]
 | .way w=>by simp [Lk.D,D.closed,aJ,aP,cy,R7 w]
theorem R7:∀ (w:Wy),aX w.Ds=true
 | .nil=>by simp [Wy.Ds,aP]
 | .cons g l w=>by
  rw [Wy.Ds,aJ,R7 w]
  simp [D.closed,aJ,aP,cy,x8 l]
end
mutual
theorem HX:∀ (l:Lk),l.Ok→l.D.plain=true
 | .one m,_=>by simp [Lk.D,D.plain,gX,sR]
 | .kind nm,h=>by rw [Lk.Ok] at h;simp [Lk.D,D.plain,gX,oM,h]
 | .not l,h=>by rw [Lk.Ok] at h;simp [Lk.D,D.plain,gX,nT,HX l h]
 | .bin e l r,h=>by rw [Lk.Ok] at h;simp [Lk.D,D.plain,gX,qX,HX l h.1,HX r h.2]
 | .way w,h=>by rw [Lk.Ok] at h;simp [Lk.D,D.plain,gX,sS,Pj w h]
theorem Pj:∀ (w:Wy),w.Ok→gX w.Ds=true
 | .nil,_=>by simp [Wy.Ds,gX]
 | .cons g l w,h=>by
  rw [Wy.Ok] at h
  simp [Wy.Ds,gX,D.plain,h.1,HX l h.2.1,Pj w h.2.2]
end
mutual
theorem HY:∀ (l:Lk),l.D.dp≤4*l.sz
 | .one m=>by simp [Lk.D,D.dp,Em,Lk.sz]
 | .kind nm=>by simp [Lk.D,D.dp,Em,Lk.sz]
 | .not l=>by have:=HY l;simp only [Lk.D,D.dp,Em,Lk.sz];nofun
 | .bin e l r=>by have:=HY l;have:=HY r;simp only [Lk.D,D.dp,Em,Lk.sz];nofun
 | .way w=>by have:=Pk w;simp only [Lk.D,D.dp,Em,Lk.sz];nofun
theorem Pk:∀ (w:Wy),Em w.Ds≤4*w.sz+1
 | .nil=>by simp [Wy.Ds,Em]
 | .cons g l w=>by have:=HY l;have:=Pk w;simp only [Wy.Ds,D.dp,Em,Wy.sz];nofun
end
noncomputable def Wy.ps:Wy→List (Str×Lk)
 | .nil=>[]
 | .cons g l w=>(g,l)::w.ps
noncomputable def csl:Lk→List Lk
 | .not l=>[l]
 | .bin _ l r=>[l,r]
 | .way w=>w.ps.map (·.2)
 | _=>[]
noncomputable def yx (q:Str×Lk):D:=.tup [.str q.1,q.2.D]
theorem HZ:∀ w:Wy,w.Ds=w.ps.map yx
 | .nil=>rfl
 | .cons g l w=>by rw [Wy.Ds,HZ w];rfl
theorem Dl (l:Lk):1≤l.sz:=by cases l<;>simp [Lk.sz]
theorem GI:∀ w:Wy,w.ps.length≤w.sz
 | .nil=>by simp [Wy.ps]
 | .cons g l w=>by
  have:=GI w
  have:=Dl l
  simp only [Wy.ps,Wy.sz,List.length_cons];nofun
noncomputable def szl:List Lk→Nat
 | []=>0
 | l::ls=>l.sz+szl ls
theorem H8:∀ a b:List Lk,szl (a++b)=szl a+szl b
 | [],b=>by simp [szl]
 | t::a,b=>by rw [List.cons_append,szl,szl,H8 a b];nofun
theorem wsz:∀ w:Wy,w.sz=szl (w.ps.map (·.2))
 | .nil=>by simp [Wy.sz,Wy.ps,szl]
 | .cons g l w=>by rw [Wy.sz,wsz w,Wy.ps];simp [szl]
theorem Ia (l:Lk):l.sz=1+szl (csl l):=by
 cases l<;>simp [Lk.sz,csl,wsz,szl]
theorem Jz:∀ ls:List Lk,ls.length≤szl ls
 | []=>by simp [szl]
 | l::ls=>by
  have:=Jz ls
  have:=Dl l
  simp only [szl,List.length_cons];nofun
mutual
noncomputable def Lk.pre:Lk→List Lk
 | .one m=>[.one m]
 | .kind nm=>[.kind nm]
 | .not l=>.not l::l.pre
 | .bin e l r=>.bin e l r::(l.pre++r.pre)
 | .way w=>.way w::w.pre
noncomputable def Wy.pre:Wy→List Lk
 | .nil=>[]
 | .cons _ l w=>l.pre++w.pre
end
theorem V6:∀ w:Wy,w.pre=(w.ps.map (·.2)).flatMap Lk.pre
 | .nil=>by simp [Wy.pre,Wy.ps]
 | .cons g l w=>by rw [Wy.pre,V6 w,Wy.ps];simp
theorem Mf (l:Lk):l.pre=l::(csl l).flatMap Lk.pre:=by
 cases l<;>simp [Lk.pre,csl,V6,List.flatMap_map]
mutual
theorem zg:∀ l:Lk,l.pre.length=l.sz
 | .one _=>rfl
 | .kind _=>rfl
 | .not l=>by rw [Lk.pre,Lk.sz,List.length_cons,zg l];nofun
 | .bin e l r=>by rw [Lk.pre,Lk.sz,List.length_cons,List.length_append,zg l,zg r];nofun
 | .way w=>by rw [Lk.pre,Lk.sz,List.length_cons,E3 w];nofun
theorem E3:∀ w:Wy,w.pre.length=w.sz
 | .nil=>rfl
 | .cons g l w=>by rw [Wy.pre,Wy.sz,List.length_append,zg l,E3 w]
end
theorem eqs (s t:Str) (G:DH) (hs:PyData.strOk s=true) (ht:PyData.strOk t=true) {b:Bool} (h:(s==t)=b):mq false (.str s) (.str t) G=.ok (.bl b) G:=by
 rw [zb false s t G hs ht,h];simp
theorem ins (s:Str) (ws:List Str) (G:DH) (hs:PyData.strOk s=true) (hw:PyData.canLayAll0 (ws.map PyData.str)=true) {b:Bool} (h:ws.any (·==s)=b):BC false (.str s) (.tup (ws.map .str)) G=.ok (.bl b) G:=by
 have hk:=zW s ws G hs hw
 rw [h] at hk
 simp [BC,bw,hk]
theorem W8 (s:Str) (G:DH) (hs:PyData.strOk s=true) {b:Bool} (h:(["not","both","either"]:List Str).any (·==s)=b):BC false (.str s) (.tup [.str "not",.str "both",.str "either"]) G=.ok (.bl b) G:=ins s ["not","both","either"] G hs (by symm) h
theorem Ib (m:Bool) (G:DH):mq false (.str (Dk m)) (.str "way") G=.ok (.bl false) G:=eqs _ _ G (sR m) sS (by cases m<;>symm)
theorem Dm (G:DH):mq false (.str "kind") (.str "way") G=.ok (.bl false) G:=eqs _ _ G oM sS (by symm)
theorem Ic (G:DH):mq false (.str "not") (.str "way") G=.ok (.bl false) G:=eqs _ _ G nT sS (by symm)
theorem Ie (e:Bool) (G:DH):mq false (.str (yT e)) (.str "way") G=.ok (.bl false) G:=eqs _ _ G (qX e) sS (by cases e<;>symm)
theorem Mg (G:DH):mq false (.str "way") (.str "way") G=.ok (.bl true) G:=eqs _ _ G sS sS (by symm)
theorem V7 (m:Bool) (G:DH):BC false (.str (Dk m)) (.tup [.str "not",.str "both",.str "either"]) G=.ok (.bl false) G:=W8 _ G (sR m) (by cases m<;>symm)
theorem R8 (G:DH):BC false (.str "kind") (.tup [.str "not",.str "both",.str "either"]) G=.ok (.bl false) G:=W8 _ G oM (by symm)
theorem V8 (G:DH):BC false (.str "not") (.tup [.str "not",.str "both",.str "either"]) G=.ok (.bl true) G:=W8 _ G nT (by symm)
theorem V9 (e:Bool) (G:DH):BC false (.str (yT e)) (.tup [.str "not",.str "both",.str "either"]) G=.ok (.bl true) G:=W8 _ G (qX e) (by cases e<;>symm)
theorem R9 (l:Lk) (G:DH):IP (.tup [.str "not",l.D]) (some 1) none G=.ok (.tup [l.D]) G:=by
 have z1:(1:Nat)≤sizeLine:=lz (by nofun)
 simp [IP,bw,cutD,HT.ji,gx,z1]
theorem Sa (s:Str) (l r:Lk) (G:DH):IP (.tup [.str s,l.D,r.D]) (some 1) none G=.ok (.tup [l.D,r.D]) G:=by
 have z2:(2:Nat)≤sizeLine:=lz (by nofun)
 simp [IP,bw,cutD,HT.ji,gx,z2]
theorem E4 (l:Lk) (hsz:l.sz≤1000) (G:DH):eu [l.D] G=.ok (.con ((csl l).map Lk.D)) G:=by
 have z1:(1:Nat)≤sizeLine:=lz (by nofun)
 have z2:(2:Nat)≤sizeLine:=lz (by nofun)
 have z3:(3:Nat)≤sizeLine:=lz (by nofun)
 have hcl:aX ((csl l).map Lk.D)=true:=bz x8
 have n0:(bU [] G).fw G=.ok (.con []) G:=fZ (Nat.zero_le _) rfl
 unfold eu
 refine dw ?_ (by rw [gy];exact hcl)
 cases l with
 | one m=>simp! [gn,Lk.D,csl,SR,Ib,V7,z3,dS,n0]
 | kind nm=>simp! [gn,Lk.D,csl,Fc,Dm,R8,z3,dS,n0]
 | not l=>
  have f:(bU [l.D] G).fw G=.ok (.con [l.D]) G:=fZ (by simpa using z1) (by simp [aJ,aP,x8])
  simp! [gn,Lk.D,csl,Fc,Ic,V8,z3,dS,R9,xu,f]
 | bin e l r=>
  have f:(bU [l.D,r.D] G).fw G=.ok (.con [l.D,r.D]) G:=fZ (by simpa using z2) (by simp [aJ,aP,x8])
  simp! [gn,Lk.D,csl,W7,Ie,V9,z3,dS,Sa,xu,f]
 | way w=>
  have hl:=GI w
  rw [Lk.sz] at hsz
  have hc:=m5 (gO:=oT 2) (ks:=[]) (tt:=lN) (te:=ai 1) (own:=λq:Str×Lk=>[D.str q.1,q.2.D]) (dat:=yx) (f:=λq=>q.2.D) (c:=λ_=>true) (G:=G) (τ:=[some (Lk.way w).D]) w.ps [] (by simp;nofun) (λ_ _=>rfl) (λi hi acc=>rfl) (λi hi acc=>by simp! [mask])
  rw [List.nil_append,List.filter_eq_self.mpr (λ_ _=>rfl)] at hc
  have Zy:aX (w.ps.map λq=>q.2.D)=true:=bz λ_=>x8 _
  rw [Lk.D] at hc
  rw [← HZ] at hc
  simp! [gn,Lk.D,csl,Fc,Ov,Mg,hc,dS,xy Zy]
theorem Mh:List.lookup ("look_parts":Str) [("look_parts",eu)]=some eu:=by
 simp only [List.lookup,beq_self_eq_true]
theorem E5 (G:DH) (a0:Option D) (t:Lk) (rest acc:List Lk) (one:Option D) (h1:acc.length≤10000) (h2:rest.length≤10000) (h3:t.sz≤1000) :
  lE [a0,some (.fn "look_parts"),some (.obj G.length),some (.obj (G.length+1)),one] (G++[.lst (acc.map Lk.D),.lst ((t::rest).reverse.map Lk.D)]) =
   .nx [a0,some (.fn "look_parts"),some (.obj G.length),some (.obj (G.length+1)),some t.D] (G++[.lst ((acc++[t]).map Lk.D),.lst ((csl t++rest).reverse.map Lk.D)]):=by
 have hl:=Jz (csl t)
 have hs:=Ia t
 have ep:=λG=>E4 t h3 G
 generalize csl t=ts at hl hs ep ⊢
 have hz1:acc.length<sizeLine:=Nat.lt_of_lt_of_le (by nofun) (lz (n:=20000) (by nofun))
 have hz2:rest.length+ts.length≤sizeLine:=lz (by nofun)
 have hz3:ts.length≤sizeLine:=lz (by nofun)
 have hcl:aX (ts.map Lk.D).reverse=true:=by
  rw [← List.map_reverse];exact bz x8
 have f:∀ G,(bU (ts.map Lk.D).reverse G).fw G=.ok (.con (ts.map Lk.D).reverse) G:=λG=>fZ (by simpa using hz3) hcl
 have hdl:((rest.map Lk.D).reverse++[t.D]).dropLast=(rest.map Lk.D).reverse:=List.dropLast_concat
 have hix:((rest.map Lk.D).reverse++[t.D])[((rest.map Lk.D).reverse++[t.D]).length - 1]?=some t.D:=by simp
 have g1:∀ x y:DO,(G++[x,y])[G.length+1]?=some y:=λx y=>UB G x y []
 have s1:∀ x y z:DO,(G++[x,y]).set (G.length+1) z=G++[x,z]:=λx y z=>Z6 G x y z []
 have g0:∀ x y:DO,(G++[x,y])[G.length]?=some x:=λx y=>Dp G x [y]
 have s0:∀ x y z:DO,(G++[x,y]).set G.length z=G++[z,y]:=λx y z=>K3 G x z [y]
 have er:(t::rest).reverse.map Lk.D=(rest.map Lk.D).reverse++[t.D]:=by simp
 rw [er]
 have e1:(bP 4 (gk "list" yI (ai 3) aq)) [a0,some (.fn "look_parts"),some (.obj G.length),some (.obj (G.length+1)),one] (G++[.lst (acc.map Lk.D),.lst ((rest.map Lk.D).reverse++[t.D])])=.nx [a0,some (.fn "look_parts"),some (.obj G.length),some (.obj (G.length+1)),some t.D] (G++[.lst (acc.map Lk.D),.lst (rest.map Lk.D).reverse]):=by
  simp only [mC,pH,je,List.getElem?_cons_succ,List.getElem?_cons_zero,iE,jV,g1,iL,yI,hix,hdl,beq_self_eq_true,if_true,rj,List.set_cons_succ,List.set_cons_zero,s1]
 rw [lE,cQ,e1,fO]
 simp! [g0,s0,g1,s1,hz1,Mh,ep,D4,dS,f,Ea,tN,hz2]
theorem yy (G:DH) (a0:Option D):∀ (n fl:Nat) (stk acc:List Lk) (one:Option D),szl stk=n→n<fl→acc.length+n≤1000 →
  ∃ one',jW (kK (aE DP (au gj (af (ai 3) (aq))) (eC (.int 0)))) lE fl [a0,some (.fn "look_parts"),some (.obj G.length),some (.obj (G.length+1)),one] (G++[.lst (acc.map Lk.D),.lst (stk.reverse.map Lk.D)])=.nx [a0,some (.fn "look_parts"),some (.obj G.length),some (.obj (G.length+1)),one'] (G++[.lst ((acc++stk.flatMap Lk.pre).map Lk.D),.lst []])
 | n,0,stk,acc,one,_,h,_=>by nofun
 | n,fl+1,[],acc,one,hn,h,hb=>by
  refine ⟨one,?_⟩
  have g1:∀ x y:DO,(G++[x,y])[G.length+1]?=some y:=λx y=>UB G x y []
  rw [vD]
  simp! [g1,DP]
 | n,fl+1,t::stk,acc,one,hn,h,hb=>by
  rw [szl] at hn
  have hq:=Ia t
  have hss:=H8 (csl t) stk
  have hl1:=Jz (csl t)
  have hl2:=Jz stk
  obtain ⟨one',e⟩:=yy G a0 (n - 1) fl (csl t++stk) (acc++[t]) (some t.D) (by nofun) (by nofun) (by simp;nofun)
  refine ⟨one',?_⟩
  have g1:∀ x y:DO,(G++[x,y])[G.length+1]?=some y:=λx y=>UB G x y []
  have hz:stk.length+1≤sizeLine:=lz (by nofun)
  have hp:(0:Int)<(stk.length:Int)+1:=by nofun
  have et:=E5 G a0 t stk acc one (by nofun) (by nofun) (by nofun)
  have ec:kK (aE DP (au gj (af (ai 3) (aq))) (eC (.int 0))) [a0,some (.fn "look_parts"),some (.obj G.length),some (.obj (G.length+1)),one] (G++[.lst (acc.map Lk.D),.lst ((t::stk).reverse.map Lk.D)])=.ok true (G++[.lst (acc.map Lk.D),.lst ((t::stk).reverse.map Lk.D)]):=by
   simp! [g1,DP,hz,hp]
  rw [vD,ec,NV,La,et,mT,e,List.flatMap_append,List.flatMap_cons,Mf t]
  simp
theorem JA (t:Lk) (h:t.sz≤1000) (G:DH):jY [t.D,.fn "look_parts"] G=.ok (.con (t.pre.map Lk.D)) G:=by
 obtain ⟨one',e⟩:=yy G (some t.D) t.sz fuel [t] [] none (by simp [szl]) (by unfold fuel;nofun) (by simp;nofun)
 have hp:[t].flatMap Lk.pre=t.pre:=by simp
 rw [hp] at e
 simp only [List.reverse_cons,List.reverse_nil,List.nil_append,List.map_cons,List.map_nil] at e
 have z1:(1:Nat)≤sizeLine:=lz (by nofun)
 have hcl:aX (t.pre.map Lk.D)=true:=bz x8
 unfold jY
 refine mZ (R:=[.dead,.lst []]) ?_ (by rw [gy];exact hcl)
 have Wa:(Out.ok (D.obj G.length) (G++[.lst (t.pre.map Lk.D),.lst []])).fz=.ok (.con (t.pre.map Lk.D)) (G++[.dead,.lst []]):=HC
 unfold m6
 generalize fuel=fl at e ⊢
 simp! [bU,z1,e,Wa]
theorem Dn:∀ {ls:List Lk} {l:Lk},l∈ls→l.sz≤szl ls
 | l'::ls,l,h=>by
  rw [szl]
  rcases List.mem_cons.mp h with rfl | h
  ·nofun
  ·have:=Dn h;nofun
noncomputable def Wy.len:Wy→Nat
 | .nil=>0
 | .cons _ _ w=>w.len+1
mutual
noncomputable def Lk.rn:Lk→Nat
 | .one _=>0
 | .kind _=>0
 | .not l=>l.rn
 | .bin _ l r=>r.rn+l.rn
 | .way w=>w.rn+w.len
noncomputable def Wy.rn:Wy→Nat
 | .nil=>0
 | .cons _ l w=>w.rn+l.rn
end
noncomputable def lZ (ps:List (Str×Lk)) (c:Nat):D:=match ps with
 | []=>.i9
 | _::ps=>.int ((c+ps.length:Nat):Int)
noncomputable def ly:List (Str×Lk)→List D→Nat→List D
 | (g,_)::ps,t::ts,c=>ly ps ts c++[.tup [.str g,t,lZ ps c]]
 | _,_,_=>[]
noncomputable def Lk.tD:Lk→Nat→L3.D
 | .one m,_=>.tup [.str (Dk m)]
 | .kind s,_=>.tup [.str "kind",.str s]
 | .not l,a=>.tup [.str "not",l.tD a]
 | .bin e l r,a=>.tup [.str (yT e),l.tD (a+r.rn),r.tD a]
 | .way w,a=>.tup [.str "from",lZ w.ps (a+w.rn)]
noncomputable def Fd:List Lk→Nat
 | []=>0
 | l::ls=>Fd ls+l.rn
noncomputable def Bm:List Lk→Nat→List D
 | [],_=>[]
 | l::ls,a=>l.tD (a+Fd ls)::Bm ls a
mutual
noncomputable def Lk.tE:Lk→Nat→List L3.D
 | .one _,_=>[]
 | .kind _,_=>[]
 | .not l,a=>l.tE a
 | .bin _ l r,a=>r.tE a++l.tE (a+r.rn)
 | .way w,a=>w.tE a++ly w.ps (Bm (w.ps.map (·.2)) a) (a+w.rn)
noncomputable def Wy.tE:Wy→Nat→List L3.D
 | .nil,_=>[]
 | .cons _ l w,a=>w.tE a++l.tE (a+w.rn)
end
noncomputable def Ig:List Lk→Nat→List D
 | [],_=>[]
 | l::ls,a=>Ig ls a++l.tE (a+Fd ls)
theorem GJ:∀ w:Wy,w.len=w.ps.length
 | .nil=>rfl
 | .cons g l w=>by rw [Wy.len,GJ w,Wy.ps,List.length_cons]
theorem Wb:∀ w:Wy,w.rn=Fd (w.ps.map (·.2))
 | .nil=>rfl
 | .cons g l w=>by rw [Wy.rn,Wb w,Wy.ps,List.map_cons,Fd]
theorem wtE:∀ (w:Wy) (a:Nat),w.tE a=Ig (w.ps.map (·.2)) a
 | .nil,a=>by rw [Wy.tE,Wy.ps];rfl
 | .cons g l w,a=>by rw [Wy.tE,wtE w,Wb w,Wy.ps,List.map_cons,Ig]
theorem wM:∀ (ls:List Lk) (a:Nat),(Bm ls a).length=ls.length
 | [],_=>rfl
 | l::ls,a=>by rw [Bm,List.length_cons,wM ls,List.length_cons]
theorem wN:∀ (ps:List (Str×Lk)) (ts:List D) (c:Nat),ts.length=ps.length→(ly ps ts c).length=ps.length
 | [],ts,c,_=>by simp [ly]
 | p::ps,[],c,h=>by simp at h
 | (g,l)::ps,t::ts,c,h=>by simp only [ly,List.length_append,List.length_cons,List.length_nil,wN ps ts c (by simpa using h)]
mutual
theorem qY:∀ (l:Lk) (a:Nat),(l.tE a).length=l.rn
 | .one _,a=>by rw [Lk.tE,Lk.rn];rfl
 | .kind _,a=>by rw [Lk.tE,Lk.rn];rfl
 | .not l,a=>by rw [Lk.tE,Lk.rn,qY l]
 | .bin e l r,a=>by rw [Lk.tE,Lk.rn,List.length_append,qY l,qY r]
 | .way w,a=>by rw [Lk.tE,Lk.rn,List.length_append,zh w,wN _ _ _ (by rw [wM,List.length_map]),GJ]
theorem zh:∀ (w:Wy) (a:Nat),(w.tE a).length=w.rn
 | .nil,a=>by rw [Wy.tE,Wy.rn];rfl
 | .cons g l w,a=>by rw [Wy.tE,Wy.rn,List.length_append,qY l,zh w]
end
theorem zj:∀ (ls:List Lk) (a:Nat),(Ig ls a).length=Fd ls
 | [],_=>rfl
 | l::ls,a=>by rw [Ig,Fd,List.length_append,qY,zj ls]
mutual
theorem wO:∀ l:Lk,l.rn+1≤l.sz
 | .one _=>by simp [Lk.rn,Lk.sz]
 | .kind _=>by simp [Lk.rn,Lk.sz]
 | .not l=>by have:=wO l;rw [Lk.rn,Lk.sz];nofun
 | .bin e l r=>by have:=wO l;have:=wO r;rw [Lk.rn,Lk.sz];nofun
 | .way w=>by have:=GK w;rw [Lk.rn,Lk.sz];nofun
theorem GK:∀ w:Wy,w.rn+w.len≤w.sz
 | .nil=>by simp [Wy.rn,Wy.len,Wy.sz]
 | .cons g l w=>by have:=wO l;have:=GK w;rw [Wy.rn,Wy.len,Wy.sz];nofun
end
noncomputable def Fe:Lk→List D→Nat→D
 | .not _,[t],_=>.tup [.str "not",t]
 | .bin e _ _,[t,u],_=>.tup [.str (yT e),t,u]
 | .way w,_,c=>.tup [.str "from",lZ w.ps c]
 | l,_,_=>l.D
noncomputable def Oz:Lk→List D→Nat→List D
 | .way w,ts,c=>ly w.ps ts c
 | _,_,_=>[]
theorem Wc (l:Lk) (a:Nat):l.tD a=Fe l (Bm (csl l) a) (a+Fd (csl l)):=by
 cases l<;>simp [Lk.tD,Fe,csl,Bm,Fd,Lk.D,Wb]
theorem Pn (l:Lk) (a:Nat):l.tE a=Ig (csl l) a++Oz l (Bm (csl l) a) (a+Fd (csl l)):=by
 cases l<;>simp [Lk.tE,Oz,csl,Bm,Fd,Ig,Wb,wtE]
theorem Mi (ps:List (Str×Lk)) (c:Nat):(lZ ps c).closed=true:=by
 cases ps<;>simp [lZ,D.closed]
theorem Mj:∀ (l:Lk) (a:Nat),(l.tD a).closed=true
 | .one m,a=>by simp [Lk.tD,D.closed,aJ,aP,cy]
 | .kind nm,a=>by simp [Lk.tD,D.closed,aJ,aP,cy]
 | .not l,a=>by simp [Lk.tD,D.closed,aJ,aP,cy,Mj l]
 | .bin e l r,a=>by simp [Lk.tD,D.closed,aJ,aP,cy,Mj l,Mj r]
 | .way w,a=>by simp [Lk.tD,D.closed,aJ,aP,cy,Mi]
theorem Ml:∀ (ls:List Lk) (a:Nat),aX (Bm ls a)=true
 | [],a=>by rw [Bm,aP]
 | l::ls,a=>by rw [Bm,aJ,Mj,Ml ls];rfl
theorem Mm:∀ (ps:List (Str×Lk)) (ts:List D) (c:Nat),aX ts=true→aX (ly ps ts c)=true
 | [],ts,c,_=>by simp [ly,aP]
 | p::ps,[],c,h=>by simp [ly,aP]
 | (g,l)::ps,t::ts,c,h=>by
  rw [aJ,Bool.and_eq_true] at h
  simp [ly,lP,Mm ps ts c h.2,aJ,aP,D.closed,cy,h.1,Mi]
mutual
theorem Mn:∀ (l:Lk) (a:Nat),aX (l.tE a)=true
 | .one _,a=>by rw [Lk.tE,aP]
 | .kind _,a=>by rw [Lk.tE,aP]
 | .not l,a=>by rw [Lk.tE,Mn l]
 | .bin e l r,a=>by rw [Lk.tE,lP,Mn l,Mn r];rfl
 | .way w,a=>by rw [Lk.tE,lP,Po w,Mm _ _ _ (Ml _ _)];rfl
theorem Po:∀ (w:Wy) (a:Nat),aX (w.tE a)=true
 | .nil,a=>by rw [Wy.tE,aP]
 | .cons g l w,a=>by rw [Wy.tE,lP,Mn l,Po w];rfl
end
theorem GL (A B:DH) (R:List D) (row:D) (hR:R.length≤5000):kQ [.obj A.length,row] (A++.lst R::B)=.ok (.int (R.length:Int)) (A++.lst (R++[row])::B):=by
 have g0:∀ x Y,(A++x::Y)[A.length]?=some x:=λx Y=>Dp A x Y
 have s0:∀ x z Y,(A++x::Y).set A.length z=A++z::Y:=λx z Y=>K3 A x z Y
 have hz1:R.length<sizeLine:=Nat.lt_of_lt_of_le (by nofun) (lz (n:=6000) (by nofun))
 have hz2:R.length+1≤sizeLine:=lz (by nofun)
 unfold kQ
 simp! [xG,g0,s0,hz1,hz2]
theorem Sb:List.lookup ("add_row":Str) [("add_row",kQ)]=some kQ:=by
 simp only [List.lookup,beq_self_eq_true]
theorem E6 (A B:DH) (a0 a1:Option D):∀ (ps:List (Str×Lk)) (ts:List D),ts.length=ps.length→∀ (R:List D) (a5 a6:Option D),R.length+ps.length≤5000→∃ b5 b6,∀ rest:List D,
  fE (gP 5 6) kR ((List.zipWith (λd e=>D.tup [d,e]) (ps.map yx) ts).reverse++rest) [a0,a1,some (.obj A.length),some (.fn "add_row"),some .i9,a5,a6] (A++.lst R::B) =
  fE (gP 5 6) kR rest [a0,a1,some (.obj A.length),some (.fn "add_row"),some (lZ ps R.length),b5,b6] (A++.lst (R++ly ps ts R.length)::B)
 | [],ts,_,R,a5,a6,_=>⟨a5,a6,λrest=>by simp [ly,lZ]⟩
 | p::ps,[],h,_,_,_,_=>by simp at h
 | (g,l)::ps,t::ts,h,R,a5,a6,hR=>by
  simp only [List.length_cons,Nat.add_right_cancel_iff] at h hR
  obtain ⟨b5,b6,e⟩:=E6 A B a0 a1 ps ts h R a5 a6 (by nofun)
  refine ⟨some (yx (g,l)),some t,λrest=>?_⟩
  have hl:=wN ps ts R.length h
  have er:=GL A B (R++ly ps ts R.length) (.tup [.str g,t,lZ ps R.length]) (by simp;nofun)
  have hlen:(R++ly ps ts R.length).length=R.length+ps.length:=by simp [hl]
  rw [hlen] at er
  have z3:(3:Nat)≤sizeLine:=lz (by nofun)
  have ez:List.zipWith (λd e=>D.tup [d,e]) (((g,l)::ps).map yx) (t::ts)=.tup [yx (g,l),t]::List.zipWith (λd e=>D.tup [d,e]) (ps.map yx) ts:=rfl
  rw [ez,List.reverse_cons,List.append_assoc,e]
  have e1:kR [a0,a1,some (.obj A.length),some (.fn "add_row"),some (lZ ps R.length),some (yx (g,l)),some t] (A++.lst (R++ly ps ts R.length)::B)=.nx [a0,a1,some (.obj A.length),some (.fn "add_row"),some (.int ((R.length+ps.length:Nat):Int)),some (yx (g,l)),some t] (A++.lst (R++ly ps ts R.length++[.tup [.str g,t,lZ ps R.length]])::B):=by
   generalize lZ ps R.length=n at er
   generalize R++ly ps ts R.length=R2 at er
   simp! [kR,yx,Fc,z3,Sb,er]
  rw [List.singleton_append,fP (τ1:=[a0,a1,some (.obj A.length),some (.fn "add_row"),some (lZ ps R.length),some (yx (g,l)),some t]) rfl,e1,mT]
  simp [lZ,ly]
theorem OA (xs ys:List D) (h:xs.length=ys.length) (hz:xs.length≤1000) (hc:aX xs=true) (hc2:aX ys=true) (G:DH):(An [.tup xs,.con ys] G).fw G=.ok (.con (List.zipWith (λd e=>D.tup [d,e]) xs ys)) G:=by
 have hz2:(List.zipWith (λd e=>D.tup [d,e]) xs ys).length≤sizeLine:=lz (by rw [List.length_zipWith];nofun)
 have hcl:∀ (xs ys:List D),aX xs=true→aX ys=true→aX (List.zipWith (λd e=>D.tup [d,e]) xs ys)=true:=by
  intro xs
  induction xs with
  | nil=>intro ys _ _;rfl
  | cons x xs ih=>
   intro ys h1 h2
   cases ys with
   | nil=>rfl
   | cons y ys=>
    rw [aJ,Bool.and_eq_true] at h1 h2
    simp [List.zipWith_cons_cons,aJ,D.closed,h1.1,h2.1,ih ys h1.2 h2.2,aP]
 have e:An [.tup xs,.con ys] G=bU (List.zipWith (λd e=>D.tup [d,e]) xs ys) G:=by
  simp only [An,fG,bw,if_pos h]
 rw [e]
 exact fZ hz2 (hcl xs ys hc hc2)
theorem GN (A B:DH) (w:Wy) (ts:List D) (h:ts.length=w.ps.length) (hc:aX ts=true) (hz:w.sz≤1000) (R:List D) (hR:R.length≤3000) :
  pK [.tup w.Ds,.con ts,.obj A.length,.fn "add_row"] (A++.lst R::B)=.ok (lZ w.ps R.length) (A++.lst (R++ly w.ps ts R.length)::B):=by
 have hpl:=GI w
 have hl:w.Ds.length=w.ps.length:=by rw [HZ,List.length_map]
 obtain ⟨b5,b6,e⟩:=E6 A B (some (.tup w.Ds)) (some (.con ts)) w.ps ts h R none none (by nofun)
 have e:=e []
 rw [List.append_nil,← HZ,jX] at e
 have ez:=λG=>OA w.Ds ts (by nofun) (by nofun) (R7 w) hc G
 have hfr:=λτ G=>HH (g:=gP 5 6) (body:=kR) (xs:=List.zipWith (λd e=>D.tup [d,e]) w.Ds ts) (τ:=τ) (G:=G)
 unfold pK
 generalize List.zipWith (λd e=>D.tup [d,e]) w.Ds ts=zs at e ez hfr
 generalize lZ w.ps R.length=n at e
 generalize ly w.ps ts R.length=aR at e
 generalize w.Ds=ws at e ez hfr
 simp! [xH,dS,ez,hfr,e]
theorem OB (l:Lk) (ts:List D) (h:ts.length=(csl l).length) (hc:aX ts=true) (hw:∀ w,l≠.way w) (c:Nat) (G:DH):lQ [l.D,.con ts] G=.ok (Fe l ts c) G:=by
 have z1:(1:Nat)≤sizeLine:=lz (by nofun)
 have z2:(2:Nat)≤sizeLine:=lz (by nofun)
 have z3:(3:Nat)≤sizeLine:=lz (by nofun)
 unfold lQ
 cases l with
 | one m=>
  have:ts=[]:=List.length_eq_zero_iff.mp (by simpa [csl] using h)
  subst this
  refine dw ?_ (x8 (.one m))
  simp! [iM,Lk.D,SR,Ib,Fe,cB]
 | kind s=>
  have:ts=[]:=List.length_eq_zero_iff.mp (by simpa [csl] using h)
  subst this
  refine dw ?_ (x8 (.kind s))
  simp! [iM,Lk.D,Fc,Dm,Fe,cB]
 | not l=>
  match ts,h with
  | [a],_=>
   rw [aJ,Bool.and_eq_true] at hc
   refine dw ?_ (by simp [Fe,D.closed,aJ,aP,cy,hc.1])
   simp! [iM,Lk.D,Fc,Ic,Fe,cB,z1,z2,qg,gx]
 | bin e l r=>
  match ts,h with
  | [a,b],_=>
   rw [aJ,aJ,Bool.and_eq_true,Bool.and_eq_true] at hc
   refine dw ?_ (by simp [Fe,D.closed,aJ,aP,cy,hc.1,hc.2.1])
   simp! [iM,Lk.D,W7,Ie,Fe,cB,z1,z2,z3,qg,gx]
 | way w=>exact absurd rfl (hw w)
theorem OC (A B:DH) (l:Lk) (ts:List D) (h:ts.length=(csl l).length) (hc:aX ts=true) (hz:l.sz≤1000) (R:List D) (hR:R.length≤3000) :
  eU [l.D,.con ts,.obj A.length] (A++.lst R::B)=.ok (Fe l ts R.length) (A++.lst (R++Oz l ts R.length)::B):=by
 have z2:(2:Nat)≤sizeLine:=lz (by nofun)
 have key:jH [l.D,.con ts,.obj A.length,.fn "add_row"] (A++.lst R::B)=.ok (Fe l ts R.length) (A++.lst (R++Oz l ts R.length)::B):=by
  by_cases hw:∃ w,l=.way w
  ·obtain ⟨w,rfl⟩:=hw
   rw [Lk.sz] at hz
   have ea:=GN A B w ts (by simpa [csl] using h) hc (by nofun) R hR
   have eD:(Lk.way w).D=.tup [.str "way",.tup w.Ds]:=by rw [Lk.D]
   have e1:Fe (.way w) ts R.length=.tup [.str "from",lZ w.ps R.length]:=rfl
   have e2:Oz (.way w) ts R.length=ly w.ps ts R.length:=rfl
   rw [eD,e1,e2]
   generalize lZ w.ps R.length=n at ea
   generalize ly w.ps ts R.length=aR at ea
   generalize w.Ds=ws at ea
   unfold jH
   simp! [lS,Fc,Ov,Mg,ea,z2]
  ·have ew:=λG=>OB l ts h hc (λw e=>hw ⟨w,e⟩) R.length G
   have e2:Oz l ts R.length=[]:=by cases l<;>first | rfl | exact absurd ⟨_,rfl⟩ hw
   rw [e2,List.append_nil]
   have e0:∀ G,(kK (aE (mq false) (aE fB (ai 0) (eC (.int 0))) (eC (.str "way")))) [some l.D,some (.con ts),some (.obj A.length),some (.fn "add_row")] G=.ok false G:=by
    intro G
    cases l with
    | one m=>simp! [Lk.D,SR,Ib]
    | kind s=>simp! [Lk.D,Fc,Dm]
    | not l=>simp! [Lk.D,Fc,Ic]
    | bin e l r=>simp! [Lk.D,W7,Ie]
    | way w=>exact absurd ⟨w,rfl⟩ hw
   unfold jH
   rw [nE]
   show (lS [some l.D,some (.con ts),some (.obj A.length),some (.fn "add_row")] _).fn=_
   rw [lS,cQ,Hr,e0,NW,zd,fO]
   generalize Fe l ts R.length=xD at ew
   generalize l.D=ld at ew
   simp! [ew]
 generalize Fe l ts R.length=xD at key
 generalize Oz l ts R.length=xE at key
 generalize l.D=ld at key
 have hr:N9 3 iR [ld,.con ts,.obj A.length] (A++.lst R::B)=.ok xD (A++.lst (R++xE)::B):=by
  show iR [some ld,some (.con ts),some (.obj A.length)] _=_
  simp! [iR,key]
 unfold eU
 rw [hr]
 rfl
theorem Sd:List.lookup ("table_of":Str) [("table_of",((1:Nat),eU))]=some (1,eU):=by
 simp only [List.lookup,beq_self_eq_true]
theorem Pp (G Z:DH) (x y:DO):(G++x::(Z++[y]))[G.length+(Z.length+1)]?=some y:=by
 have e:G++x::(Z++[y])=(G++x::Z)++y::[]:=by simp
 have l:G.length+(Z.length+1)=(G++x::Z).length:=by simp
 rw [e,l]
 exact Dp _ _ _
theorem Pq (G Z:DH) (x y z:DO):(G++x::(Z++[y])).set (G.length+(Z.length+1)) z=G++x::(Z++[z]):=by
 have e:G++x::(Z++[y])=(G++x::Z)++y::[]:=by simp
 have l:G.length+(Z.length+1)=(G++x::Z).length:=by simp
 rw [e,l,K3]
 simp
theorem Ca (G Z:DH) (a0 a1 a2 a4:Option D) (B:List D):∀ (xs:List D) (j:Nat) (ps:List D) (a6:Option D),ps.length+xs.length≤1000 →
  ∃ b6,fE (gN 6) pL ((List.range' j xs.length).map λ(k:Nat)=>.int (0+(k:Int))) [a0,a1,a2,some (.obj G.length),a4,some (.obj (G.length+(Z.length+1))),a6] (G++.lst (B++xs.reverse)::(Z++[.lst ps])) =
   .nx [a0,a1,a2,some (.obj G.length),a4,some (.obj (G.length+(Z.length+1))),b6] (G++.lst B::(Z++[.lst (ps++xs)]))
 | [],j,ps,a6,_=>⟨a6,by simp [fE]⟩
 | x::xs,j,ps,a6,h=>by
  simp only [List.length_cons] at h
  obtain ⟨b6,e⟩:=Ca G Z a0 a1 a2 a4 B xs (j+1) (ps++[x]) (some (.int (0+(j:Int)))) (by simp;nofun)
  refine ⟨b6,?_⟩
  have hz:ps.length<sizeLine:=Nat.lt_of_lt_of_le (by nofun) (lz (n:=2000) (by nofun))
  have er:B++(x::xs).reverse=(B++xs.reverse)++[x]:=by simp
  rw [er]
  generalize B++xs.reverse=C at e
  have hdl:(C++[x]).dropLast=C:=List.dropLast_concat
  have hix:(C++[x])[(C++[x]).length - 1]?=some x:=by simp
  have g1:=λx y=>Pp G Z x y
  have s1:=λx y z=>Pq G Z x y z
  have g0:∀ x y,(G++x::(Z++[y]))[G.length]?=some x:=λx y=>Dp G x _
  have s0:∀ x y z,(G++x::(Z++[y])).set G.length z=G++z::(Z++[y]):=λx y z=>K3 G x z _
  have ep:gk "list" yI (ai 3) aq [a0,a1,a2,some (.obj G.length),a4,some (.obj (G.length+(Z.length+1))),some (.int (0+(j:Int)))] (G++.lst (C++[x])::(Z++[.lst ps]))=.ok x (G++.lst C::(Z++[.lst ps])):=by
   simp only [pH,je,List.getElem?_cons_succ,List.getElem?_cons_zero,iE,jV,g0,iL,yI,hix,hdl,beq_self_eq_true,if_true,s0]
  have e1:pL [a0,a1,a2,some (.obj G.length),a4,some (.obj (G.length+(Z.length+1))),some (.int (0+(j:Int)))] (G++.lst (C++[x])::(Z++[.lst ps]))=.nx [a0,a1,a2,some (.obj G.length),a4,some (.obj (G.length+(Z.length+1))),some (.int (0+(j:Int)))] (G++.lst C::(Z++[.lst (ps++[x])])):=by
   simp only [pL,zc,pH (g:=fY),je,List.getElem?_cons_succ,List.getElem?_cons_zero,iE,jV,g1,iW,ep,iL,aF,oi,fY,beq_self_eq_true,if_true,hz,s1,Hs]
  rw [List.length_cons,List.range'_succ,List.map_cons,fP rfl]
  simp only [List.set_cons_succ,List.set_cons_zero,e1,mT]
  rw [e]
  simp
theorem Mp (A Z:DH) (a0 a5 a6:Option D) (B ms:List D) (t:Lk) (lD:List D) (hl:lD.length=(csl t).length) (hcD:aX lD=true) (hz:t.sz≤1000) (hm:ms.length≤3000) (hB:B.length≤5000) :
  ∃ (b5 b6:Option D),jJ [a0,some (.fn "look_parts"),some (.pY "table_of" [.obj A.length]),some (.obj (A.length+1)),some t.D,a5,a6] (A++.lst ms::.lst (B++lD.reverse)::Z) =
   .nx [a0,some (.fn "look_parts"),some (.pY "table_of" [.obj A.length]),some (.obj (A.length+1)),some t.D,b5,b6] (A++.lst (ms++Oz t lD ms.length)::.lst (B++[Fe t lD ms.length])::(Z++[.dead])):=by
 have hlt:=Jz (csl t)
 have hsq:=Ia t
 have hll:lD.length≤1000:=by nofun
 have eG:∀ (x y:DO) (Y:DH),(A++[x])++y::Y=A++x::y::Y:=λx y Y=>by simp
 have eL:∀ x:DO,(A++[x]).length=A.length+1:=λx=>by simp
 obtain ⟨b6,e⟩:=Ca (A++[.lst ms]) Z a0 (some (.fn "look_parts")) (some (.pY "table_of" [.obj A.length])) (some t.D) B lD 0 [] a6 (by simp;nofun)
 have ep:=λG=>E4 t hz G
 have em:=OC A (.lst B::(Z++[.dead])) t lD hl hcD hz ms hm
 have hr:=tu (j:=(lD.length:Int)) (by nofun) (by nofun)
 rw [Int.toNat_natCast] at hr
 simp only [List.nil_append,eL,eG] at e
 have hcl:((csl t).map Lk.D).length=lD.length:=by rw [List.length_map,hl]
 generalize Fe t lD ms.length=rd at em ⊢
 generalize Oz t lD ms.length=xE at em ⊢
 generalize t.D=td at e ep em
 generalize (csl t).map Lk.D=cD at ep hcl
 generalize ((List.range' 0 lD.length).map λ(k:Nat)=>D.int (0+(k:Int)))=rg at hr e
 have SS:lD.length≤sizeLine:=lz (by nofun)
 have hzB:B.length<sizeLine:=Nat.lt_of_lt_of_le (by nofun) (lz (n:=6000) (by nofun))
 refine ⟨some (.obj (A.length+1+(Z.length+1))),b6,?_⟩
 have n0:∀ M N:DO,bU [] (A++M::N::Z)=.ok (.obj (A.length+1+(Z.length+1))) (A++M::N::(Z++[.lst []])):=λM N=>by simp [bU];nofun
 have hgz:∀ (M N:DO) (y:DO),(A++M::N::(Z++[y]))[A.length+1+(Z.length+1)]?=some y:=λM N y=>by
  have:=Pp (A++[M]) Z N y
  rw [eG,eL] at this
  exact this
 have hsz:∀ (M N:DO) (y z:DO),(A++M::N::(Z++[y])).set (A.length+1+(Z.length+1)) z=A++M::N::(Z++[z]):=λM N y z=>by
  have:=Pq (A++[M]) Z N y z
  rw [eG,eL,eG] at this
  exact this
 have g1:∀ x y Y,(A++x::y::Y)[A.length+1]?=some y:=λx y Y=>UB A x y Y
 have s1:∀ x y z Y,(A++x::y::Y).set (A.length+1) z=A++x::z::Y:=λx y z Y=>Z6 A x y z Y
 have S1:(bP 5 (au bU (aq))) [a0,some (.fn "look_parts"),some (.pY "table_of" [.obj A.length]),some (.obj (A.length+1)),some td,a5,a6] (A++.lst ms::.lst (B++lD.reverse)::Z)=.nx [a0,some (.fn "look_parts"),some (.pY "table_of" [.obj A.length]),some (.obj (A.length+1)),some td,some (.obj (A.length+1+(Z.length+1))),a6] (A++.lst ms::.lst (B++lD.reverse)::(Z++[.lst []])):=by
  simp only [mC,oj,iL,iE,n0,rj,List.set_cons_succ,List.set_cons_zero]
 have S2:(lA kL (gN 6) (af (au gj (af (uE 1 1 (λy=>List.lookup y [("look_parts",eu)]) (af (ai 4) (aq))) (aq))) (aq)) pL) [a0,some (.fn "look_parts"),some (.pY "table_of" [.obj A.length]),some (.obj (A.length+1)),some td,some (.obj (A.length+1+(Z.length+1))),a6] (A++.lst ms::.lst (B++lD.reverse)::(Z++[.lst []]))=.nx [a0,some (.fn "look_parts"),some (.pY "table_of" [.obj A.length]),some (.obj (A.length+1)),some td,some (.obj (A.length+1+(Z.length+1))),b6] (A++.lst ms::.lst B::(Z++[.lst lD])):=by
  simp! [Mh,ep,hcl,SS,hr,e]
 have eA:(af (ai 4) (af (Lb (ai 5)) (aq))) [a0,some (.fn "look_parts"),some (.pY "table_of" [.obj A.length]),some (.obj (A.length+1)),some td,some (.obj (A.length+1+(Z.length+1))),b6] (A++.lst ms::.lst B::(Z++[.lst lD]))=.ok [td,.con lD] (A++.lst ms::.lst B::(Z++[.dead])):=by
  have ef:Lb (ai 5) [a0,some (.fn "look_parts"),some (.pY "table_of" [.obj A.length]),some (.obj (A.length+1)),some td,some (.obj (A.length+1+(Z.length+1))),b6] (A++.lst ms::.lst B::(Z++[.lst lD]))=.ok (.con lD) (A++.lst ms::.lst B::(Z++[.dead])):=by
   unfold Lb
   rw [je]
   simp only [List.getElem?_cons_succ,List.getElem?_cons_zero,hgz,hsz]
  simp only [iW,je,List.getElem?_cons_succ,List.getElem?_cons_zero,iE,aF,ef,iL,oi]
 have eC:Ai 2 2 (λy=>List.lookup y [("table_of",(1,eU))]) (af (ai 4) (af (Lb (ai 5)) (aq))) [a0,some (.fn "look_parts"),some (.pY "table_of" [.obj A.length]),some (.obj (A.length+1)),some td,some (.obj (A.length+1+(Z.length+1))),b6] (A++.lst ms::.lst B::(Z++[.lst lD]))=.ok rd (A++.lst (ms++xE)::.lst B::(Z++[.dead])):=by
  unfold Ai
  simp only [List.getElem?_cons_succ,List.getElem?_cons_zero]
  rw [aF,eA,iE]
  unfold CO
  simp only [List.getElem?_cons_succ,List.getElem?_cons_zero,Sd]
  exact em
 rw [jJ,cQ,S1,fO,cQ,S2,fO,zc,pH (g:=fY),je]
 simp only [List.getElem?_cons_succ,List.getElem?_cons_zero,iE,jV,g1,iW,eC,aF,iL,oi,fY,beq_self_eq_true,if_true,hzB,s1,Hs]
noncomputable def Mq (A:DH) (a0:Option D) (t:Lk):Prop:=∀ (R B:List D) (Z:DH) (a4 a5 a6:Option D),R.length+t.sz≤2000→B.length+t.sz≤4000→∃ (Z':DH) (b4 b5 b6:Option D),∀ rest:List D,
  fE (gN 4) jJ (t.pre.reverse.map Lk.D++rest) [a0,some (.fn "look_parts"),some (.pY "table_of" [.obj A.length]),some (.obj (A.length+1)),a4,a5,a6] (A++.lst R::.lst B::Z) =
  fE (gN 4) jJ rest [a0,some (.fn "look_parts"),some (.pY "table_of" [.obj A.length]),some (.obj (A.length+1)),b4,b5,b6] (A++.lst (R++t.tE R.length)::.lst (B++[t.tD R.length])::Z')
theorem Ih (A:DH) (a0:Option D):∀ (ts:List Lk),(∀ t∈ts,Mq A a0 t)→∀ (R B:List D) (Z:DH) (a4 a5 a6:Option D),R.length+szl ts≤2000→B.length+szl ts≤4000→∃ (Z':DH) (b4 b5 b6:Option D),∀ rest:List D,
  fE (gN 4) jJ ((ts.flatMap Lk.pre).reverse.map Lk.D++rest) [a0,some (.fn "look_parts"),some (.pY "table_of" [.obj A.length]),some (.obj (A.length+1)),a4,a5,a6] (A++.lst R::.lst B::Z) =
  fE (gN 4) jJ rest [a0,some (.fn "look_parts"),some (.pY "table_of" [.obj A.length]),some (.obj (A.length+1)),b4,b5,b6] (A++.lst (R++Ig ts R.length)::.lst (B++(Bm ts R.length).reverse)::Z')
 | [],_,R,B,Z,a4,a5,a6,_,_=>⟨Z,a4,a5,a6,λrest=>by simp [Ig,Bm]⟩
 | t::ts,h,R,B,Z,a4,a5,a6,hs,hB=>by
  rw [szl] at hs hB
  have hlt:=Jz ts
  have Zz:Fd ts≤szl ts:=by
   have:∀ ts:List Lk,Fd ts≤szl ts:=λts=>by
    induction ts with
    | nil=>simp [Fd]
    | cons t ts ih=>have:=wO t;rw [Fd,szl];nofun
   exact this ts
  obtain ⟨Z',b4,b5,b6,e⟩:=Ih A a0 ts (λx hx=>h x (by simp [hx])) R B Z a4 a5 a6 (by nofun) (by nofun)
  obtain ⟨Z2,c4,c5,c6,e1⟩:=h t (by simp) (R++Ig ts R.length) (B++(Bm ts R.length).reverse) Z' b4 b5 b6 (by rw [List.length_append,zj];nofun) (by rw [List.length_append,List.length_reverse,wM];nofun)
  refine ⟨Z2,c4,c5,c6,λrest=>?_⟩
  have er:((t::ts).flatMap Lk.pre).reverse.map Lk.D++rest=(ts.flatMap Lk.pre).reverse.map Lk.D++(t.pre.reverse.map Lk.D++rest):=by
   rw [List.flatMap_cons,List.reverse_append,List.map_append,List.append_assoc]
  rw [er,e,e1,Ig,Bm]
  simp [zj]
theorem Ii (A:DH) (a0:Option D):∀ (n:Nat) (t:Lk),t.sz≤n→t.sz≤1000→Mq A a0 t
 | 0,t,h,_=>by have:=Dl t;nofun
 | n+1,t,hn,hz=>λR B Z a4 a5 a6 hs hB=>by
  have hq:=Ia t
  have Zz:=wO t
  obtain ⟨Z',b4,b5,b6,e⟩:=Ih A a0 (csl t) (λc hc=>Ii A a0 n c (by have:=Dn hc;nofun) (by have:=Dn hc;nofun)) R B Z a4 a5 a6 (by nofun) (by nofun)
  have hl1:(R++Ig (csl t) R.length).length≤3000:=by
   have h1:=congrArg List.length (Pn t R.length)
   rw [List.length_append,qY] at h1
   rw [List.length_append];nofun
  obtain ⟨c5,c6,e1⟩:=Mp A Z' a0 b5 b6 B (R++Ig (csl t) R.length) t (Bm (csl t) R.length) (wM ..) (Ml ..) hz hl1 (by nofun)
  have hll:(R++Ig (csl t) R.length).length=R.length+Fd (csl t):=by rw [List.length_append,zj]
  rw [hll,← Wc,List.append_assoc,← Pn] at e1
  refine ⟨Z'++[.dead],some t.D,c5,c6,λrest=>?_⟩
  have er:t.pre.reverse.map Lk.D++rest=((csl t).flatMap Lk.pre).reverse.map Lk.D++t.D::rest:=by
   rw [Mf,List.reverse_cons,List.map_append,List.append_assoc];rfl
  rw [er,e,fP rfl]
  simp only [List.set_cons_succ,List.set_cons_zero,e1,mT]
theorem JB (l:Lk) (hz:l.sz≤900) (A:DH):∃ Z:DH,sA [l.D,.fn "look_parts",.pY "table_of" [.obj A.length]] (A++[.lst []])=.ok (l.tD 0) (A++.lst (l.tE 0)::Z):=by
 obtain ⟨Z',b4,b5,b6,e⟩:=Ii A (some l.D) l.sz l (Nat.le_refl _) (by nofun) [] [] [] none none none (by simp;nofun) (by simp;nofun)
 have e2:=e []
 rw [List.append_nil,jX] at e2
 have ew:=JA l (by nofun) (A++[.lst [],.lst []])
 have hfr:=λτ G=>HH (g:=gN 4) (body:=jJ) (xs:=l.pre.map Lk.D) (τ:=τ) (G:=G)
 rw [List.map_reverse] at e2
 simp only [List.nil_append,List.length_nil] at e2
 refine ⟨.lst [l.tD 0]::Z',?_⟩
 have n0:bU [] (A++[.lst []])=.ok (.obj (A.length+1)) (A++[.lst [],.lst []]):=by simp [bU]
 have g1:∀ x y Y,(A++x::y::Y)[A.length+1]?=some y:=λx y Y=>UB A x y Y
 unfold sA
 generalize l.pre.map Lk.D=pD at e2 ew hfr
 generalize l.tD 0=tD at e2
 generalize l.tE 0=tE at e2
 generalize l.D=ld at e2 ew
 simp! [Aq,n0,ew,hfr,e2,g1,SR]
theorem Mr (l:Lk) (hz:l.sz≤900) (G:DH) (hG:G.any (vJ "table_of")=true):nH [l.D] G=.ok (.tup [.tup (l.tE 0),l.tD 0]) G:=by
 obtain ⟨Z,e⟩:=JB l hz G
 have Zz:=wO l
 have hcl:(D.tup [.tup (l.tE 0),l.tD 0]).closed=true:=by simp [D.closed,aJ,aP,Mj,Mn]
 have z2:(2:Nat)≤sizeLine:=lz (by nofun)
 have hzE:(l.tE 0).length≤sizeLine:=lz (by rw [qY];nofun)
 have g0:∀ x Y,(G++x::Y)[G.length]?=some x:=λx Y=>Dp G x Y
 unfold nH
 refine mZ (R:=.lst (l.tE 0)::Z) ?_ hcl
 generalize l.tD 0=tD at e
 generalize l.tE 0=tE at e hzE
 generalize l.D=ld at e
 have hG2:(G++[DO.lst []]).any (vJ "table_of")=true:=by rw [List.any_append,hG];rfl
 have S1:(bP 1 (au bU (aq))) [some ld,none,none] G=.nx [some ld,some (.obj G.length),none] (G++[.lst []]):=by
  simp! [bU]
 have eL:LH "table_of" [1] [some ld,some (.obj G.length),none] (G++[.lst []])=.ok (.pY "table_of" [.obj G.length]) (G++[.lst []]):=by
  unfold LH
  rw [if_pos hG2]
  rfl
 have hr:dR 3 kU [ld] G=.ok (.tup [.tup tE,tD]) (G++.lst tE::Z):=by
  rw [nE]
  show (kU [some ld,none,none] G).fn=_
  rw [kU,cQ,S1,fO]
  simp! [eL,e,g0,qg,gx,hzE,z2]
 rw [hr]
 rfl
theorem Se {ma:DS→M D} {τ:DS} {G:DH}:Q4 ma τ G=(ma τ G).bd λd=>match d with
 | .bl b=>M.ret (.bl (!b))
 | _=>M.stop:=aF
theorem Ms {f g:D→D→M D} {ma mb mc:DS→M D} {τ:DS} {G:DH}:zI f g ma mb mc τ G=(ma τ G).bd λx=>(mb τ).bind λy=>(f x y).bind λz=>match z with
 | .bl true=>(mc τ).bind λw=>g y w
 | .bl false=>M.ret (.bl false)
 | _=>M.stop:=aF
theorem JC {g:tK} {body:MS} {xs:List D} {τ:DS} {G:DH}:tM g body (uG xs) (xs.length+1) 0 τ G=fE g body (xs.mapIdx λi x=>.tup [.int i,x]) τ G:=by
 have:=pI (g:=g) (body:=body) (xs:=xs.mapIdx λi x=>D.tup [.int i,x]) (vw:=uG xs) (λG i h=>by
  simp only [List.length_mapIdx] at h
  simp only [uG,if_pos h,List.getElem?_mapIdx]) (xs.length+1) 0 τ G (by simp) (by simp)
 simpa using this
noncomputable def kD (ks:List Nat):List (Key×D):=ks.map λk:Nat=>((Sum.inl (k:Int),.bl true):Key×D)
theorem Pu (k:Nat):∀ (ks:List Nat),(∀ x∈ks,x≠k)→Ad (kD ks) (Sum.inl (k:Int))=none
 | [],_=>rfl
 | x::ks,h=>by
  have ih:=Pu k ks λy hy=>h y (by simp [hy])
  have hx:¬ ((Sum.inl (x:Int):Key)=Sum.inl (k:Int)):=λe=>h x (by simp) (by injection e with e;nofun)
  unfold Ad kD at ih ⊢
  rw [List.map_cons,List.find?_cons,decide_eq_false hx]
  exact ih
theorem Sf (k:Nat) (ks:List Nat) (h:∀ x∈ks,x≠k):vF (kD ks) (Sum.inl (k:Int)) (.bl true)=kD (ks++[k]):=by
 have ha:¬ (((kD ks).any λkv=>decide (kv.1=(Sum.inl (k:Int):Key)))=true):=by
  intro e
  obtain ⟨q,hq,e2⟩:=List.any_eq_true.mp e
  obtain ⟨x,hx,rfl⟩:=List.mem_map.mp hq
  have e3:=of_decide_eq_true e2
  injection e3 with e4
  exact h x hx (by nofun)
 unfold vF
 rw [if_neg ha]
 simp [kD]
noncomputable def Mt (R:List D) (a:Nat) (E:List D):Prop:=∃ P S,R=P++(E++S)∧P.length=a
theorem Mt.left {R E F:List D} {a:Nat} (h:Mt R a (E++F)):Mt R a E:=by
 obtain ⟨P,S,e,l⟩:=h
 exact ⟨P,F++S,by rw [e];simp,l⟩
theorem Mt.right {R E F:List D} {a b:Nat} (h:Mt R a (E++F)) (hb:a+E.length=b):Mt R b F:=by
 obtain ⟨P,S,e,l⟩:=h
 exact ⟨P++E,S,by rw [e];simp,by rw [List.length_append];nofun⟩
theorem Mt.last {R E:List D} {x:D} {a b:Nat} (h:Mt R a (E++[x])) (hb:a+E.length=b):R[b]?=some x:=by
 obtain ⟨P,S,e,l⟩:=h.right hb
 rw [e,← l]
 simp
theorem Mu (k m:Nat) (h:k<m) (G:DH):dY [.int (k:Int),.int (m:Int)] G=.ok (.bl true) G:=by
 have h1:(0:Int)≤(k:Int):=by nofun
 have h2:(k:Int)<(m:Int):=by nofun
 unfold dY
 refine dw ?_ rfl
 simp! [iX,Se,Ms,XS,JK,h1,h2]
theorem ne_str (g:Str) (G:DH) (hg:PyData.strOk g=true):mq true (.str g) (.str g) G=.ok (.bl false) G:=by
 rw [zb true g g G hg hg];simp
noncomputable def WalkL (r:List D→M D) (R:List D) (l:Lk):Prop:=∀ (a:Nat) (ks:List Nat) (A B:DH),Mt R a (l.tE a)→(∀ k∈ks,k<a∨a+l.rn≤k)→ks.length+l.rn≤4000→∃ more:List Nat,more.length=l.rn∧(∀ k∈more,a≤k∧k<a+l.rn) ∧
 r [.tup R,l.tD a,l.D,.obj A.length] (A++.dct (kD ks)::B)=.ok (.bl true) (A++.dct (kD (ks++more))::B)
theorem Mv (Pw r:List D→M D) (R:List D) (g:Str) (hg:PyData.strOk g=true) (t u nx:D) (n j:Nat) (ks ks':List Nat) (A B:DH) (a2 a6:Option D) (hR:R[n]?=some (.tup [.str g,t,nx])) (hn:∀ k∈ks,k≠n) (hz:ks.length≤4000)
  (hr:r [.tup R,t,u,.obj A.length] (A++.dct (kD (ks++[n]))::B)=.ok (.bl true) (A++.dct (kD ks')::B)) :
  fU Pw r [some (.tup R),some (.int (n:Int)),a2,some (.obj A.length),some (.int (j:Int)),some (.tup [.str g,u]),a6] (A++.dct (kD ks)::B) =
   .nx [some (.tup R),some nx,a2,some (.obj A.length),some (.int (j:Int)),some (.tup [.str g,u]),some (.tup [.str g,t,nx])] (A++.dct (kD ks')::B):=by
 have hlt:n<R.length:=(List.getElem?_eq_some_iff.mp hR).1
 have en:=Mu n R.length hlt
 have g0:∀ x Y,(A++x::Y)[A.length]?=some x:=λx Y=>Dp A x Y
 have s0:∀ x z Y,(A++x::Y).set A.length z=A++z::Y:=λx z Y=>K3 A x z Y
 have hat:pX R (n:Int)=some (.tup [.str g,t,nx]):=yV hR
 have hv:=Pu n ks hn
 have hp:=Sf n ks hn
 have hzk:(kD ks).length<sizeLine:=Nat.lt_of_lt_of_le (by unfold kD;rw [List.length_map];nofun) (lz (n:=6000) (by nofun))
 have hne:=λG=>ne_str g G hg
 have e0:pX [D.str g,t,nx] 0=some (.str g):=rfl
 have e1:pX [D.str g,t,nx] 1=some t:=rfl
 have e2:pX [D.str g,t,nx] 2=some nx:=rfl
 have S1:(p8 (zC (tS (mj tH (bL 2 dY (af (ai 1) (af (au gj (af (ai 0) (aq))) (aq)))))) (kK (aE LW (ai 1) (ai 3)))) (fC (eC (.bl false))) (eg)) [some (.tup R),some (.int (n:Int)),a2,some (.obj A.length),some (.int (j:Int)),some (.tup [.str g,u]),a6] (A++.dct (kD ks)::B)=.nx [some (.tup R),some (.int (n:Int)),a2,some (.obj A.length),some (.int (j:Int)),some (.tup [.str g,u]),a6] (A++.dct (kD ks)::B):=by
  simp! [en,LW,sr,g0,Ac,hv]
 have S2:(ya (eC (.bl true)) (ai 3) (ai 1)) [some (.tup R),some (.int (n:Int)),a2,some (.obj A.length),some (.int (j:Int)),some (.tup [.str g,u]),a6] (A++.dct (kD ks)::B)=.nx [some (.tup R),some (.int (n:Int)),a2,some (.obj A.length),some (.int (j:Int)),some (.tup [.str g,u]),a6] (A++.dct (kD (ks++[n]))::B):=by
  simp! [Eg,Ac,g0,s0,hzk,hp]
 rw [fU,cQ,S1,fO,cQ,S2,fO]
 generalize kD (ks++[n])=k1 at hr
 generalize kD ks'=k2 at hr
 simp! [hat,e0,e1,e2,Fc,Ov,cB,hne,hr]
noncomputable def eD (j:Nat) (xs:List D):List D:=xs.mapIdx λi x=>.tup [.int ((i+j:Nat):Int),x]
theorem Ij (j:Nat) (x:D) (xs:List D):eD j (x::xs)=.tup [.int (j:Int),x]::eD (j+1) xs:=by
 unfold eD
 rw [List.mapIdx_cons]
 congr 1
 ·simp
 ·congr 1
  funext i x
  rw [show i+1+j=i+(j+1) by nofun]
theorem E7 (Pw r:List D→M D) (R:List D) (A B:DH) (a2:Option D):∀ (w:Wy),(∀ l∈w.ps.map (·.2),WalkL r R l)→w.Ok→∀ (a c j:Nat) (ks:List Nat) (a4 a5 a6:Option D),Mt R a (w.tE a)→Mt R c (ly w.ps (Bm (w.ps.map (·.2)) a) c)→a+w.rn≤c →
  (∀ k∈ks,(k<a∨a+w.rn≤k)∧(k<c∨c+w.len≤k))→ks.length+(w.rn+w.len)≤4000→∃ (more:List Nat) (b4 b5 b6:Option D),more.length=w.rn+w.len∧(∀ k∈more,(a≤k∧k<a+w.rn)∨(c≤k∧k<c+w.len)) ∧
   fE (gP 4 5) (fU Pw r) (eD j w.Ds) [some (.tup R),some (lZ w.ps c),a2,some (.obj A.length),a4,a5,a6] (A++.dct (kD ks)::B) =
    .nx [some (.tup R),some .i9,a2,some (.obj A.length),b4,b5,b6] (A++.dct (kD (ks++more))::B)
 | .nil,_,_,a,c,j,ks,a4,a5,a6,_,_,_,_,_=>⟨[],a4,a5,a6,rfl,by simp,by rw [Wy.Ds,List.append_nil];exact jX⟩
 | .cons g l w,hw,ho,a,c,j,ks,a4,a5,a6,h1,h2,hac,hk,hz=>by
  rw [Wy.Ok] at ho
  rw [Wy.tE] at h1
  rw [Wy.rn] at hac hk
  rw [Wy.len] at hk
  rw [Wy.rn,Wy.len] at hz
  have hpl:=GJ w
  have aeY:=Dl l
  have hrl:=wO l
  have hrw:=GK w
  have e2:ly (Wy.cons g l w).ps (Bm ((Wy.cons g l w).ps.map (·.2)) a) c=ly w.ps (Bm (w.ps.map (·.2)) a) c++[.tup [.str g,l.tD (a+w.rn),lZ w.ps c]]:=by
   rw [Wy.ps,List.map_cons,Bm,ly,← Wb]
  rw [e2] at h2
  have hal:(ly w.ps (Bm (w.ps.map (·.2)) a) c).length=w.len:=by rw [wN _ _ _ (by rw [wM,List.length_map]),hpl]
  have ZA:=h2.last (b:=c+w.len) (by nofun)
  have Sg:=h1.right (b:=a+w.rn) (by rw [zh])
  have hn:lZ (Wy.cons g l w).ps c=.int ((c+w.len:Nat):Int):=by rw [Wy.ps,lZ,hpl]
  obtain ⟨m1,l1,r1,e1⟩:=hw l (by simp [Wy.ps]) (a+w.rn) (ks++[c+w.len]) A B Sg (λk hkk=>by
   rcases List.mem_append.mp hkk with hm | hm
   ·have:=(hk k hm).1;nofun
   ·have:=List.mem_singleton.mp hm;nofun) (by simp;nofun)
  obtain ⟨m2,b4,b5,b6,l2,r2,e3⟩:=E7 Pw r R A B a2 w (λx hx=>hw x (by simp only [Wy.ps,List.map_cons,List.mem_cons];exact .inr hx)) ho.2.2 a c (j+1) (ks++[c+w.len]++m1) (some (.int (j:Int))) (some (.tup [.str g,l.D])) (some (.tup [.str g,l.tD (a+w.rn),lZ w.ps c])) h1.left h2.left (by nofun) (λk hkk=>by
   rcases List.mem_append.mp hkk with hm | hm
   ·rcases List.mem_append.mp hm with hm | hm
    ·have:=hk k hm;nofun
    ·have:=List.mem_singleton.mp hm;nofun
   ·have:=r1 k hm;nofun) (by simp;nofun)
  have et:=Mv Pw r R g ho.1 (l.tD (a+w.rn)) l.D (lZ w.ps c) (c+w.len) j ks (ks++[c+w.len]++m1) A B a2 a6 ZA (λk hkk=>by have:=(hk k hkk).2;nofun) (by nofun) e1
  refine ⟨[c+w.len]++m1++m2,b4,b5,b6,by simp [Wy.rn,Wy.len,l1,l2];nofun,λk hkk=>?_,?_⟩
  ·rw [Wy.rn,Wy.len]
   simp only [List.mem_append,List.mem_singleton] at hkk
   rcases hkk with (rfl | hm) | hm
   ·nofun
   ·have:=r1 k hm;nofun
   ·have:=r2 k hm;nofun
  ·rw [Wy.Ds,Ij,hn,fP (τ1:=[some (.tup R),some (.int ((c+w.len:Nat):Int)),a2,some (.obj A.length),some (.int (j:Int)),some (.tup [.str g,l.D]),a6]) rfl,et,mT,e3]
   simp
theorem ZC (s:Str) (ws:List Str) (G:DH) (hs:PyData.strOk s=true) (hw:PyData.canLayAll0 (ws.map PyData.str)=true) {b:Bool} (h:ws.any (·==s)=b):BC false (.str s) (.con (ws.map .str)) G=.ok (.bl b) G:=by
 have hk:=zW s ws G hs hw
 rw [h] at hk
 simp [BC,bw,hk]
theorem ZD (s:Str) (G:DH) (hs:PyData.strOk s=true) {b:Bool} (h:(["both","either"]:List Str).any (·==s)=b):BC false (.str s) (.con [.str "both",.str "either"]) G=.ok (.bl b) G:=ZC s ["both","either"] G hs (by symm) h
theorem Wd (m:Bool) (G:DH):mq false (.str (Dk m)) (.str "not") G=.ok (.bl false) G:=eqs _ _ G (sR m) nT (by cases m<;>symm)
theorem Sh (G:DH):mq false (.str "kind") (.str "not") G=.ok (.bl false) G:=eqs _ _ G oM nT (by symm)
theorem We (G:DH):mq false (.str "not") (.str "not") G=.ok (.bl true) G:=eqs _ _ G nT nT (by symm)
theorem Wf (e:Bool) (G:DH):mq false (.str (yT e)) (.str "not") G=.ok (.bl false) G:=eqs _ _ G (qX e) nT (by cases e<;>symm)
theorem Wg (m:Bool) (G:DH):BC false (.str (Dk m)) (.con [.str "both",.str "either"]) G=.ok (.bl false) G:=ZD _ G (sR m) (by cases m<;>symm)
theorem Si (G:DH):BC false (.str "kind") (.con [.str "both",.str "either"]) G=.ok (.bl false) G:=ZD _ G oM (by symm)
theorem Wh (e:Bool) (G:DH):BC false (.str (yT e)) (.con [.str "both",.str "either"]) G=.ok (.bl true) G:=ZD _ G (qX e) (by cases e<;>symm)
theorem Ik:PyData.strOk ("from":Str)=true:=by symm
theorem Sj (G:DH):mq false (.str "from") (.str "from") G=.ok (.bl true) G:=eqs _ _ G Ik Ik (by symm)
theorem mk2 (G:DH):(bU [.str "both",.str "either"] G).fw G=.ok (.con [.str "both",.str "either"]) G:=fZ (lz (n:=2) (by nofun)) rfl
theorem a31 {a b c:D}:pX [a,b,c] 1=some b:=rfl
theorem a32 {a b c:D}:pX [a,b,c] 2=some c:=rfl
theorem Cb (Pw r:List D→M D) (l:Lk) (hl:l.rn=0) (ht:∀ a,l.tD a=l.D) (R:List D) (hr:∀ (A B:DH) (ks:List Nat),dR 4 (cM Pw r) [.tup R,l.D,l.D,.obj A.length] (A++.dct (kD ks)::B)=.ok (.bl true) (A++.dct (kD ks)::B)):WalkL (λds=>dR 4 (cM Pw r) ds) R l:=by
 intro a ks A B _ _ _
 refine ⟨[],hl.symm,by simp,?_⟩
 rw [ht,List.append_nil]
 exact hr A B ks
theorem pT (R:List D):∀ (n:Nat) (l:Lk),2*l.dep≤n→l.Ok→WalkL (aO n) R l
 | 0,l,h,_=>by cases l<;>(rw [Lk.dep] at h;nofun)
 | 1,l,h,_=>by cases l<;>(rw [Lk.dep] at h;nofun)
 | n+2,l,h,ho=>by
  have eM:aO (n+2)=λds=>dR 4 (cM (aQ (n+1)) (aO (n+1))) ds:=by
   funext ds;rw [aO]
  rw [eM]
  cases l with
  | one m=>
   refine Cb _ _ _ (by rw [Lk.rn]) (λa=>by rw [Lk.tD,Lk.D]) R λA B ks=>?_
   have hq:=λG=>Eo false (.tup [.str (Dk m)]) G (by simp [D.plain,gX,sR]) (by simp [D.dp,Em])
   have hne:=λG=>ne_str (Dk m) G (sR m)
   simp! [cM,Lk.D,SR,Ib,cB,hne,Wd,dS,mk2,Wg,hq]
  | kind s=>
   rw [Lk.Ok] at ho
   refine Cb _ _ _ (by rw [Lk.rn]) (λa=>by rw [Lk.tD,Lk.D]) R λA B ks=>?_
   have hq:=λG=>Eo false (.tup [.str "kind",.str s]) G (by simp [D.plain,gX,oM,ho]) (by simp [D.dp,Em])
   have hne:=λG=>ne_str "kind" G oM
   simp! [cM,Lk.D,Fc,Dm,cB,hne,Sh,dS,mk2,Si,hq]
  | not l=>
   rw [Lk.Ok] at ho
   rw [Lk.dep] at h
   intro a ks A B h1 h2 h3
   rw [Lk.tE] at h1
   rw [Lk.rn] at h2 h3
   obtain ⟨more,l1,r1,e1⟩:=pT R (n+1) l (by nofun) ho a ks A B h1 h2 h3
   refine ⟨more,by rw [Lk.rn];exact l1,by rw [Lk.rn];exact r1,?_⟩
   have hne:=λG=>ne_str "not" G nT
   rw [Lk.tD,Lk.D]
   generalize l.tD a=t at e1
   generalize l.D=ld at e1
   generalize kD ks=k1 at e1
   generalize kD (ks++more)=k2 at e1
   simp! [cM,Fc,Ov,Ic,cB,hne,We,e1]
  | bin e l r=>
   rw [Lk.Ok] at ho
   rw [Lk.dep] at h
   intro a ks A B h1 h2 h3
   rw [Lk.tE] at h1
   rw [Lk.rn] at h2 h3
   obtain ⟨m1,l1,r1,e1⟩:=pT R (n+1) l (by nofun) ho.1 (a+r.rn) ks A B (h1.right (by rw [qY])) (λk hk=>by have:=h2 k hk;nofun) (by nofun)
   obtain ⟨m2,l2,r2,e2⟩:=pT R (n+1) r (by nofun) ho.2 a (ks++m1) A B h1.left (λk hk=>by
    rcases List.mem_append.mp hk with hk | hk
    ·have:=h2 k hk;nofun
    ·have:=r1 k hk;nofun) (by simp;nofun)
   refine ⟨m1++m2,by rw [Lk.rn,List.length_append];nofun,λk hk=>?_,?_⟩
   ·rw [Lk.rn]
    rcases List.mem_append.mp hk with hk | hk
    ·have:=r1 k hk;nofun
    ·have:=r2 k hk;nofun
   have hne:=λG=>ne_str (yT e) G (qX e)
   rw [← List.append_assoc]
   rw [Lk.tD,Lk.D]
   generalize l.tD (a+r.rn)=t1 at e1
   generalize r.tD a=t2 at e2
   generalize l.D=ld at e1
   generalize r.D=rd at e2
   generalize kD ks=k1 at e1
   generalize kD (ks++m1)=k2 at e1 e2
   generalize kD (ks++m1++m2)=k3 at e2
   simp! [cM,W7,a31,a32,Ie,cB,hne,Wf,dS,mk2,Wh,e1,e2]
  | way w=>
   rw [Lk.Ok] at ho
   rw [Lk.dep] at h
   intro a ks A B h1 h2 h3
   rw [Lk.tE] at h1
   rw [Lk.rn] at h2 h3
   have hall:∀ l∈w.ps.map (·.2),WalkL (aO n) R l:=by
    have key:∀ w:Wy,2*w.dep≤n→w.Ok→∀ l∈w.ps.map (·.2),2*l.dep≤n∧l.Ok:=by
     intro w
     induction w using Wy.rec (motive_1:=λ_=>True) with
     | nil=>intro _ _ l hl;simp [Wy.ps] at hl
     | cons g l w _ ih=>
      intro hd hO x hx
      rw [Wy.dep] at hd
      rw [Wy.Ok] at hO
      rw [Wy.ps,List.map_cons] at hx
      rcases List.mem_cons.mp hx with rfl | hx
      ·exact ⟨by nofun,hO.2.1⟩
      ·exact ih (by nofun) hO.2.2 x hx
     | _=>trivial
    intro l hl
    have:=key w (by nofun) ho l hl
    exact pT R n l this.1 this.2
   obtain ⟨more,b4,b5,b6,l1,r1,e1⟩:=E7 (aQ n) (aO n) R A B (some (.tup w.Ds)) w hall ho a (a+w.rn) 0 ks none none none h1.left (h1.right (by rw [zh])) (Nat.le_refl _) (λk hk=>by have:=h2 k hk;nofun) (by nofun)
   refine ⟨more,by rw [Lk.rn];exact l1,λk hk=>by rw [Lk.rn];have:=r1 k hk;nofun,?_⟩
   have ee:eD 0 w.Ds=w.Ds.mapIdx λi x=>D.tup [.int (i:Int),x]:=rfl
   rw [ee] at e1
   have hfe:=λτ G=>JC (g:=gP 4 5) (body:=fU (aQ n) (aO n)) (xs:=w.Ds) (τ:=τ) (G:=G)
   have ew:aQ (n+1) [.tup R,lZ w.ps (a+w.rn),.tup w.Ds,.obj A.length] (A++.dct (kD ks)::B)=.ok (.bl true) (A++.dct (kD (ks++more))::B):=by
    rw [aQ]
    generalize lZ w.ps (a+w.rn)=nu at e1
    generalize (w.Ds.mapIdx λi x=>D.tup [.int (i:Int),x])=xs at e1 hfe
    generalize w.Ds=ws at e1 hfe
    generalize kD ks=k1 at e1
    generalize kD (ks++more)=k2 at e1
    simp! [gq,hfe,e1,QY]
   rw [Lk.tD,Lk.D]
   generalize lZ w.ps (a+w.rn)=nu at ew
   generalize w.Ds=ws at ew
   generalize kD ks=k1 at ew
   generalize kD (ks++more)=k2 at ew
   simp! [cM,Fc,Ov,Mg,cB,Sj,ew]
theorem Mw (l:Lk) (ho:l.Ok) (hz:l.sz≤900) (hd:l.dep≤30) (G:DH) (hG:G.any (vJ "table_of")=true):j5 [l.D] G=.ok (.bl true) G:=by
 have et:=Mr l hz G hG
 have Zz:=wO l
 obtain ⟨more,l1,r1,e1⟩:=pT (l.tE 0) 60 l (by nofun) ho 0 [] G [] ⟨[],[],by simp,rfl⟩ (by simp) (by simp;nofun)
 have hlen:=qY l 0
 have Sx:(kD ([]++more)).length=(l.tE 0).length:=by unfold kD;rw [List.length_map,List.nil_append,hlen,l1]
 have e0:kD []=[]:=rfl
 rw [e0] at e1
 have g0:∀ x Y,(G++x::Y)[G.length]?=some x:=λx Y=>Dp G x Y
 unfold j5
 refine mZ (R:=[.dct (kD ([]++more))]) ?_ rfl
 generalize kD ([]++more)=k1 at e1 Sx
 generalize l.tD 0=tD at et e1
 generalize l.tE 0=tE at et e1 Sx
 generalize l.D=ld at et e1
 simp! [ng,et,Fc,Ov,cB,e1,EC,sr,g0,Sx]
structure Qt where
 l:Lk
 b:Int
 s:Int
 d:Int
noncomputable def Qt.D (q:Qt):L3.D:=.tup [q.l.D,.int q.b,.int q.s,.int q.d]
noncomputable def Qt.Ok (q:Qt):Prop:=q.l.Ok∧(q.l.sz:Int)≤q.s∧(q.l.dep:Int)≤q.d∧q.s≤40∧q.d≤12
theorem AM (q:Qt):q.D.closed=true:=by simp [Qt.D,D.closed,aJ,aP,x8]
theorem Px {a b c d:D}:pX [a,b,c,d] 0=some a:=rfl
theorem SV {a b c d:D}:pX [a,b,c,d] 1=some b:=rfl
theorem Sk {a b c d:D}:pX [a,b,c,d] 2=some c:=rfl
theorem Sl {a b c d:D}:pX [a,b,c,d] 3=some d:=rfl
theorem Cc {g:tK} {body:MS} {xs:List D} {τ:DS} {G:DH}:tM g body (tX (.con xs)) (xs.length+1) 0 τ G=fE g body (xs.mapIdx λi x=>.tup [.int i,x]) τ G:=by
 have:=pI (g:=g) (body:=body) (xs:=xs.mapIdx λi x=>D.tup [.int i,x]) (vw:=tX (.con xs)) (λG i h=>by
  simp only [List.length_mapIdx] at h
  simp only [tX,bw,if_pos h,List.getElem?_mapIdx]) (xs.length+1) 0 τ G (by simp) (by simp)
 simpa using this
theorem ZE (i j:Int) (G:DH):UY (.int i) (.int j) G=.ok (.int (Builtin.bitOr i j)) G:=rfl
theorem OD (i j:Int) (G:DH):LM (.int i) (.int j) G=.ok (.int (Builtin.bitAnd i j)) G:=rfl
theorem ZF (i j:Int) (G:DH):Og (.int i) (.int j) G=.ok (.int (Builtin.bitXor i j)) G:=rfl
theorem ZG (b:Bool) (G:DH):Ez (.int (if b then 1 else 0)) (.int 0) G=.ok (.int (if b then 1 else 0)) G:=by
 cases b<;>rfl
theorem Wi (G:DH):Ez (.int 1) (.int 0) G=.ok (.int 1) G:=rfl
theorem Py (G:DH):Ez (.int 1) (.int 1) G=.ok (.int 2) G:=rfl
theorem OE (c:Int) (ws:List Str) (h5:ws.length=5) (hw:∀ s∈ws,PyData.strOk s=true) (n0:Str) (hn:PyData.strOk n0=true) (sp:Int) (G:DH):∃ q:Qt,q.Ok∧iO [.int c,.con (ws.map .str),.con [.tup [.int 0,.str n0]],.int sp] G=.ok q.D G:=by
 have hm:=lq c 10 (by nofun) (by nofun)
 have hm2:=lq c 14 (by nofun) (by nofun)
 have hn1:=HV c 10
 have z1:(1:Nat)≤sizeLine:=lz (by nofun)
 have z2:(2:Nat)≤sizeLine:=lz (by nofun)
 have z4:(4:Nat)≤sizeLine:=lz (by nofun)
 generalize mx c 10=v at hm hn1
 generalize mx c 14=u at hm2
 by_cases c1:v % 5=1
 ·refine ⟨⟨.one true,sp,1,1⟩,⟨by rw [Lk.Ok];trivial,by simp [Lk.sz],by simp [Lk.dep],by show (1:Int)≤40;nofun,by show (1:Int)≤12;nofun⟩,?_⟩
  have eD:(Qt.mk (.one true) sp 1 1).D=.tup [.tup [.str "mark"],.int sp,.int 1,.int 1]:=rfl
  unfold iO
  refine dw ?_ (AM _)
  rw [eD]
  generalize D.con (ws.map .str)=wD
  simp! [jG,hm,c1,cB,z1,z4]
 by_cases c0:v % 5=0
 ·refine ⟨⟨.one false,2 - 1,1,1⟩,⟨by rw [Lk.Ok];trivial,by simp [Lk.sz],by simp [Lk.dep],by show (1:Int)≤40;nofun,by show (1:Int)≤12;nofun⟩,?_⟩
  have eD:(Qt.mk (.one false) (2 - 1) 1 1).D=.tup [.tup [.str "any"],.int (2 - 1),.int 1,.int 1]:=rfl
  unfold iO
  refine dw ?_ (AM _)
  rw [eD]
  generalize D.con (ws.map .str)=wD
  have n1:((0:Int)==1)=false:=by decide
  simp! [jG,hm,c0,cB,n1,z1,z4,Py]
 ·have hu:0≤u % 5∧u % 5<5:=by nofun
  obtain ⟨x,hx,SJ⟩:=vA (xs:=ws.map D.str) hu.1 (by simp [h5];nofun)
  rw [List.getElem?_map] at SJ
  cases hg:ws[(u % 5).toNat]? with
  | none=>rw [hg] at SJ;cases SJ
  | some k=>
   rw [hg] at SJ;cases SJ
   have hk:=hw k (List.mem_of_getElem? hg)
   refine ⟨⟨.kind k,Builtin.bitOr 0 (if (n0==k) then 1 else 0),1,1⟩,⟨by rw [Lk.Ok];exact hk,by simp [Lk.sz],by simp [Lk.dep],by show (1:Int)≤40;nofun,by show (1:Int)≤12;nofun⟩,?_⟩
   have eD:(Qt.mk (.kind k) (Builtin.bitOr 0 (if (n0==k) then 1 else 0)) 1 1).D=.tup [.tup [.str "kind",.str k],.int (Builtin.bitOr 0 (if (n0==k) then 1 else 0)),.int 1,.int 1]:=rfl
   unfold iO
   refine dw ?_ (AM _)
   rw [eD]
   have n1:(v % 5==(1:Int))=false:=beq_eq_false_iff_ne.mpr c1
   have ZH:(v % 5==(0:Int))=false:=beq_eq_false_iff_ne.mpr c0
   have hq:=λG=>zb false n0 k G hn hk
   simp only [Bool.false_xor] at hq
   generalize (n0==k)=bb at hq
   have sh:=λG=>ZG bb G
   have hi:∀ G,vp [.bl bb] G=.ok (.int (if bb=true then (1:Int) else 0)) G:=λG=>rfl
   generalize (if bb=true then (1:Int) else 0)=ib at sh hi ⊢
   generalize ws.map D.str=wD at hx
   have eT:j3 [some (.int c),some (.con wD),some (.con [.tup [.int 0,.str n0]]),some (.int sp),some (.str k),some (.int 0),some (.int 0),some (.tup [.int 0,.str n0])] G=.nx [some (.int c),some (.con wD),some (.con [.tup [.int 0,.str n0]]),some (.int sp),some (.str k),some (.int (Builtin.bitOr 0 ib)),some (.int 0),some (.tup [.int 0,.str n0])] G:=by
    unfold j3
    simp! [Ov,hq,hi,sh,ZE]
   have eL:tM (gP 6 7) j3 (tX (.con [.tup [.int 0,.str n0]])) 2 0 [some (.int c),some (.con wD),some (.con [.tup [.int 0,.str n0]]),some (.int sp),some (.str k),some (.int 0),none,none] G=.nx [some (.int c),some (.con wD),some (.con [.tup [.int 0,.str n0]]),some (.int sp),some (.str k),some (.int (Builtin.bitOr 0 ib)),some (.int 0),some (.tup [.int 0,.str n0])] G:=by
    have hfe:=Cc (g:=gP 6 7) (body:=j3) (xs:=[.tup [.int 0,.str n0]]) (τ:=[some (.int c),some (.con wD),some (.con [.tup [.int 0,.str n0]]),some (.int sp),some (.str k),some (.int 0),none,none]) (G:=G)
    refine hfe.trans ?_
    have e1:([D.tup [.int 0,.str n0]].mapIdx λi x=>D.tup [.int (i:Int),x])=[.tup [.int 0,.tup [.int 0,.str n0]]]:=rfl
    rw [e1,fP (τ1:=[some (.int c),some (.con wD),some (.con [.tup [.int 0,.str n0]]),some (.int sp),some (.str k),some (.int 0),some (.int 0),some (.tup [.int 0,.str n0])]) rfl,eT,mT,jX]
   unfold jG
   simp! [hm,hm2,n1,ZH,cB,hx,eL,z2,z4]
theorem JD (x:Int) (G:DH):∃ y:Int,lC [.con [.int 0],.int x] G=.ok (.int y) G:=by
 have key:∃ y:Int,iN [some (.con [.int 0]),some (.int x),some (.int 0),some (.int 0),some (.int 0)] G=.nx [some (.con [.int 0]),some (.int x),some (.int y),some (.int 0),some (.int 0)] G:=by
  unfold iN
  by_cases h:Builtin.bitAnd 0 x=0
  ·refine ⟨0,?_⟩
   simp! [OD,h,cB]
  ·have hb:(Builtin.bitAnd 0 x==0)=false:=beq_eq_false_iff_ne.mpr h
   refine ⟨Builtin.bitOr 0 1,?_⟩
   simp! [OD,hb,cB,ZE,Wi]
 obtain ⟨y,e⟩:=key
 refine ⟨y,dw ?_ fj⟩
 have eL:tM (gP 3 4) iN (tX (.con [.int 0])) 2 0 [some (.con [.int 0]),some (.int x),some (.int 0),none,none] G=.nx [some (.con [.int 0]),some (.int x),some (.int y),some (.int 0),some (.int 0)] G:=by
  have hfe:=Cc (g:=gP 3 4) (body:=iN) (xs:=[.int 0]) (τ:=[some (.con [.int 0]),some (.int x),some (.int 0),none,none]) (G:=G)
  refine hfe.trans ?_
  have e1:([D.int 0].mapIdx λi x=>D.tup [.int (i:Int),x])=[.tup [.int 0,.int 0]]:=rfl
  rw [e1,fP (τ1:=[some (.con [.int 0]),some (.int x),some (.int 0),some (.int 0),some (.int 0)]) rfl,e,mT,jX]
 unfold lB
 simp! [eL]
theorem Pz (G:DH):(bU [.int 1,.int 2,.int 3,.int 1,.int 2,.int 3,.int 2,.int 7] G).fw G=.ok (.con [.int 1,.int 2,.int 3,.int 1,.int 2,.int 3,.int 2,.int 7]) G:=fZ (lz (n:=8) (by nofun)) rfl
theorem Il (c:Int) (A B:DH) (xs:List D) (hx:1≤xs.length) (hz:xs.length≤1000):∃ m:Nat,1≤m∧m≤xs.length∧m≤7∧iQ [.obj A.length,.int c] (A++.lst xs::B)=.ok (.int (m:Int)) (A++.lst xs::B):=by
 have hm:=lq c 15 (by nofun) (by nofun)
 generalize mx c 15=v at hm
 have hv:0≤v % 8∧v % 8<8:=by nofun
 obtain ⟨d,e1,e2⟩:=vA (xs:=[D.int 1,.int 2,.int 3,.int 1,.int 2,.int 3,.int 2,.int 7]) hv.1 (by simpa using hv.2)
 have hd:∃ k:Nat,d=.int (k:Int)∧1≤k∧k≤7:=by
  have hmem:=List.mem_of_getElem? e2
  simp only [List.mem_cons,List.not_mem_nil,or_false] at hmem
  rcases hmem with rfl | rfl | rfl | rfl | rfl | rfl | rfl | rfl
  ·exact ⟨1,rfl,by nofun,by nofun⟩
  ·exact ⟨2,rfl,by nofun,by nofun⟩
  ·exact ⟨3,rfl,by nofun,by nofun⟩
  ·exact ⟨1,rfl,by nofun,by nofun⟩
  ·exact ⟨2,rfl,by nofun,by nofun⟩
  ·exact ⟨3,rfl,by nofun,by nofun⟩
  ·exact ⟨2,rfl,by nofun,by nofun⟩
  ·exact ⟨7,rfl,by nofun,by nofun⟩
 obtain ⟨k,rfl,k1,k7⟩:=hd
 have g0:∀ x Y,(A++x::Y)[A.length]?=some x:=λx Y=>Dp A x Y
 refine ⟨if k<xs.length then k else xs.length,by split<;>nofun,by split<;>nofun,by split<;>nofun,dw ?_ fj⟩
 have Fb:xs.length≤sizeLine:=lz (by nofun)
 by_cases hk:k<xs.length
 ·have hk':(k:Int)<(xs.length:Int):=by nofun
  simp! [lR,g0,Fb,hm,dS,Pz,e1,hk,hk']
 ·have hk':¬ (k:Int)<(xs.length:Int):=by nofun
  simp! [lR,g0,Fb,hm,dS,Pz,e1,hk,hk']
theorem ZI (xs:List D) (x:D):pX (xs++[x]) (-1)=some x:=by
 have e:J7 (xs++[x]).length (-1)=some xs.length:=by
  unfold J7
  rw [if_neg (by nofun),if_pos (by simp;nofun)]
  simp;nofun
 unfold pX
 rw [e]
 simp
theorem ZJ (xs:List D) (x y:D):pX (xs++[x,y]) (-2)=some x:=by
 have e:J7 (xs++[x,y]).length (-2)=some xs.length:=by
  unfold J7
  rw [if_neg (by nofun),if_pos (by simp;nofun)]
  simp;nofun
 unfold pX
 rw [e]
 simp
theorem Im (q:Qt) (G:DH):(bU [q.D] G).fw G=.ok (.con [q.D]) G:=fZ (lz (n:=1) (by nofun)) (by simp [aJ,aP,AM])
theorem AN (G:DH):(bU [] G).fw G=.ok (.con []) G:=fZ (Nat.zero_le _) rfl
theorem ZK (τ:DS) (G:DH):zH (eC (.int 1)) τ G=.ok (.int (-1)) G:=rfl
theorem W9 (τ:DS) (G:DH):zH (eC (.int 2)) τ G=.ok (.int (-2)) G:=rfl
theorem JE (c ev:Int) (A B:DH) (yz:List Qt) (q1:Qt) (hq:∀ q∈yz++[q1],q.Ok) (hz:yz.length≤1000):∃ rs:List Qt,rs.length≤1∧(∀ q∈rs,q.Ok) ∧
  eB [.obj A.length,.int c,.int ev] (A++.lst ((yz++[q1]).map Qt.D)::B)=.ok (.con (rs.map Qt.D)) (A++.lst ((yz++[q1]).map Qt.D)::B):=by
 have hm:=lq c 11 (by nofun) (by nofun)
 have hn1:=HV c 11
 generalize mx c 11=v at hm hn1
 have ho1:=hq q1 (by simp)
 have g0:∀ x Y,(A++x::Y)[A.length]?=some x:=λx Y=>Dp A x Y
 have z2:(2:Nat)≤sizeLine:=lz (by nofun)
 have z3:(3:Nat)≤sizeLine:=lz (by nofun)
 have z4:(4:Nat)≤sizeLine:=lz (by nofun)
 have em:(yz++[q1]).map Qt.D=yz.map Qt.D++[.tup [q1.l.D,.int q1.b,.int q1.s,.int q1.d]]:=by simp [Qt.D]
 have hat:=ZI (yz.map Qt.D) (.tup [q1.l.D,.int q1.b,.int q1.s,.int q1.d])
 obtain ⟨w1,w2,w3,w4,w5⟩:=ho1
 have hlen:((yz++[q1]).map Qt.D).length=yz.length+1:=by simp
 have Fb:yz.length+1≤sizeLine:=lz (by nofun)
 rw [← em] at hat
 by_cases hA:v % 6=0∧q1.d<12∧q1.s<40
 ·obtain ⟨h1,h2,h3⟩:=hA
  refine ⟨[⟨.not q1.l,Builtin.bitXor ev q1.b,q1.s+1,q1.d+1⟩],by simp,λq h=>?_,?_⟩
  ·rw [List.mem_singleton.mp h]
   refine ⟨by rw [Lk.Ok];exact w1,?_,?_,?_,?_⟩
   ·show ((Lk.not q1.l).sz:Int)≤q1.s+1;rw [Lk.sz];nofun
   ·show ((Lk.not q1.l).dep:Int)≤q1.d+1;rw [Lk.dep];nofun
   ·show q1.s+1≤40;nofun
   ·show q1.d+1≤12;nofun
  have f:=λG=>Im ⟨.not q1.l,Builtin.bitXor ev q1.b,q1.s+1,q1.d+1⟩ G
  have eD:(Qt.mk (.not q1.l) (Builtin.bitXor ev q1.b) (q1.s+1) (q1.d+1)).D=.tup [.tup [.str "not",q1.l.D],.int (Builtin.bitXor ev q1.b),.int (q1.s+1),.int (q1.d+1)]:=by simp [Qt.D,Lk.D]
  unfold eB
  refine dw ?_ (by rw [gy];exact bz AM)
  rw [List.map_cons,List.map_nil]
  rw [eD] at f ⊢
  generalize (yz++[q1]).map Qt.D=xs at hat hlen
  generalize q1.l.D=ld at f hat
  have hx:=λG=>ZF ev q1.b G
  generalize Builtin.bitXor ev q1.b=bx at f hx
  simp! [cL,hm,h1,g0,ZK,hat,cB,Px,SV,Sk,Sl,h2,h3,hx,z2,z4,dS,f]
 ·have SW:∀ S:MS,(bq (bP 3 (aE lM (bL 2 aK (af (ai 1) (af (eC (.int 11)) (aq)))) (eC (.int 6)))) (bq (bP 4 (aE fB (ai 0) (zH (eC (.int 1))))) S)) [some (.obj A.length),some (.int c),some (.int ev),none,none,none,none,none] (A++.lst ((yz++[q1]).map Qt.D)::B)=S [some (.obj A.length),some (.int c),some (.int ev),some (.int (v % 6)),some (.tup [q1.l.D,.int q1.b,.int q1.s,.int q1.d]),none,none,none] (A++.lst ((yz++[q1]).map Qt.D)::B):=by
   intro S
   generalize (yz++[q1]).map Qt.D=xs at hat hlen
   generalize q1.l.D=ld at hat
   simp! [hm,g0,ZK,hat]
  have SA:(p8 (pB (kK (aE (mq false) (ai 3) (eC (.int 0)))) (pB (kK (aE JK (aE fB (ai 4) (eC (.int 3))) (eC (.int 12)))) (kK (aE JK (aE fB (ai 4) (eC (.int 2))) (eC (.int 40)))))) (fC (eFn (au bU (af (au gx (af (au gx (af (eC (.str "not")) (af (aE fB (ai 4) (eC (.int 0))) (aq)))) (af (aE Og (ai 2) (aE fB (ai 4) (eC (.int 1)))) (af (aE bO (aE fB (ai 4) (eC (.int 2))) (eC (.int 1))) (af (aE bO (aE fB (ai 4) (eC (.int 3))) (eC (.int 1))) (aq)))))) (aq))))) (eg)) [some (.obj A.length),some (.int c),some (.int ev),some (.int (v % 6)),some (.tup [q1.l.D,.int q1.b,.int q1.s,.int q1.d]),none,none,none] (A++.lst ((yz++[q1]).map Qt.D)::B)=.nx [some (.obj A.length),some (.int c),some (.int ev),some (.int (v % 6)),some (.tup [q1.l.D,.int q1.b,.int q1.s,.int q1.d]),none,none,none] (A++.lst ((yz++[q1]).map Qt.D)::B):=by
   generalize (yz++[q1]).map Qt.D=xs at hat hlen
   generalize q1.l.D=ld at hat
   by_cases h1:v % 6=0
   ·by_cases h2:q1.d<12
    ·have h3:¬ q1.s<40:=λh3=>hA ⟨h1,h2,h3⟩
     simp! [h1,cB,Sk,Sl,h2,h3]
    ·simp! [h1,cB,Sk,Sl,h2]
   ·have hb:(v % 6==(0:Int))=false:=beq_eq_false_iff_ne.mpr h1
    simp! [cB,hb]
  by_cases hB:v % 6<3∧1≤yz.length
  ·obtain ⟨Mx,q2,rfl⟩:∃ (Mx:List Qt) (q2:Qt),yz=Mx++[q2]:=⟨yz.dropLast,yz.getLast (by intro h;rw [h] at hB;simp at hB),(List.dropLast_concat_getLast _).symm⟩
   have ho2:=hq q2 (by simp)
   obtain ⟨u1,u2,u3,u4,u5⟩:=ho2
   have em2:(Mx++[q2]++[q1]).map Qt.D=Mx.map Qt.D++[.tup [q2.l.D,.int q2.b,.int q2.s,.int q2.d],.tup [q1.l.D,.int q1.b,.int q1.s,.int q1.d]]:=by simp [Qt.D]
   have wQ:=ZJ (Mx.map Qt.D) (.tup [q2.l.D,.int q2.b,.int q2.s,.int q2.d]) (.tup [q1.l.D,.int q1.b,.int q1.s,.int q1.d])
   rw [← em2] at wQ
   have Xa:=hB.1
   obtain ⟨n,PB,hl1⟩:∃ n:Nat,((Mx++[q2]++[q1]).map Qt.D).length=n∧(1:Int)<(n:Int):=⟨_,rfl,by simp;nofun⟩
   obtain ⟨me,hp1,hp2,Xb⟩:∃ me:Int,q1.d≤me∧q2.d≤me∧(if q1.d<q2.d then q2.d else q1.d)=me:=⟨_,by split<;>nofun,by split<;>nofun,rfl⟩
   have hok:∀ (e:Bool) (b:Int),q1.s+q2.s+1<41→me+1<13→(Qt.mk (.bin e q2.l q1.l) b (q1.s+q2.s+1) (me+1)).Ok:=λe b k1 k2=>by
    refine ⟨by rw [Lk.Ok];exact ⟨u1,w1⟩,?_,?_,?_,?_⟩
    ·show ((Lk.bin e q2.l q1.l).sz:Int)≤q1.s+q2.s+1;rw [Lk.sz];nofun
    ·show ((Lk.bin e q2.l q1.l).dep:Int)≤me+1;rw [Lk.dep];nofun
    ·show q1.s+q2.s+1≤40;nofun
    ·show me+1≤12;nofun
   have hD:∀ (e:Bool) (b:Int),(Qt.mk (.bin e q2.l q1.l) b (q1.s+q2.s+1) (me+1)).D=.tup [.tup [.str (yT e),q2.l.D,q1.l.D],.int b,.int (q1.s+q2.s+1),.int (me+1)]:=λe b=>by simp [Qt.D,Lk.D]
   have bF:yT false="both":=rfl
   have bT:yT true="either":=rfl
   have Xd:n≤sizeLine:=lz (by simp at PB hz;nofun)
   by_cases hC:q1.s+q2.s+1<41∧me+1<13
   ·obtain ⟨k1,k2⟩:=hC
    by_cases hv1:v % 6=1
    ·refine ⟨[⟨.bin false q2.l q1.l,Builtin.bitAnd q2.b q1.b,q1.s+q2.s+1,me+1⟩],by simp,λq h=>by rw [List.mem_singleton.mp h];exact hok _ _ k1 k2,?_⟩
     have f:=λG=>Im ⟨.bin false q2.l q1.l,Builtin.bitAnd q2.b q1.b,q1.s+q2.s+1,me+1⟩ G
     unfold eB
     refine dw ?_ (by rw [gy];exact bz AM)
     rw [nE]
     show (cL [some (.obj A.length),some (.int c),some (.int ev),none,none,none,none,none] _).fn=_
     unfold cL
     rw [SW,cQ,SA,fO,List.map_cons,List.map_nil]
     rw [hD,bF] at f ⊢
     have hx:=λG=>OD q2.b q1.b G
     generalize Builtin.bitAnd q2.b q1.b=bx at f hx
     generalize (Mx++[q2]++[q1]).map Qt.D=xs at wQ PB
     generalize q1.l.D=l1 at f wQ
     generalize q2.l.D=l2 at f wQ
     simp! [iP,g0,PB,Xd,Xa,hl1,W9,wQ,Px,SV,Sk,Sl,Xb,k1,k2,hv1,cB,hx,z3,z4,dS,f]
    ·refine ⟨[⟨.bin true q2.l q1.l,Builtin.bitOr q2.b q1.b,q1.s+q2.s+1,me+1⟩],by simp,λq h=>by rw [List.mem_singleton.mp h];exact hok _ _ k1 k2,?_⟩
     have f:=λG=>Im ⟨.bin true q2.l q1.l,Builtin.bitOr q2.b q1.b,q1.s+q2.s+1,me+1⟩ G
     have ZL:(v % 6==(1:Int))=false:=beq_eq_false_iff_ne.mpr hv1
     unfold eB
     refine dw ?_ (by rw [gy];exact bz AM)
     rw [nE]
     show (cL [some (.obj A.length),some (.int c),some (.int ev),none,none,none,none,none] _).fn=_
     unfold cL
     rw [SW,cQ,SA,fO,List.map_cons,List.map_nil]
     rw [hD,bT] at f ⊢
     have hx:=λG=>ZE q2.b q1.b G
     generalize Builtin.bitOr q2.b q1.b=bx at f hx
     generalize (Mx++[q2]++[q1]).map Qt.D=xs at wQ PB
     generalize q1.l.D=l1 at f wQ
     generalize q2.l.D=l2 at f wQ
     simp! [iP,g0,PB,Xd,Xa,hl1,W9,wQ,Px,SV,Sk,Sl,Xb,k1,k2,ZL,cB,hx,z3,z4,dS,f]
   ·refine ⟨[],by simp,λq h=>by simp at h,?_⟩
    unfold eB
    refine dw ?_ rfl
    rw [nE]
    show (cL [some (.obj A.length),some (.int c),some (.int ev),none,none,none,none,none] _).fn=_
    unfold cL
    rw [SW,cQ,SA,fO,List.map_nil]
    generalize (Mx++[q2]++[q1]).map Qt.D=xs at wQ PB
    generalize q1.l.D=l1 at wQ
    generalize q2.l.D=l2 at wQ
    by_cases k1:q1.s+q2.s+1<41
    ·have k2:¬ me+1<13:=λk2=>hC ⟨k1,k2⟩
     simp! [iP,g0,PB,Xd,Xa,hl1,W9,wQ,Px,SV,Sk,Sl,Xb,k1,k2,cB,dS,AN]
    ·simp! [iP,g0,PB,Xd,Xa,hl1,W9,wQ,Px,SV,Sk,Sl,Xb,k1,cB,dS,AN]
  ·refine ⟨[],by simp,λq h=>by simp at h,?_⟩
   unfold eB
   refine dw ?_ rfl
   rw [nE]
   show (cL [some (.obj A.length),some (.int c),some (.int ev),none,none,none,none,none] _).fn=_
   unfold cL
   rw [SW,cQ,SA,fO,List.map_nil]
   generalize (yz++[q1]).map Qt.D=xs at hlen
   generalize q1.l.D=l1
   by_cases k1:v % 6<3
   ·have k2:¬ (1:Int)<(yz.length:Int)+1:=λk2=>hB ⟨k1,by nofun⟩
    simp! [g0,hlen,Fb,k1,k2,dS,AN]
   ·simp! [k1,dS,AN]
theorem Io (f:Nat→Int):∀ (j i:Nat),i≤j→f i≤f (argBest (λi j=>decide (f i > f j)) j)
 | 0,i,h=>by
  have:i=0:=by nofun
  subst this
  exact Int.le_refl _
 | j+1,i,h=>by
  have ih:=Io f j
  rw [argBest]
  split
  ·rename_i hb
   have hb:=of_decide_eq_true hb
   by_cases hi:i=j+1
   ·subst hi;exact Int.le_refl _
   ·have:=ih i (by nofun);nofun
  ·rename_i hb
   by_cases hi:i=j+1
   ·subst hi
    have hb:=of_decide_eq_false (Bool.not_eq_true _▸hb)
    nofun
   ·exact ih i (by nofun)
theorem OF (bs:List Int) (x:Int) (h:x∈bs):x≤KU bs:=by
 obtain ⟨i,hi⟩:=List.getElem?_of_mem h
 have hlt:=(List.getElem?_eq_some_iff.mp hi).1
 have:=Io (λi=>bs.getD i 0) (bs.length - 1) i (by nofun)
 have e:bs.getD i 0=x:=by rw [List.getD,hi];rfl
 simp only [e] at this
 exact this
theorem Sm (qs:List Qt) (h:∀ q∈qs,q.Ok):(szl (qs.map (·.l)):Int)≤(qs.map (·.s)).sum:=by
 induction qs with
 | nil=>simp [szl]
 | cons q qs ih=>
  have h1:=ih λx hx=>h x (by simp [hx])
  have h2:=(h q (by simp)).2.1
  simp only [List.map_cons,szl,List.sum_cons]
  nofun
noncomputable def Wy.of:List (Str×Lk)→Wy
 | []=>.nil
 | (g,l)::ps=>.cons g l (Wy.of ps)
theorem PC:∀ ps:List (Str×Lk),(Wy.of ps).Ds=ps.map yx
 | []=>rfl
 | (g,l)::ps=>by rw [Wy.of,Wy.Ds,PC ps];rfl
theorem PD:∀ ps:List (Str×Lk),(Wy.of ps).sz=szl (ps.map (·.2))
 | []=>rfl
 | (g,l)::ps=>by rw [Wy.of,Wy.sz,PD ps,List.map_cons,szl]
theorem My (n:Nat):∀ ps:List (Str×Lk),(∀ l∈ps.map (·.2),l.dep≤n)→(Wy.of ps).dep≤n
 | [],_=>by rw [Wy.of,Wy.dep];nofun
 | (g,l)::ps,h=>by
  have h1:=My n ps λx hx=>h x (by simp only [List.map_cons,List.mem_cons];exact .inr hx)
  have h2:=h l (by simp)
  rw [Wy.of,Wy.dep];nofun
theorem of_ok:∀ ps:List (Str×Lk),(∀ p∈ps,PyData.strOk p.1=true∧p.2.Ok)→(Wy.of ps).Ok
 | [],_=>by rw [Wy.of,Wy.Ok];trivial
 | (g,l)::ps,h=>by
  have h2:=h (g,l) (by simp)
  rw [Wy.of,Wy.Ok]
  exact ⟨h2.1,h2.2,of_ok ps λx hx=>h x (by simp [hx])⟩
noncomputable def dO:List (Key×D):=[(Sum.inr "down",.con [.int 0]),(Sum.inr "deep",.con [.int 0]),(Sum.inr "later",.con [.int 0])]
theorem go4 (G:DH):(bU [.str "down",.str "deep",.str "later",.str "down"] G).fw G=.ok (.con [.str "down",.str "deep",.str "later",.str "down"]) G:=fZ (lz (n:=4) (by nofun)) rfl
theorem Wj (v:Int):∃ g:Str,pX [D.str "down",.str "deep",.str "later",.str "down"] (v % 4)=some (.str g)∧PyData.strOk g=true∧Ad dO (Sum.inr g)=some (.con [.int 0]):=by
 have hv:0≤v % 4∧v % 4<4:=by nofun
 obtain ⟨d,e1,e2⟩:=vA (xs:=[D.str "down",.str "deep",.str "later",.str "down"]) hv.1 (by simpa using hv.2)
 have hmem:=List.mem_of_getElem? e2
 simp only [List.mem_cons,List.not_mem_nil,or_false] at hmem
 rcases hmem with rfl | rfl | rfl | rfl
 ·exact ⟨_,e1,by symm,by rfl⟩
 ·exact ⟨_,e1,by symm,by rfl⟩
 ·exact ⟨_,e1,by symm,by rfl⟩
 ·exact ⟨_,e1,by symm,by rfl⟩
theorem Mz (c ev good:Int) (j r:Nat) (hj:j≤100) (q:Qt) (ps:List (Str×Lk)) (hps:ps.length≤1000) (A:DH) (hr:A[r]?=some (.dct dO)) (a0 a4 a5 a6 a7 L8:Option D):∃ (g:Str) (sU:Int),PyData.strOk g=true ∧
  lT [a0,some (.int c),some (.int ev),some (.obj r),a4,a5,a6,a7,some (.obj A.length),some (.int good),some (.int (j:Int)),some q.D,L8] (A++[.lst (ps.map yx)]) =
   .nx [a0,some (.int c),some (.int ev),some (.obj r),a4,a5,a6,a7,some (.obj A.length),some (.int sU),some (.int (j:Int)),some q.D,some (.str g)] (A++[.lst ((ps++[(g,q.l)]).map yx)]):=by
 have hm:=lq c (50+(j:Int)) (by nofun) (by nofun)
 generalize mx c (50+(j:Int))=v at hm
 obtain ⟨g,e1,e2,e3⟩:=Wj v
 obtain ⟨y,e4⟩:=JD (Builtin.bitAnd good q.b) (A++[.lst ((ps++[(g,q.l)]).map yx)])
 refine ⟨g,y,e2,?_⟩
 have hlt:=(List.getElem?_eq_some_iff.mp hr).1
 have hr':∀ Y:DH,(A++Y)[r]?=some (.dct dO):=λY=>by rw [List.getElem?_append_left hlt];exact hr
 have g0:∀ x:DO,(A++[x])[A.length]?=some x:=λx=>Dp A x []
 have s0:∀ x z:DO,(A++[x]).set A.length z=A++[z]:=λx z=>K3 A x z []
 have z2:(2:Nat)≤sizeLine:=lz (by nofun)
 have hz:(ps.map yx).length<sizeLine:=Nat.lt_of_lt_of_le (by rw [List.length_map];nofun) (lz (n:=2000) (by nofun))
 have eP:(ps++[(g,q.l)]).map yx=ps.map yx++[.tup [.str g,q.l.D]]:=by simp [yx]
 rw [eP] at e4 ⊢
 have hx:=λG=>OD good q.b G
 generalize Builtin.bitAnd good q.b=bx at hx e4
 generalize ps.map yx=pD at hz e4
 have eQ:q.D=.tup [q.l.D,.int q.b,.int q.s,.int q.d]:=rfl
 rw [eQ]
 generalize q.l.D=ld at e4
 have S1:(bP 12 (aE fB (eFn (au bU (af (eC (.str "down")) (af (eC (.str "deep")) (af (eC (.str "later")) (af (eC (.str "down")) (aq))))))) (aE lM (bL 2 aK (af (ai 1) (af (aE bO (eC (.int 50)) (ai 10)) (aq)))) (eC (.int 4))))) [a0,some (.int c),some (.int ev),some (.obj r),a4,a5,a6,a7,some (.obj A.length),some (.int good),some (.int (j:Int)),some (.tup [ld,.int q.b,.int q.s,.int q.d]),L8] (A++[.lst pD])=.nx [a0,some (.int c),some (.int ev),some (.obj r),a4,a5,a6,a7,some (.obj A.length),some (.int good),some (.int (j:Int)),some (.tup [ld,.int q.b,.int q.s,.int q.d]),some (.str g)] (A++[.lst pD]):=by
  simp! [dS,go4,hm,e1]
 have S2:(pC (gk "list" fY (ai 8) (af (au gx (af (ai 12) (af (aE fB (ai 11) (eC (.int 0))) (aq)))) (aq)))) [a0,some (.int c),some (.int ev),some (.obj r),a4,a5,a6,a7,some (.obj A.length),some (.int good),some (.int (j:Int)),some (.tup [ld,.int q.b,.int q.s,.int q.d]),some (.str g)] (A++[.lst pD])=.nx [a0,some (.int c),some (.int ev),some (.obj r),a4,a5,a6,a7,some (.obj A.length),some (.int good),some (.int (j:Int)),some (.tup [ld,.int q.b,.int q.s,.int q.d]),some (.str g)] (A++[.lst (pD++[.tup [.str g,ld]])]):=by
  simp! [g0,s0,Px,z2,hz]
 have e5:∀ τ G,τ[3]?=some (some (.obj r))→τ[12]?=some (some (.str g))→G[r]?=some (.dct dO)→LV (ai 3) (ai 12) τ G=.ok (.con [.int 0]) G:=by
  intro τ G t1 t2 t3
  unfold LV
  rw [aF,je,t1]
  dsimp only
  rw [iE,aF,je,t2]
  dsimp only
  rw [iE]
  unfold RH sr Ac
  dsimp only
  rw [t3]
  dsimp only
  rw [e3]
 have e6:=λ(a0:Option D)=>e5 [a0,some (.int c),some (.int ev),some (.obj r),a4,a5,a6,a7,some (.obj A.length),some (.int good),some (.int (j:Int)),some (.tup [ld,.int q.b,.int q.s,.int q.d]),some (.str g)] (A++[.lst (pD++[.tup [.str g,ld]])]) rfl rfl (hr' _)
 rw [lT,cQ,S1,fO,cQ,S2,fO]
 simp! [e6,SV,hx,e4]
theorem Cd (c ev:Int) (r:Nat) (A:DH) (hr:A[r]?=some (.dct dO)) (a0 a4 a5 a6 a7:Option D):∀ (qs:List Qt) (j:Nat) (good:Int) (ps:List (Str×Lk)) (SM SN L8:Option D),j+qs.length≤100→ps.length+qs.length≤1000→∃ (ps':List (Str×Lk)) (sU:Int) (Xe Xf Xg:Option D),ps'.map (·.2)=qs.map (·.l)∧(∀ p∈ps',PyData.strOk p.1=true) ∧
  fE (gP 10 11) lT (eD j (qs.map Qt.D)) [a0,some (.int c),some (.int ev),some (.obj r),a4,a5,a6,a7,some (.obj A.length),some (.int good),SM,SN,L8] (A++[.lst (ps.map yx)]) =
   .nx [a0,some (.int c),some (.int ev),some (.obj r),a4,a5,a6,a7,some (.obj A.length),some (.int sU),Xe,Xf,Xg] (A++[.lst ((ps++ps').map yx)])
 | [],j,good,ps,SM,SN,L8,_,_=>⟨[],good,SM,SN,L8,rfl,by simp,by rw [List.append_nil];exact jX⟩
 | q::qs,j,good,ps,SM,SN,L8,h1,h2=>by
  simp only [List.length_cons] at h1 h2
  obtain ⟨g,Wl,hg,e1⟩:=Mz c ev good j r (by nofun) q ps (by nofun) A hr a0 a4 a5 a6 a7 L8
  obtain ⟨ps',sU,Xe,Xf,Xg,h3,h4,e2⟩:=Cd c ev r A hr a0 a4 a5 a6 a7 qs (j+1) Wl (ps++[(g,q.l)]) (some (.int (j:Int))) (some q.D) (some (.str g)) (by nofun) (by simp;nofun)
  refine ⟨(g,q.l)::ps',sU,Xe,Xf,Xg,by simp [h3],λp hp=>?_,?_⟩
  ·rcases List.mem_cons.mp hp with rfl | hp
   ·exact hg
   ·exact h4 p hp
  ·rw [List.map_cons,Ij,fP (τ1:=[a0,some (.int c),some (.int ev),some (.obj r),a4,a5,a6,a7,some (.obj A.length),some (.int good),some (.int (j:Int)),some q.D,L8]) rfl,e1,mT,e2]
   simp
theorem JF {g:tK} {body:MS} {xs:List D} {τ:DS} {G:DH}:tM g body (uI (.con xs) xs.length) (xs.length+1) 0 τ G=fE g body (xs.reverse.mapIdx λi x=>.tup [.int i,x]) τ G:=by
 have:=pI (g:=g) (body:=body) (xs:=xs.reverse.mapIdx λi x=>D.tup [.int i,x]) (vw:=uI (.con xs) xs.length) (λG i h=>by
  simp only [List.length_mapIdx,List.length_reverse] at h
  simp only [uI,bw,if_true,List.getElem?_mapIdx]
  by_cases hi:i=xs.length
  ·rw [if_pos hi,List.getElem?_eq_none (by simp;nofun)];rfl
  ·rw [if_neg hi,if_pos (by nofun),List.getElem?_reverse (by nofun)]) (xs.length+1) 0 τ G (by simp) (by simp)
 simpa using this
theorem MA {ml:DS→M (List D)} {τ:DS} {G:DH}:CU ml τ G=(ml τ G).bd λds=>match ds with
 | [d]=>λG=>match bw G d with
  | some (.lst xs)=>.ok (xs.length+1,uI d xs.length) G
  | _=>.stuck
 | _=>M.stop:=aF
theorem MB (k:Int) (f:Qt→Int) (hf:∀ q G,fB q.D (.int k) G=.ok (.int (f q)) G) (zs:List Qt) (hz:zs.length≤1000) (τ:DS) (G:DH) (ht:τ[5]?=some (some (.con (zs.map Qt.D)))) :
  eFn (ri oN [] (ai 5) (lN) (aE fB (ai 0) (eC (.int k)))) τ G=.ok (.con ((zs.map f).map .int)) G:=by
 have hc:=m5 (gO:=oN) (ks:=[]) (tt:=lN) (te:=aE fB (ai 0) (eC (.int k))) (own:=λq:Qt=>[q.D]) (dat:=Qt.D) (f:=λq=>D.int (f q)) (c:=λ_=>true) (G:=G) (τ:=τ) zs [] (by simp;nofun) (λ_ _=>rfl) (λ_ _ _=>rfl) (λq _ acc=>by
  have e:∀ r:DS,(([q.D]:List D).map some++r)=some q.D::r:=λr=>rfl
  rw [e]
  generalize mask [] τ=r
  have:=hf q
  generalize q.D=qD at this
  simp only [vB,je,zX,List.getElem?_cons_zero,iE,aF,this])
 rw [List.nil_append,List.filter_eq_self.mpr (λ_ _=>rfl)] at hc
 have hcl:aX (zs.map λq=>D.int (f q))=true:=bz λ_=>fj
 have em:(zs.map f).map D.int=zs.map λq=>D.int (f q):=by simp
 rw [em,dS,CJ,je,ht]
 dsimp only
 rw [iE]
 dsimp only
 rw [hc]
 exact xy hcl
theorem Sn (xs:List D) (k:Nat) (h:k≤xs.length):cutD xs (some (k:Int)) none=xs.drop k:=by
 unfold cutD
 rw [HT.GU,HT.DA,Nat.min_eq_left h,List.take_of_length_le (by simp)]
theorem So (c ev:Int) (A:DH) (r:Nat) (hr:A[r]?=some (.dct dO)) (qs:List Qt) (hq:∀ q∈qs,q.Ok) (h1:1≤qs.length) (hz:qs.length≤500):∃ rs:List Qt,rs.length≤1∧(∀ q∈rs,q.Ok) ∧
  kT [.obj A.length,.int c,.int ev,.obj r] (A++[.lst (qs.map Qt.D)])=.ok (.con (rs.map Qt.D)) (A++[.lst (qs.map Qt.D)]):=by
 obtain ⟨m,m1,m2,m7,em⟩:=Il c A [] (qs.map Qt.D) (by simpa using h1) (by rw [List.length_map];nofun)
 rw [List.length_map] at m2
 have g0:∀ x Y,(A++x::Y)[A.length]?=some x:=λx Y=>Dp A x Y
 have Ip:(qs.map Qt.D).length≤sizeLine:=lz (by rw [List.length_map];nofun)
 have z2:(2:Nat)≤sizeLine:=lz (by nofun)
 have z4:(4:Nat)≤sizeLine:=lz (by nofun)
 obtain ⟨zs,hzs⟩:∃ zs:List Qt,zs=qs.drop (qs.length - m):=⟨_,rfl⟩
 have SS:zs.length=m:=by rw [hzs,List.length_drop];nofun
 have Wm:∀ q∈zs,q.Ok:=λq h=>hq q (List.mem_of_mem_drop (hzs▸h))
 have Gb:cutD (qs.map Qt.D) (some (((qs.map Qt.D).length:Int) - (m:Int))) none=zs.map Qt.D:=by
  have e:((qs.map Qt.D).length:Int) - (m:Int)=((qs.length - m:Nat):Int):=by rw [List.length_map];nofun
  rw [e,Sn _ _ (by rw [List.length_map];nofun),hzs,List.map_drop]
 have fz:∀ G,(bU (zs.map Qt.D) G).fw G=.ok (.con (zs.map Qt.D)) G:=λG=>fZ (lz (by rw [List.length_map];nofun)) (bz AM)
 have hsum:=λτ G h=>MB 2 (·.s) (λq G=>rfl) zs (by nofun) τ G h
 have ZM:=λτ G h=>MB 3 (·.d) (λq G=>rfl) zs (by nofun) τ G h
 have Wn:=qW (zs.map (·.s))
 have imax:=qW (zs.map (·.d))
 have hm0:0<(zs.map (·.d)).length:=by rw [List.length_map];nofun
 have S1:(bP 4 (bL 2 iQ (af (ai 0) (af (ai 1) (aq))))) [some (.obj A.length),some (.int c),some (.int ev),some (.obj r),none,none,none,none,none,none,none,none,none] (A++[.lst (qs.map Qt.D)])=.nx [some (.obj A.length),some (.int c),some (.int ev),some (.obj r),some (.int (m:Int)),none,none,none,none,none,none,none,none] (A++[.lst (qs.map Qt.D)]):=by
  generalize qs.map Qt.D=xs at em
  simp! [em]
 have S2:(bP 5 (eFn (BD (ai 0) (jm (aE yH (au gj (af (ai 0) (aq))) (ai 4))) (jT)))) [some (.obj A.length),some (.int c),some (.int ev),some (.obj r),some (.int (m:Int)),none,none,none,none,none,none,none,none] (A++[.lst (qs.map Qt.D)])=.nx [some (.obj A.length),some (.int c),some (.int ev),some (.obj r),some (.int (m:Int)),some (.con (zs.map Qt.D)),none,none,none,none,none,none,none] (A++[.lst (qs.map Qt.D)]):=by
  generalize qs.map Qt.D=xs at Gb Ip
  generalize zs.map Qt.D=zD at Gb fz
  simp! [dS,g0,Ip,IP,Gb,fz]
 have S3:(bP 6 (aE bO (eC (.int 1)) (au zU (af (eFn (ri oN [] (ai 5) (lN) (aE fB (ai 0) (eC (.int 2))))) (aq))))) [some (.obj A.length),some (.int c),some (.int ev),some (.obj r),some (.int (m:Int)),some (.con (zs.map Qt.D)),none,none,none,none,none,none,none] (A++[.lst (qs.map Qt.D)])=.nx [some (.obj A.length),some (.int c),some (.int ev),some (.obj r),some (.int (m:Int)),some (.con (zs.map Qt.D)),some (.int (1+(zs.map (·.s)).sum)),none,none,none,none,none,none] (A++[.lst (qs.map Qt.D)]):=by
  have e:=hsum [some (.obj A.length),some (.int c),some (.int ev),some (.obj r),some (.int (m:Int)),some (.con (zs.map Qt.D)),none,none,none,none,none,none,none] (A++[.lst (qs.map Qt.D)]) rfl
  generalize eFn (ri oN [] (ai 5) (lN) (aE fB (ai 0) (eC (.int 2))))=S at e
  generalize qs.map Qt.D=xs at e
  generalize zs.map Qt.D=zD at e
  generalize zs.map (·.s)=bs at e Wn
  simp only [mC,vB,zX,iE,aF,oj,iW,e,iL,oi,zU,bw,Wn,bO,rj,List.set_cons_succ,List.set_cons_zero]
 have S4:(bP 7 (aE bO (eC (.int 1)) (au BK (af (eFn (ri oN [] (ai 5) (lN) (aE fB (ai 0) (eC (.int 3))))) (aq))))) [some (.obj A.length),some (.int c),some (.int ev),some (.obj r),some (.int (m:Int)),some (.con (zs.map Qt.D)),some (.int (1+(zs.map (·.s)).sum)),none,none,none,none,none,none] (A++[.lst (qs.map Qt.D)])=.nx [some (.obj A.length),some (.int c),some (.int ev),some (.obj r),some (.int (m:Int)),some (.con (zs.map Qt.D)),some (.int (1+(zs.map (·.s)).sum)),some (.int (1+KU (zs.map (·.d)))),none,none,none,none,none] (A++[.lst (qs.map Qt.D)]):=by
  have e:=ZM [some (.obj A.length),some (.int c),some (.int ev),some (.obj r),some (.int (m:Int)),some (.con (zs.map Qt.D)),some (.int (1+(zs.map (·.s)).sum)),none,none,none,none,none,none] (A++[.lst (qs.map Qt.D)]) rfl
  generalize eFn (ri oN [] (ai 5) (lN) (aE fB (ai 0) (eC (.int 3))))=S at e
  generalize qs.map Qt.D=xs at e
  generalize zs.map Qt.D=zD at e
  generalize zs.map (·.d)=bs at e imax hm0
  simp only [mC,vB,zX,iE,aF,oj,iW,e,iL,oi,BK,bw,imax,if_pos hm0,bO,rj,List.set_cons_succ,List.set_cons_zero]
 have hsz:=Sm zs Wm
 have hge:∀ q∈zs,q.d≤KU (zs.map (·.d)):=λq h=>OF _ _ (List.mem_map.mpr ⟨q,h,rfl⟩)
 obtain ⟨sm,esm⟩:∃ sm:Int,sm=(zs.map (·.s)).sum:=⟨_,rfl⟩
 obtain ⟨GO,emx⟩:∃ GO:Int,GO=KU (zs.map (·.d)):=⟨_,rfl⟩
 rw [← esm] at S3 S4 hsz
 rw [← emx] at S4 hge
 by_cases hbig:1+sm > 40∨1+GO > 12
 ·refine ⟨[],by simp,λq h=>by simp at h,?_⟩
  unfold kT
  refine dw ?_ rfl
  rw [nE]
  show (jz [some (.obj A.length),some (.int c),some (.int ev),some (.obj r),none,none,none,none,none,none,none,none,none] _).fn=_
  rw [jz,cQ,S1,fO,cQ,S2,fO,cQ,S3,fO,cQ,S4,fO,List.map_nil]
  generalize qs.map Qt.D=xs
  generalize zs.map Qt.D=zD
  by_cases k1:(40:Int)<1+sm
  ·simp! [k1,dS,AN]
  ·have k2:(12:Int)<1+GO:=by nofun
   simp! [k1,k2,dS,AN]
 ·have k1:¬ (40:Int)<1+sm:=by nofun
  have k2:¬ (12:Int)<1+GO:=by nofun
  have hr1:(A++[DO.lst (qs.map Qt.D)])[r]?=some (.dct dO):=by
   rw [List.getElem?_append_left (List.getElem?_eq_some_iff.mp hr).1];exact hr
  obtain ⟨ps,sU,Xe,Xf,Xg,hpl,hpg,el⟩:=Cd c ev r (A++[.lst (qs.map Qt.D)]) hr1 (some (.obj A.length)) (some (.int (m:Int))) (some (.con (zs.map Qt.D))) (some (.int (1+sm))) (some (.int (1+GO))) zs.reverse 0 ev [] none none none (by simp;nofun) (by simp;nofun)
  have hpr:ps.reverse.map (·.2)=zs.map (·.l):=by rw [List.map_reverse,hpl,List.map_reverse,List.reverse_reverse]
  have abB:ps.length=zs.length:=by have:=congrArg List.length hpl;simpa using this
  have hx0:∃ q,q∈zs:=by
   cases zs with
   | nil=>simp at SS;nofun
   | cons q zs=>exact ⟨q,by simp⟩
  have hok:(Qt.mk (.way (Wy.of ps.reverse)) sU (1+sm) (1+GO)).Ok:=by
   have hall:∀ l∈ps.reverse.map (·.2),l.Ok∧(l.dep:Int)≤GO:=λl hl=>by
    rw [hpr] at hl
    obtain ⟨q,hm,rfl⟩:=List.mem_map.mp hl
    have:=Wm q hm
    have:=hge q hm
    exact ⟨(Wm q hm).1,by have:=(Wm q hm).2.2.1;nofun⟩
   refine ⟨by rw [Lk.Ok];exact of_ok _ λp hp=>⟨hpg p (List.mem_reverse.mp hp),(hall p.2 (List.mem_map.mpr ⟨p,hp,rfl⟩)).1⟩,?_,?_,?_,?_⟩
   ·show ((Lk.way (Wy.of ps.reverse)).sz:Int)≤1+sm
    rw [Lk.sz,PD,hpr];nofun
   ·show ((Lk.way (Wy.of ps.reverse)).dep:Int)≤1+GO
    have hd:=My GO.toNat ps.reverse λl hl=>by have:=(hall l hl).2;nofun
    obtain ⟨q,hqm⟩:=hx0
    have h5:=(Wm q hqm).2.2.1
    have h6:=hge q hqm
    rw [Lk.dep];nofun
   ·show 1+sm≤40;nofun
   ·show 1+GO≤12;nofun
  refine ⟨[⟨.way (Wy.of ps.reverse),sU,1+sm,1+GO⟩],by simp,λq h=>by rw [List.mem_singleton.mp h];exact hok,?_⟩
  have f:=λG=>Im ⟨.way (Wy.of ps.reverse),sU,1+sm,1+GO⟩ G
  have eD:(Qt.mk (.way (Wy.of ps.reverse)) sU (1+sm) (1+GO)).D=.tup [.tup [.str "way",.tup (ps.map yx).reverse],.int sU,.int (1+sm),.int (1+GO)]:=by
   rw [Qt.D,Lk.D,PC,List.map_reverse]
  have ee:K41.eD 0 (zs.reverse.map Qt.D)=(zs.map Qt.D).reverse.mapIdx λi x=>D.tup [.int (i:Int),x]:=by
   rw [List.map_reverse];rfl
  rw [ee,List.map_nil,List.nil_append] at el
  have hfe:=λτ G=>JF (g:=gP 10 11) (body:=lT) (xs:=zs.map Qt.D) (τ:=τ) (G:=G)
  have hzp:(ps.map yx).length≤sizeLine:=lz (by rw [List.length_map];nofun)
  unfold kT
  refine mZ (R:=[.lst (ps.map yx)]) ?_ (by rw [gy];exact bz AM)
  rw [nE]
  show (jz [some (.obj A.length),some (.int c),some (.int ev),some (.obj r),none,none,none,none,none,none,none,none,none] _).fn=_
  rw [jz,cQ,S1,fO,cQ,S2,fO,cQ,S3,fO,cQ,S4,fO,List.map_cons,List.map_nil]
  rw [eD] at f ⊢
  have gp:∀ x,((A++[DO.lst (qs.map Qt.D)])++[x])[(A++[DO.lst (qs.map Qt.D)]).length]?=some x:=λx=>Dp _ x []
  have n0:∀ G,bU [] G=.ok (.obj G.length) (G++[.lst []]):=λG=>by simp [bU]
  generalize (A++[DO.lst (qs.map Qt.D)])=G0 at el gp
  generalize zs.map Qt.D=zD at el hfe
  generalize ((zD.reverse).mapIdx λi x=>D.tup [.int (i:Int),x])=lst at el hfe
  generalize ps.map yx=pD at el f hzp
  simp only [cQ,Hr,FZ,K5,vB,je,zX,List.getElem?_cons_succ,List.getElem?_cons_zero,iE,aF,jc,FY,zd,fO,mC,oj,iL,n0,rj,List.set_cons_succ,List.set_cons_zero,if_true,decide_eq_false k1,decide_eq_false k2,NW,NV,oi]
  simp! [k1,k2,MA,hfe,el,n0,dS,Ei,gp,hzp,z2,z4,f]
theorem Wo (l:Lk):∃ (xs:List D) (s:Str),l.D=.tup xs∧pX xs 0=some (.str s)∧PyData.strOk s=true:=by
 cases l with
 | one m=>exact ⟨_,_,by rw [Lk.D],rfl,sR m⟩
 | kind s=>exact ⟨_,_,by rw [Lk.D],rfl,oM⟩
 | not l=>exact ⟨_,_,by rw [Lk.D],rfl,nT⟩
 | bin e l r=>exact ⟨_,_,by rw [Lk.D],rfl,qX e⟩
 | way w=>exact ⟨_,_,by rw [Lk.D],rfl,sS⟩
theorem MC (qs:List Qt) (lo hi:Option Int):∃ ys:List Qt,cutD (qs.map Qt.D) lo hi=ys.map Qt.D∧(∀ q∈ys,q∈qs)∧ys.length≤qs.length:=by
 unfold cutD
 rw [List.length_map]
 generalize HT.ji qs.length 0 lo=a
 generalize HT.ji qs.length qs.length hi - a=b
 refine ⟨(qs.drop a).take b,by rw [List.map_take,List.map_drop],λq h=>List.mem_of_mem_drop (List.mem_of_mem_take h),?_⟩
 rw [List.length_take,List.length_drop];nofun
theorem zk (ys:List Qt) (h:ys.length≤1000) (G:DH):(bU (ys.map Qt.D) G).fw G=.ok (.con (ys.map Qt.D)) G:=fZ (lz (by rw [List.length_map];nofun)) (bz AM)
theorem MD (ws:List Str) (n0:Str) (r:Nat) (ev c:Int) (A:DH) (hr:A[r]?=some (.dct dO)) (qs:List Qt) (hq:∀ q∈qs,q.Ok) (hz:qs.length≤400) (c0 a8 a9:Option D):∃ (rs:List Qt) (k:Int),rs.length≤1∧(∀ q∈rs,q.Ok) ∧
  (bq (bP 8 (eFn (au bU (aq)))) (bq (bP 9 (eC (.int 1))) (p8 (pB (kK (aE DP (au gj (af (ai 6) (aq))) (eC (.int 0)))) (kK (aE (mq false) (aE lM (bL 2 aK (af (ai 7) (af (eC (.int 19)) (aq)))) (eC (.int 3))) (eC (.int 0))))) (qw) (p8 (kK (aE DP (au gj (af (ai 6) (aq))) (eC (.int 0)))) (nc) (eg))))) [c0,some (.con (ws.map .str)),some (.con [.tup [.int 0,.str n0]]),some (.obj r),some (.int 1),some (.int ev),some (.obj A.length),some (.int c),a8,a9] (A++[.lst (qs.map Qt.D)])=.nx [c0,some (.con (ws.map .str)),some (.con [.tup [.int 0,.str n0]]),some (.obj r),some (.int 1),some (.int ev),some (.obj A.length),some (.int c),some (.con (rs.map Qt.D)),some (.int k)] (A++[.lst (qs.map Qt.D)]):=by
 have hm:=lq c 19 (by nofun) (by nofun)
 generalize mx c 19=v at hm
 have g0:∀ x Y,(A++x::Y)[A.length]?=some x:=λx Y=>Dp A x Y
 have Ip:(qs.map Qt.D).length≤sizeLine:=lz (by rw [List.length_map];nofun)
 have SW:∀ S:MS,(bq (bP 8 (eFn (au bU (aq)))) (bq (bP 9 (eC (.int 1))) S)) [c0,some (.con (ws.map .str)),some (.con [.tup [.int 0,.str n0]]),some (.obj r),some (.int 1),some (.int ev),some (.obj A.length),some (.int c),a8,a9] (A++[.lst (qs.map Qt.D)])=S [c0,some (.con (ws.map .str)),some (.con [.tup [.int 0,.str n0]]),some (.obj r),some (.int 1),some (.int ev),some (.obj A.length),some (.int c),some (.con []),some (.int 1)] (A++[.lst (qs.map Qt.D)]):=by
  intro S
  generalize qs.map Qt.D=xs
  generalize D.con (ws.map .str)=wD
  simp! [dS,AN]
 rw [SW]
 rcases List.eq_nil_or_concat qs with rfl | ⟨yz,q1,Xh⟩
 ·refine ⟨[],1,by simp,by simp,?_⟩
  rw [List.map_nil]
  generalize D.con (ws.map .str)=wD
  simp! [g0]
 ·have hpos:0<(qs.map Qt.D).length:=by rw [Xh];simp
  by_cases h3:v % 3=0
  ·obtain ⟨rs,l1,o1,e1⟩:=So c ev A r hr qs hq (by rw [Xh];simp) (by nofun)
   obtain ⟨m,_,_,_,e2⟩:=Il c A [] (qs.map Qt.D) (by rw [Xh];simp) (by rw [List.length_map];nofun)
   refine ⟨rs,(m:Int),l1,o1,?_⟩
   generalize qs.map Qt.D=xs at e1 e2 Ip hpos
   generalize rs.map Qt.D=rD at e1
   generalize D.con (ws.map .str)=wD
   unfold qw
   simp! [g0,Ip,hpos,hm,h3,cB,e1,e2]
  ·have h3b:(v % 3==(0:Int))=false:=beq_eq_false_iff_ne.mpr h3
   have Sq:qs=yz++[q1]:=by rw [Xh];simp
   obtain ⟨rs,l1,o1,e1⟩:=JE c ev A [] yz q1 (by rw [← Sq];exact hq) (by rw [Sq] at hz;simp at hz;nofun)
   rw [← Sq] at e1
   match rs,l1,o1,e1 with
   | [],_,_,e1=>
    refine ⟨[],2 - 0,by simp,by simp,?_⟩
    rw [List.map_nil] at e1 ⊢
    generalize qs.map Qt.D=xs at e1 Ip hpos
    generalize D.con (ws.map .str)=wD
    unfold nc
    simp! [g0,Ip,hpos,hm,h3b,cB,e1,vp]
   | [q],_,o1,e1=>
    obtain ⟨xl,s,hl1,hl2,hl3⟩:=Wo q.l
    refine ⟨[q],2 - (if (s==("not":Str)) then 1 else 0),by simp,o1,?_⟩
    have hq2:=λG=>zb false s "not" G hl3 nT
    simp only [Bool.false_xor] at hq2
    generalize (s==("not":Str))=bb at hq2
    have eQ:q.D=.tup [.tup xl,.int q.b,.int q.s,.int q.d]:=by rw [Qt.D,hl1]
    rw [List.map_cons,List.map_nil,eQ] at e1 ⊢
    generalize qs.map Qt.D=xs at e1 Ip hpos
    generalize D.con (ws.map .str)=wD
    have hi:∀ G,vp [.bl bb] G=.ok (.int (if bb=true then (1:Int) else 0)) G:=λG=>rfl
    generalize (if bb=true then (1:Int) else 0)=ib at hi ⊢
    unfold nc
    simp! [g0,Ip,hpos,hm,h3b,cB,e1,SR,Px,hl2,hq2,hi]
   | _::_::_,l1,_,_=>simp at l1
theorem JG (ws:List Str) (h5:ws.length=5) (hw:∀ s∈ws,PyData.strOk s=true) (n0:Str) (hn:PyData.strOk n0=true) (r:Nat) (ev c:Int) (A:DH) (hr:A[r]?=some (.dct dO)) (qs:List Qt) (hq:∀ q∈qs,q.Ok) (hz:qs.length≤400) (c0 a8 a9:Option D):∃ (Ss:List Qt) (W:DH) (b8 b9:Option D),Ss.length≤qs.length+1∧(∀ q∈Ss,q.Ok) ∧
  j4 [c0,some (.con (ws.map .str)),some (.con [.tup [.int 0,.str n0]]),some (.obj r),some (.int 1),some (.int ev),some (.obj A.length),some (.int c),a8,a9] (A++[.lst (qs.map Qt.D)])=.nx [c0,some (.con (ws.map .str)),some (.con [.tup [.int 0,.str n0]]),some (.obj r),some (.int 1),some (.int ev),some (.obj (A++W).length),some (.int c),b8,b9] ((A++W)++[.lst (Ss.map Qt.D)]):=by
 obtain ⟨rs,k,l1,o1,e1⟩:=MD ws n0 r ev c A hr qs hq hz c0 a8 a9
 have g0:∀ x:DO,(A++[x])[A.length]?=some x:=λx=>Dp A x []
 have s0:∀ x z:DO,(A++[x]).set A.length z=A++[z]:=λx z=>K3 A x z []
 have Ip:(qs.map Qt.D).length<sizeLine:=Nat.lt_of_lt_of_le (by rw [List.length_map];nofun) (lz (n:=1000) (by nofun))
 have split:∀ (X Y S:MS) (τ:DS) (G:DH),bq X (bq Y S) τ G=bq X (bq Y S) τ G:=λ_ _ _ _ _=>rfl
 have eL:∀ (S0 S1 S2 S3:MS) (τ:DS) (G:DH),bq S0 (bq S1 (bq S2 S3)) τ G=bq (bq S0 (bq S1 S2)) S3 τ G:=λS0 S1 S2 S3 τ G=>by
  simp only [cQ]
  cases S0 τ G<;>simp only [fO,Hi,Hj,Hl,Ho,Hq,cQ]
  rename_i τ1 G1
  cases S1 τ1 G1<;>simp only [fO,Hi,Hj,Hl,Ho,Hq,cQ]
 match rs,l1,o1,e1 with
 | [],_,_,e1=>
  obtain ⟨q,hqo,eq⟩:=OE c ws h5 hw n0 hn 1 (A++[.lst (qs.map Qt.D)])
  refine ⟨qs++[q],[],some (.con []),some (.int k),by simp,λx hx=>?_,?_⟩
  ·rcases List.mem_append.mp hx with h | h
   ·exact hq x h
   ·rw [List.mem_singleton.mp h];exact hqo
  rw [j4,eL,cQ,e1,fO,List.append_nil,List.map_nil]
  have em:(qs++[q]).map Qt.D=qs.map Qt.D++[q.D]:=by simp
  rw [em]
  generalize qs.map Qt.D=xs at eq Ip
  generalize q.D=qD at eq
  generalize D.con (ws.map .str)=wD at eq
  simp! [g0,s0,Ip,eq]
 | [q],_,o1,e1=>
  obtain ⟨ys,c1,c2,c3⟩:=MC qs none (some (((qs.map Qt.D).length:Int) - k))
  refine ⟨ys++[q],[.lst (qs.map Qt.D)],some (.con [q.D]),some (.int k),by simp;nofun,λx hx=>?_,?_⟩
  ·rcases List.mem_append.mp hx with h | h
   ·exact hq x (c2 x h)
   ·exact o1 x h
  rw [j4,eL,cQ,e1,fO,List.map_cons,List.map_nil]
  have em:(ys++[q]).map Qt.D=ys.map Qt.D++[q.D]:=by simp
  have f:=λG=>zk ys (by nofun) G
  have hzy:(ys.map Qt.D).length+1≤sizeLine:=lz (by rw [List.length_map];nofun)
  have SS:(qs.map Qt.D).length≤sizeLine:=Nat.le_of_lt Ip
  rw [em]
  generalize qs.map Qt.D=xs at c1 Ip SS
  generalize ys.map Qt.D=yD at c1 f hzy
  generalize q.D=qD
  generalize D.con (ws.map .str)=wD
  have n2:bU (yD++[qD]) (A++[.lst xs])=.ok (.obj (A.length+1)) (A++[.lst xs,.lst (yD++[qD])]):=by simp [bU,hzy]
  simp! [g0,SS,dS,IP,c1,f,tN,n2]
 | _::_::_,l1,_,_=>simp at l1
theorem Ce (ws:List Str) (h5:ws.length=5) (hw:∀ s∈ws,PyData.strOk s=true) (n0:Str) (hn:PyData.strOk n0=true) (r:Nat) (ev:Int) (c0:Option D) (G:DH) (hr:G[r]?=some (.dct dO)):∀ (cs:List Int) (Z:DH) (qs:List Qt) (a7 a8 a9:Option D),(∀ q∈qs,q.Ok)→qs.length+cs.length≤300→∃ (Ss:List Qt) (Z':DH) (b7 b8 b9:Option D),Ss.length≤300∧(∀ q∈Ss,q.Ok) ∧
  fE (gN 7) j4 (cs.map .int) [c0,some (.con (ws.map .str)),some (.con [.tup [.int 0,.str n0]]),some (.obj r),some (.int 1),some (.int ev),some (.obj (G++Z).length),a7,a8,a9] ((G++Z)++[.lst (qs.map Qt.D)]) =
   .nx [c0,some (.con (ws.map .str)),some (.con [.tup [.int 0,.str n0]]),some (.obj r),some (.int 1),some (.int ev),some (.obj (G++Z').length),b7,b8,b9] ((G++Z')++[.lst (Ss.map Qt.D)])
 | [],Z,qs,a7,a8,a9,hq,hl=>⟨qs,Z,a7,a8,a9,by nofun,hq,by rw [List.map_nil];exact jX⟩
 | c::cs,Z,qs,a7,a8,a9,hq,hl=>by
  simp only [List.length_cons] at hl
  have hr':(G++Z)[r]?=some (.dct dO):=by rw [List.getElem?_append_left (List.getElem?_eq_some_iff.mp hr).1];exact hr
  obtain ⟨Mx,W,b8,b9,l1,o1,e1⟩:=JG ws h5 hw n0 hn r ev c (G++Z) hr' qs hq (by nofun) c0 a8 a9
  obtain ⟨qs2,Z',d7,d8,d9,l2,o2,e2⟩:=Ce ws h5 hw n0 hn r ev c0 G hr cs (Z++W) Mx (some (.int c)) b8 b9 o1 (by nofun)
  refine ⟨qs2,Z',d7,d8,d9,l2,o2,?_⟩
  rw [List.map_cons,fP (τ1:=[c0,some (.con (ws.map .str)),some (.con [.tup [.int 0,.str n0]]),some (.obj r),some (.int 1),some (.int ev),some (.obj (G++Z).length),some (.int c),a8,a9]) rfl,e1,mT]
  rw [← List.append_assoc] at e2
  exact e2
theorem OG (cs:List Int) (hc:cs.length≤200) (ws:List Str) (h5:ws.length=5) (hw:∀ s∈ws,PyData.strOk s=true) (n0:Str) (hn:PyData.strOk n0=true) (r:Nat) (G:DH) (hr:G[r]?=some (.dct dO)):∃ qs:List Qt,qs.length≤300∧(∀ q∈qs,q.Ok) ∧
  jI [.con (cs.map .int),.con (ws.map .str),.con [.tup [.int 0,.str n0]],.obj r,.int 1] G=.ok (.con (qs.map Qt.D)) G:=by
 obtain ⟨qs,Z',b7,b8,b9,l1,o1,e1⟩:=Ce ws h5 hw n0 hn r 1 (some (.con (cs.map .int))) G hr cs [] [] none none none (by simp) (by simp;nofun)
 refine ⟨qs,l1,o1,?_⟩
 rw [List.append_nil,List.map_nil] at e1
 have Wa:(Out.ok (D.obj (G++Z').length) ((G++Z')++[.lst (qs.map Qt.D)])).fz=.ok (.con (qs.map Qt.D)) ((G++Z')++[.dead]):=HC
 unfold jI
 refine mZ (R:=Z'++[.dead]) ?_ (by rw [gy];exact bz AM)
 rw [← List.append_assoc]
 have z1:(1:Nat)≤sizeLine:=lz (by nofun)
 have ZH:bU [] G=.ok (.obj G.length) (G++[.lst []]):=by simp [bU]
 generalize qs.map Qt.D=qD at e1 Wa
 generalize D.con (ws.map .str)=wD at e1
 generalize cs.map D.int=cD at e1
 generalize G++Z'=GZ at e1 Wa
 unfold ou
 simp! [Py,ZH,e1,Wa]
theorem OH (m:DS→M D) (hm:∀ τ G,m τ G=.ok (.con [.int 0]) G) (τ:DS) (G:DH):BY [("down",m),("deep",m),("later",m)] τ G=.ok (.obj G.length) (G++[.dct dO]):=by
 have e1:yg [("down",m),("deep",m),("later",m)] τ (G++[.dct []])=.ok dO (G++[.dct []]):=by
  simp only [yg,M.bind,M.ret,hm,dO]
 have g0:=Dp G (.dct []) []
 have s0:=λz=>K3 G (.dct []) z []
 have hl:dO.length≤15:=by decide
 have hmg:CV dO=dO:=by rfl
 unfold BY
 rw [e1]
 dsimp only
 rw [g0]
 dsimp only
 rw [if_pos hl,s0,hmg]
theorem Wq (τ:DS) (G:DH):eFn (au bU (af (eC (.int 0)) (aq))) τ G=.ok (.con [.int 0]) G:=by
 have f:(bU [.int 0] G).fw G=.ok (.con [.int 0]) G:=fZ (lz (n:=1) (by nofun)) rfl
 rw [dS]
 simp! [f]
theorem E8 (G:DH) (hG:G.any (vJ "table_of")=true) (a0 a1 a2 a3:Option D):∀ (qs:List Qt) (a4:Option D),(∀ q∈qs,q.Ok)→∃ b4,fE (gN 4) CY (qs.map Qt.D) [a0,a1,a2,a3,a4] G=.nx [a0,a1,a2,a3,b4] G
 | [],a4,_=>⟨a4,by rw [List.map_nil];exact jX⟩
 | q::qs,a4,hq=>by
  obtain ⟨b4,e⟩:=E8 G hG a0 a1 a2 a3 qs (some q.D) λx hx=>hq x (by simp [hx])
  obtain ⟨w1,w2,w3,w4,w5⟩:=hq q (by simp)
  have er:=Mw q.l w1 (by nofun) (by nofun) G hG
  refine ⟨b4,?_⟩
  have eQ:q.D=.tup [q.l.D,.int q.b,.int q.s,.int q.d]:=rfl
  have e1:CY [a0,a1,a2,a3,some q.D] G=.nx [a0,a1,a2,a3,some q.D] G:=by
   rw [eQ]
   generalize q.l.D=ld at er
   simp! [CY,Px,er]
  rw [List.map_cons,fP (τ1:=[a0,a1,a2,a3,some q.D]) rfl,e1,mT,e]
theorem ME (ns:List Int) (hl:ns.length≤63):∃ G,HQ [.con (ns.map .int)] [.tab "table_of"]=.ok (.bl true) G:=by
 refine ⟨[.tab "table_of"],?_⟩
 generalize hA:([.tab "table_of"]:DH)=A
 have hG:(A++[DO.dct dO]).any (vJ "table_of")=true:=by rw [← hA];rfl
 obtain ⟨c,e1⟩:=Ma ns [none,none,none,none] A
 obtain ⟨ws,h5,hw,e2⟩:=Me c A
 obtain ⟨xs,x1,x2,e3⟩:=E2 ns hl 0 (by nofun) (A++[.dct dO])
 obtain ⟨ys,y1,y2,e4⟩:=E2 ns hl 1 (by nofun) (A++[.dct dO])
 obtain ⟨w0,wr,rfl⟩:∃ w0 wr,ws=w0::wr:=by
  cases ws with
  | nil=>simp at h5
  | cons a b=>exact ⟨a,b,rfl⟩
 have hr:(A++[DO.dct dO])[A.length]?=some (.dct dO):=Dp A _ []
 obtain ⟨qs,l1,o1,e5⟩:=OG (xs++ys) (by simp;nofun) (w0::wr) h5 (λs hs=>(hw s hs).1) w0 (hw w0 (by simp)).1 A.length (A++[.dct dO]) hr
 obtain ⟨u1,c1,c2,c3⟩:=MC qs (some (-4)) none
 obtain ⟨u2,d1,d2,d3⟩:=MC qs (some (-1)) none
 obtain ⟨b4,e6⟩:=E8 (A++[.dct dO]) hG (some (.con (ns.map .int))) (some (.con ((w0::wr).map .str))) (some (.obj A.length)) (some (.con (qs.map Qt.D))) (u1++u2) none (λq h=>by
  rcases List.mem_append.mp h with h | h
  ·exact o1 q (c2 q h)
  ·exact o1 q (d2 q h))
 have f1:=λG=>zk u1 (by nofun) G
 have f2:=λG=>zk u2 (by nofun) G
 have f3:=λG=>zk (u1++u2) (by simp;nofun) G
 have fc:∀ G,(bU (xs.map D.int++ys.map D.int) G).fw G=.ok (.con ((xs++ys).map .int)) G:=λG=>by
  rw [← List.map_append]
  exact fZ (lz (by simp;nofun)) (bz λ_=>fj)
 have z2:(2:Nat)≤sizeLine:=lz (by nofun)
 have fr:∀ G,(bU [.tup [.int 0,.str w0]] G).fw G=.ok (.con [.tup [.int 0,.str w0]]) G:=λG=>fZ (lz (n:=1) (by nofun)) (by simp [aJ,aP,D.closed,cy,fj])
 have hat:pX ((w0::wr).map D.str) 0=some (.str w0):=yV (j:=0) (show ((w0::wr).map D.str)[0]?=some (.str w0) from rfl)
 have S1:(bP 1 (bL 1 j0 (af (au zU (af (eFn (BD (ai 0) (jT) (jm (eC (.int 1))))) (aq))) (aq)))) [some (.con (ns.map .int)),none,none,none,none] A=.nx [some (.con (ns.map .int)),some (.con ((w0::wr).map .str)),none,none,none] A:=by
  generalize au zU (af (eFn (BD (ai 0) (jT) (jm (eC (.int 1))))) (aq))=S at e1
  generalize (w0::wr).map D.str=wD at e2
  generalize ns.map D.int=nD at e1
  simp only [mC,vC,iW,e1,iE,aF,iL,oi,e2,List.length_cons,List.length_nil,if_true,rj,List.set_cons_succ,List.set_cons_zero,Nat.zero_add]
 have S2:(bP 2 (BY [("down",eFn (au bU (af (eC (.int 0)) (aq)))),("deep",eFn (au bU (af (eC (.int 0)) (aq)))),("later",eFn (au bU (af (eC (.int 0)) (aq))))])) [some (.con (ns.map .int)),some (.con ((w0::wr).map .str)),none,none,none] A=.nx [some (.con (ns.map .int)),some (.con ((w0::wr).map .str)),some (.obj A.length),none,none] (A++[.dct dO]):=by
  rw [mC,OH _ Wq,rj]
  rfl
 have hr0:dR 5 B3 [.con (ns.map .int)] A=.ok (.bl true) (A++[.dct dO]):=by
  rw [nE]
  show (B3 [some (.con (ns.map .int)),none,none,none,none] A).fn=_
  rw [B3,cQ,S1,fO,cQ,S2,fO]
  rw [List.map_append] at e6 f3
  generalize (xs++ys).map D.int=xyD at e5 fc
  generalize xs.map D.int=xD at e3 fc
  generalize ys.map D.int=yD at e4 fc
  generalize qs.map Qt.D=qD at e5 c1 d1 e6
  generalize u1.map Qt.D=u1D at c1 f1 f3 e6
  generalize u2.map Qt.D=u2D at d1 f2 f3 e6
  generalize (w0::wr).map D.str=wD at hat e5 e6
  generalize ns.map D.int=nD at e3 e4 e6
  generalize A++[DO.dct dO]=G1 at e3 e4 e5 e6
  have ng4:∀ τ G,zH (eC (.int 4)) τ G=.ok (.int (-4)) G:=λτ G=>rfl
  have S3:(bP 3 (bL 5 jI (af (eFn (aE bO (bL 2 fH (af (ai 0) (af (eC (.int 0)) (aq)))) (bL 2 fH (af (ai 0) (af (eC (.int 1)) (aq)))))) (af (ai 1) (af (eFn (au bU (af (au gx (af (eC (.int 0)) (af (aE fB (ai 1) (eC (.int 0))) (aq)))) (aq)))) (af (ai 2) (af (eC (.int 1)) (aq)))))))) [some (.con nD),some (.con wD),some (.obj A.length),none,none] G1=.nx [some (.con nD),some (.con wD),some (.obj A.length),some (.con qD),none] G1:=by
   have YB:fH [.con nD,.int 0] G1=.ok (.con xD) G1:=e3
   have e4':fH [.con nD,.int 1] G1=.ok (.con yD) G1:=e4
   simp! [dS,YB,e4',tN,fc,hat,z2,fr,e5]
  rw [cQ,S3,fO]
  simp! [dS,ng4,ZK,IP,c1,d1,f1,f2,tN,f3,e6]
 unfold HQ
 refine mZ (R:=[.dct dO]) ?_ rfl
 rw [hr0]
 rfl
end K41
end
namespace K41
open PySem PySem.Spec L2 L3
theorem walk {l:PySem.W.OpenLaw} {qq:Program} {loose:List Str} {XP:(Str→Option Value)→Heap→Prop} {YP:World→Heap→Prop} {d dy:DefRec} {K:Params→PySem.W.Frag} (hn:l.most=some 63) (hdf:d.params.defaults=[]) (hrec:(PyProof.Rows.recsOf qq).find? (λe=>e.name==("table_of":Str))=some dy)
    (hY:∀ (w:World) (h:Heap),YP w h→(K w.params).In h) (hT:∀ w:World,PySem.W.noTabs (K w.params)=true)
    (F:∀ (w:World) (mg:Str→Option Value) (fa:Addr) (h:Heap),(K w.params).In h→h.Ns mainGlobals mg→mg d.name=some (.ref fa)→∃ t c Pt,Txt (K w.params) mg t∧(t.f 21)=fa∧PySem.W.tabIn (K w.params) "table_of"=some (c,Pt)∧∀ (s:Shared) (u:Value),BindsTo s (t.d 21) ⟨[u],[]⟩ [("_law_script",u)]) :
    PySem.W.WalkO qq loose XP YP l.row.toRowW d [] (λf vs=>PySem.call f vs):=
  LJ (n:=63) (k:=63) (x:="_law_script") (y:="table_of") (CX:=λw=>eO l.prog w) hn (by decide) hdf ⟨rfl,by decide,by decide⟩ hrec hY hT (λw mg fa h KX G hm=>by
    obtain ⟨t,c,Pt,T,rfl,ht,hb⟩:=F w mg fa h KX G hm
    exact ⟨(t.d 21),c,Pt,_,ht,hb,λbase _ _ hC hB=>R6 T ht hC hB,λH a ns hl hO hS=>RC ME hl ht (Gp T.nI T.nJ sI) hO hS⟩) λ_ _ _ _ _ zz=>by obtain ⟨_,_,_,_,_,_,_,_,z⟩:=zz;exact z
end K41
open PySem PySem.W PyProof.Rows
set_option maxRecDepth 100000 in
set_option maxHeartbeats 0 in
theorem PySem.Challenge.cw_pathshape_k41_tables_holds : PySem.Challenge.rw_pathshape_k41_tables.Holds := by
  w_on;o_law;k_head;(case hw=>w_witness2)
  k_fill
  refine K41.walk (l:=PySem.Challenge.rw_pathshape_k41_tables) rfl rfl rfl (λw h Y=>PySem.W.km_in_of Y) ?TB ?F
  case TB=>intro w;kernel_rfl
  case F=>
    intro w mg fa h KX G hmg
    have T:∃ t,K41.Txt (L2.KOf KX) mg t∧∃ kV dc pm an cd ct,(t.d 21)=PySem.W.fnOf "law" "law" (L2.aL K41.ia) (L2.aD K41.ia) (L2.aa K41.ia) .none kV dc pm an cd ct:=by
      dsimp only [L2.KOf]
      refine' K41.RS KX G ?my_a0 ?my_l0 ?my_c0 ?my_k0 ?my_a1 ?my_l1 ?my_c1 ?my_k1 ?my_a2 ?my_l2 ?my_c2 ?my_k2 ?my_a3 ?my_l3 ?my_c3 ?my_k3 ?my_a4 ?my_l4 ?my_c4 ?my_k4 ?my_a5 ?my_l5 ?my_c5 ?my_k5 ?my_a6 ?my_l6 ?my_c6 ?my_k6 ?my_a7 ?my_l7 ?my_c7 ?my_k7 ?my_a8 ?my_l8 ?my_c8 ?my_k8 ?my_a9 ?my_l9 ?my_c9 ?my_k9 ?my_a10 ?my_l10 ?my_c10 ?my_k10 ?my_a11 ?my_l11 ?my_c11 ?my_k11 ?my_a12 ?my_l12 ?my_c12 ?my_k12 ?my_a13 ?my_l13 ?my_c13 ?my_k13 ?my_a14 ?my_l14 ?my_c14 ?my_k14 ?my_a15 ?my_l15 ?my_c15 ?my_k15 ?my_a16 ?my_l16 ?my_c16 ?my_k16 ?my_a17 ?my_l17 ?my_c17 ?my_k17 ?my_a18 ?my_l18 ?my_c18 ?my_k18 ?my_a19 ?my_l19 ?my_c19 ?my_k19 ?my_a20 ?my_l20 ?my_c20 ?my_k20 ?my_a21 ?my_l21 ?my_c21 ?my_k21 ?my_z0 ?my_z1 ?my_z2 ?my_z3 ?my_z4 ?my_z5 ?my_z6 ?my_z7 ?my_z8 ?my_z9 ?my_z10 ?my_z11 ?my_z12
      (case my_a0=>k_is)
      (case my_l0=>k_is)
      (case my_c0=>k_is)
      (case my_k0=>k_is)
      (case my_a1=>k_is)
      (case my_l1=>k_is)
      (case my_c1=>k_is)
      (case my_k1=>k_is)
      (case my_a2=>k_is)
      (case my_l2=>k_is)
      (case my_c2=>k_is)
      (case my_k2=>k_is)
      (case my_a3=>k_is)
      (case my_l3=>k_is)
      (case my_c3=>k_is)
      (case my_k3=>k_is)
      (case my_a4=>k_is)
      (case my_l4=>k_is)
      (case my_c4=>k_is)
      (case my_k4=>k_is)
      (case my_a5=>k_is)
      (case my_l5=>k_is)
      (case my_c5=>k_is)
      (case my_k5=>k_is)
      (case my_a6=>k_is)
      (case my_l6=>k_is)
      (case my_c6=>k_is)
      (case my_k6=>k_is)
      (case my_a7=>k_is)
      (case my_l7=>k_is)
      (case my_c7=>k_is)
      (case my_k7=>k_is)
      (case my_a8=>k_is)
      (case my_l8=>k_is)
      (case my_c8=>k_is)
      (case my_k8=>k_is)
      (case my_a9=>k_is)
      (case my_l9=>k_is)
      (case my_c9=>k_is)
      (case my_k9=>k_is)
      (case my_a10=>k_is)
      (case my_l10=>k_is)
      (case my_c10=>k_is)
      (case my_k10=>k_is)
      (case my_a11=>k_is)
      (case my_l11=>k_is)
      (case my_c11=>k_is)
      (case my_k11=>k_is)
      (case my_a12=>k_is)
      (case my_l12=>k_is)
      (case my_c12=>k_is)
      (case my_k12=>k_is)
      (case my_a13=>k_is)
      (case my_l13=>k_is)
      (case my_c13=>k_is)
      (case my_k13=>k_is)
      (case my_a14=>k_is)
      (case my_l14=>k_is)
      (case my_c14=>k_is)
      (case my_k14=>k_is)
      (case my_a15=>k_is)
      (case my_l15=>k_is)
      (case my_c15=>k_is)
      (case my_k15=>k_is)
      (case my_a16=>k_is)
      (case my_l16=>k_is)
      (case my_c16=>k_is)
      (case my_k16=>k_is)
      (case my_a17=>k_is)
      (case my_l17=>k_is)
      (case my_c17=>k_is)
      (case my_k17=>k_is)
      (case my_a18=>k_is)
      (case my_l18=>k_is)
      (case my_c18=>k_is)
      (case my_k18=>k_is)
      (case my_a19=>k_is)
      (case my_l19=>k_is)
      (case my_c19=>k_is)
      (case my_k19=>k_is)
      (case my_a20=>k_is)
      (case my_l20=>k_is)
      (case my_c20=>k_is)
      (case my_k20=>k_is)
      (case my_a21=>k_is)
      (case my_l21=>k_is)
      (case my_c21=>k_is)
      (case my_k21=>k_is)
      (case my_z0=>k_is)
      (case my_z1=>k_is)
      (case my_z2=>k_is)
      (case my_z3=>k_is)
      (case my_z4=>k_is)
      (case my_z5=>k_is)
      (case my_z6=>k_is)
      (case my_z7=>k_is)
      (case my_z8=>k_is)
      (case my_z9=>k_is)
      (case my_z10=>k_is)
      (case my_z11=>k_is)
      (case my_z12=>k_is)
    obtain ⟨t,T,kV,dc,pm,an,cd,ct,e⟩:=T
    have e0:=hmg.symm.trans T.M_law
    cases e0
    have tb:∃ c Pt,PySem.W.tabIn (L2.KOf KX) "table_of"=some (c,Pt):=by
      dsimp only [L2.KOf]
      refine' ⟨_,_,L3.LL ?my_t1 ?my_t2 ?my_t3 ?my_t4 ?my_t5⟩
      (case my_t1=>k_is)
      (case my_t2=>k_is)
      (case my_t3=>exact rfl)
      (case my_t4=>k_is)
      (case my_t5=>exact rfl)
    obtain ⟨c,Pt,ht⟩:=tb
    exact ⟨t,c,Pt,T,rfl,ht,λs u=>by rw [e];exact .of_eq rfl⟩