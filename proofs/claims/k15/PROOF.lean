import PyProof.Rows.All
import Wide.All
import OpenK.AllK
import Wide.FinOn
import Lean
import PyProof.EqAt
import PyProof.EqKinds
import PyProof.TupleCall
import PyProof.StrWalks
import KE.KTryMore
import PyProof.ZipIter
import PyProof.Rows.Range3
import PyProof.Draws
import PyProof.WalksMore
import PyProof.ExcBaseAll.ValueError
import PyProof.StrReplace2
import PyProof.FactsAll.range_2
import KE.KRevIter
import KE.KNest
import KE.BitLaws
import PySem.Challenge.RW_pathshape_k15_bad_words
set_option Elab.async false
set_option linter.all false
set_option maxRecDepth 100000
set_option maxHeartbeats 4000000
set_option compiler.extract_closed false
set_option genSizeOf false
set_option genInjectivity false
open Option renaming some→À,none→Æ
open Bool renaming true→Á,false→Â,and_eq_true→ā,false_ne_true→Ċ,or_false→ū,or_eq_true→ž,eq_iff_iff→ſ,false_eq_true→Se
open PySem renaming Value→Ã,sizeLine→Ä,Shared→Ç,wpAny_bind→Ê,starEach→Ô,wpAny_pure→Ø,wpAny→Û,wpAny_mono→ê,Program→ó,wpAny_Call_Name_kw→ĉ,World→Đ,wpAny_field→ē,wpAny_newObj_type→ĝ,mem_of_lookup→Ģ,wpAny_getItem_str_slice→ģ,wpAny_passesOwn→ļ,wpAny_truthy_bool→Ń,wpAny_Call_method_late→ņ,wpAny_storeName_local→Ŋ,wpAny_newFunctionEnv_cells→ř,wpAny_setField→ś,wpAny_assign_Name→Ŧ,wpAny_holding→Ū,wpAny_comprehension_free→Ŭ,wpAny_execs_nil→ż,wpAny_handleBy_cons→RX,wpAny_pyIter_list→Sm,wpAny_eqBool_str→Sv,wpAny_execs_cons→Sw,wpAny_Name→SQ,call→SS,wpAny_call→SW
open PySem.W renaming Frag→Å,keepIn→ö,kia_one→ć,kitOne→Ĕ,nsIn→ė,findIn→Ę,fnOf→Ĝ,codeIn→ń,excIn→ŏ,hideAll→Œ,of_hideAll→ŗ,exmOne→Ŝ,methodObj→ť,specialIn→ŧ,mg_of→ŭ,cellsFrom_some→ŷ,hideAll_none→RP,looks_findIn→RT,hideAll_get→RV,mroIn→R0,Looks→R1,clsIn→R3,WalkO→R4,codeRec_of→R7,callWith_K→Sb,kitx_list→Sn,instObj→SH,takesIn→SI,exm_one→SM,OpenLaw→SN
open Eq renaming trans→È
open List renaming getElem?_eq_some_iff→É,replicate→Ì,map_cons→Í,getElem?_eq_getElem→Ð,getElem?_append_left→Ñ,mem_cons→Ò,size_toArray→Õ,mem_cons_of_mem→Ù,getElem?_append_right→Ú,append_assoc→Ü,map_nil→Ý,getElem?_set_ne→ß,nil_append→â,getElem?_map→å,lookup_cons→æ,set_cons_succ→è,set_cons_zero→é,mem_append_left→ì,range'→í,lookup→ï,mem_append→ñ,append_nil→ò,mem_cons_self→ô,mem_append_right→ø,getElem?_set→ù,mem_of_getElem?→û,length_append→ü,length_map→ý,map_append→ÿ,filterMap_cons→Ă,replicate_succ→ă,getElem?_cons_succ→Č,getElem?_cons_zero→č,range'_succ→đ,cons_append→Ē,nodup_cons→ĕ,getD_eq_getElem?_getD→ę,reverse_cons→Ğ,flatten_cons→ğ,all_eq_true→Ĥ,range→ĥ,getElem?_set_self→Ħ,filter_append→Ī,mem_of_mem_drop→Ĳ,mem_of_mem_take→ĳ,mem_map→ĵ,length_pos_iff→ĸ,mem_filter→Ļ,getElem?_replicate→ľ,filter_cons_of_pos→ł,find?_cons_of_neg→Ň,map_map→ň,eraseIdxIfInBounds_toArray→ŉ,set_append_right→ŋ,getElem_inj→Ō,getElem_of_mem→Ŕ,find?_toArray→ŝ,drop_eq_getElem_cons→š,getElem?_eq_none_iff→Ţ,mem_of_find?_eq_some→ţ,exists_mem_of_ne_nil→Ť,length_take→Ů,eraseIdx_cons_succ→ů,any_eq_true→ų,filter_cons_of_neg→Ŵ,length_cons→ŵ,not_mem_nil→Ŷ,drop_eq_nil_of_le→Ÿ,find?_cons_of_pos→ź,of_mem_zip→Ž,dropLast_eq_take→RH,eq_nil_or_concat→RJ,concat_eq_append→RK,take_append_drop→RL,length_filter_le→RM,mem_range→RO,replicate_succ'→RU,map_congr_left→RY,take_set_of_le→RZ,any_cons→R5,mem_filterMap→R6,foldl→R8,getElem_range→Sa,countP_append→Sh,nodup_append→Sl,flatMap_cons→Sq,any_nil→Su,length_drop→Sx,getElem_mem→Sy,reverse_nil→SE,countP_cons→SG,foldl_cons→SJ
open Nat renaming lt_of_lt_of_le→Ë,le_refl→Ó,ne_of_lt→ã,succ_pos→ð,lt_irrefl→Ą,le_trans→Ć,zero_le→ŀ,ne_of_gt→ŕ,lt_succ_self→ű,le_of_lt→Si,succ_le_succ→SD,min_eq_left→SO
open PySem.Heap renaming get?_push_of_some→Î,lt_size→Ï,get?_push_size→ç,get?_update_other→Ď,get?_update_self→ĭ,SameBut→Ĵ,FlyingW→Ź,of_hide→Ż
open PySem.Txt renaming replace→Ö,split→Ĭ,slice→S0
open PySem.PyData renaming strOk→Þ,canLayAll0→á,canLay0→ä,depthAll→ë,depth→î,eqv→õ,str→ċ,eqvAll→Ő,list→ő
open PySem.Builtin.Str renaming occurrences→à,glued→Ss
open PySem.Calls renaming spliced_cons→ú,callWith_builtin→ħ,spliced_nil→į,evalArgs_plain→İ,Constant_str→Ľ,Name_function_global→Ř
open PySem.Obj renaming mapFields→þ,data_mapFields→Ĩ,isFreed_of_fields→Į
open PyProof.Rows renaming callWith_builtin1→Ā,boot_isinstance→Ė,slot_tuple_getitem→ġ,envOfC→ķ,callWith_type1→Ŗ,AllBare→RS
open Option.some renaming inj→ą
open False renaming elim→Ĉ
open Array renaming getElem?_eq_some_iff→ď,length_toList→œ,getElem?_eq_getElem→Š
open Ne renaming symm→Ě
open PySem.Builtin.Slice renaming slicePlaces→ě,sliceAdjust→Ķ,sliceApplied→Ś
open PySem.Builtin.Tuple renaming tupleExact→Ġ
open PySem.W.Looks renaming here→ĩ,ld→Sz
open PySem.W.Frag renaming In→ī
open PySem.F renaming excBase_ValueError→ı,args_tuple_add_2→Ĺ,entry_tuple_add→Ŀ,slot_tuple_add→Ņ,slot_str_split→ō,args_str_split_2→Ş,entry_str_split→ũ,plainAttrs_list→Ų,slot_tuple_index→Sg,plainAttrs_str→SA,slot_int_rmul→SK
open PySem.Builtin.List renaming listTooLong→ĺ
open Classical renaming propDecidable→Ł,choose_spec→RN
open Std.Legacy renaming Range→Ŏ
open Int renaming emod_lt_of_pos→ş,toNat_natCast→Ũ,emod_nonneg→OQ
open PySem.SeqAt renaming notIn_tuple_reads→Ű,in_tuple_reads→RQ
open PySem.StrLaws renaming glued_eq_join→RI
open PySem.EntryCells renaming newEntry→RW
open Or renaming inr→R9,inl→SV
open True renaming intro→Sd
open PySem.ScopeKind renaming function→Sf
open PySem.Around renaming under→Sj
open PySem.Code renaming isFrame→Sk
open PySem.PassesOwn renaming leaving→So
open PySem.Str renaming length→SR,empty→SX
open PyProof.Rows.IsTup renaming new→SY
local macro_rules
 | `(tactic| nofun)=>`(tactic| first | decide | lia | omega)
local macro_rules
 | `(tactic| symm)=>`(tactic| decide +kernel)
namespace L2
noncomputable section
open PySem PySem.Spec PyProof.Rows
variable {pins dm:List (Addr×Obj)} {K:Å} {A:Around} {P:ó} {mg:Str→Option Ã} {u:Ã} {x:Str} {w:Đ} {us its:List Ã} {b a it:Addr} {f:Ã→Ã→Sem Ã} {t' i tk j:Nat} {Q E:Ã→Ç→Prop} {h base:Heap} {fp ch:List Addr} {kw:List (Str×Ã)} {ps N:List Str} {fd:FuncData} {g:Int→Int→Int} {tg e iter c:Expr} {outer:List Env} {op:CmpOp} {C:Int→Int→Prop} {g':Array GenState} {vs:Array Ã} {p:Addr×Obj} {body:List Stmt} {s':Ç} {n:String} {sc:Scope} {β α:Type} {k':Bool} {pos' pos:Pos} {lo hi:Int}
abbrev Key:=Sum Int Str
def CK:Key→Ã→Bool
 | .inl k,v=>Value.isInt k v
 | .inr x,v=>Value.isStrOf x v
def KH (w:Đ):Key→Int
 | .inl k=>hashInt k
 | .inr x=>hashStr w x
theorem bX:∀ {k:Key} {v:Ã},CK k v=Á→(∃ i t,k=Sum.inl i∧v=Value.int i t)∨(∃ x t,k=Sum.inr x∧v=Value.str x t)
 | .inl i,v,h=>by obtain ⟨t,e⟩:=Value.isInt_shape (k:=i) (v:=v) h;exact .inl ⟨i,t,rfl,e⟩
 | .inr x,v,h=>by obtain ⟨t,e⟩:=Value.isStrOf_shape (x:=x) (v:=v) h;exact .inr ⟨x,t,rfl,e⟩
theorem Dw (a b:Int):decide ((Sum.inl a:Key)=Sum.inl b)=(a==b):=by
 by_cases e:a=b
 ·subst e;simp
 ·have h:¬ (Sum.inl a:Key)=Sum.inl b:=λq=>e (Sum.inl.inj q);rw [decide_eq_false h];exact (beq_eq_false_iff_ne.mpr e).symm
theorem Dy (a b:Str):decide ((Sum.inr a:Key)=Sum.inr b)=decide (a=b):=by
 by_cases e:a=b
 ·subst e;simp
 ·have h:¬ (Sum.inr a:Key)=Sum.inr b:=λq=>e (Sum.inr.inj q);rw [decide_eq_false h,decide_eq_false e]
theorem Dz (a:Int) (b:Str):decide ((Sum.inl a:Key)=Sum.inr b)=Â:=decide_eq_false (λq=>nomatch q)
theorem DA (a:Str) (b:Int):decide ((Sum.inr a:Key)=Sum.inl b)=Â:=decide_eq_false (λq=>nomatch q)
def o6 (prog:ó) (w:Đ):PySem.KeyKind prog w Key where
 is:=CK
 hash:=KH w
 inj:=λv a b ha hb=>by
  rcases bX ha with ⟨i,t,rfl,rfl⟩ | ⟨x,t,rfl,rfl⟩
  ·rcases bX hb with ⟨j,u,rfl,e⟩ | ⟨y,u,rfl,e⟩
   ·injection e with e1 _;rw [e1]
   ·exact nomatch e
  ·rcases bX hb with ⟨j,u,rfl,e⟩ | ⟨y,u,rfl,e⟩
   ·exact nomatch e
   ·injection e with e1 _;rw [e1]
 byValue:=λk v h=>by rcases bX h with ⟨i,t,rfl,rfl⟩ | ⟨x,t,rfl,rfl⟩<;>rfl
 pyHash:=λhv h=>by
  rcases bX hv with ⟨i,t,rfl,rfl⟩ | ⟨x,t,rfl,rfl⟩
  ·exact wpAny_pyHash_int h
  ·exact wpAny_pyHash_str h
 eqBool:=λhu hv h=>by
  rcases bX hu with ⟨i,t,rfl,rfl⟩ | ⟨x,t,rfl,rfl⟩
  ·rcases bX hv with ⟨j,u,rfl,rfl⟩ | ⟨y,u,rfl,rfl⟩
   ·rw [Dw] at h;exact wpAny_eqBool_int h
   ·rw [Dz] at h;exact SeqAt.EqAt.int_str i t y u _ _ _ _ h
  ·rcases bX hv with ⟨j,u,rfl,rfl⟩ | ⟨y,u,rfl,rfl⟩
   ·rw [DA] at h;exact SeqAt.EqAt.str_int x t j u _ _ _ _ h
   ·rw [Dy] at h;exact Sv h
 «strs»:=λk x t v h=>by
  rcases bX h with ⟨i,u,rfl,e⟩ | ⟨y,u,rfl,e⟩
  ·exact nomatch e
  ·injection e with e1 _;subst e1;cases v<;>rfl
inductive V where
 | dR | bl (b:Bool) | int (i:Int) | str (x:Str) | GU (b:Array UInt8) | GV (b:UInt64) | ref (a:Addr) | ty (n:String)
 deriving DecidableEq
variable {v y:V} {xs:List V}
def RelV:V→Ã→Prop
 | .dR,u=>u=Value.none
 | .bl b,u=>u=Value.bool b
 | .int i,u=>∃ t,u=Value.int i t
 | .str x,u=>∃ t,u=Value.str x t
 | .GU b,u=>∃ t,u=Value.bytes b t
 | .GV b,u=>∃ t,u=Value.float b t
 | .ref a,u=>u=Value.ref a
 | .ty n,u=>u=Value.type n
abbrev Vals:List V→List Ã→Prop:=Paired RelV
theorem Vals.length (r:Vals xs us):xs.length=us.length:=Paired.length r
theorem Vals.get:∀ {xs:List V} {us:List Ã} {i:Nat} {x:V},Vals xs us→xs[i]?=À x→∃ u,us[i]?=À u∧RelV x u
 | _,_,_,_,.nil,e=>by simp at e
 | _,_,0,_,.cons r _,e=>by simp at e;subst e;exact ⟨_,rfl,r⟩
 | _,_,i+1,x,.cons _ t,e=>by obtain ⟨u,h1,h2⟩:=Vals.get (i:=i) (x:=x) t (by simpa using e);exact ⟨u,by simpa using h1,h2⟩
theorem Vals.append:∀ {xs ys:List V} {us ws:List Ã},Vals xs us→Vals ys ws→Vals (xs++ys) (us++ws)
 | _,_,_,_,.nil,s=>s
 | _,_,_,_,.cons r t,s=>.cons r (Vals.append t s)
theorem Vals.take:∀ {xs:List V} {us:List Ã} (n:Nat),Vals xs us→Vals (xs.take n) (us.take n)
 | _,_,0,_=>.nil
 | _,_,_+1,.nil=>.nil
 | _,_,n+1,.cons r t=>.cons r (Vals.take n t)
theorem Vals.drop:∀ {xs:List V} {us:List Ã} (n:Nat),Vals xs us→Vals (xs.drop n) (us.drop n)
 | _,_,0,r=>r
 | _,_,_+1,.nil=>.nil
 | _,_,n+1,.cons _ t=>Vals.drop n t
def AI:Option V→Option Ã→Prop
 | some v,À u=>RelV v u
 | none,Æ=>True
 | _,_=>False
def KV {κ:Type}:List (κ×V)→List (κ×Ã)→Prop:=Paired λ(p:κ×V) (q:κ×Ã)=>p.1=q.1∧RelV p.2 q.2
def kV:Key→V
 | .inl i=>.int i
 | .inr x=>.str x
inductive HO where
 | lst (xs:List V)
 | tup (xs:List V)
 | dK (kvs:List (Key×V)) | dT (kvs:List (List Key×V))
 | set (S:Int→Bool) (n:Nat)
 | ins (C dx:Addr) (fs:List (Str×V))
 | own (x:Addr)
 | xd (fs:List (Str×V))
 | met (f x:Addr)
 | uA (lo hi:Int)
 | di (o:Obj) (u:HO)
 | iy (ps:Array Ã)
 | ext (φ:Heap→Prop)
abbrev Hp:=Addr→Option HO
variable {H:Hp}
def upd (H:Hp) (a:Addr) (o:HO):Hp:=λb=>if b=a then À o else H b
theorem cB {o:HO}:upd H a o a=À o:=by unfold upd;rw [if_pos rfl]
theorem aD {o:HO} (h:b≠a):upd H a o b=H b:=by unfold upd;rw [if_neg h]
theorem iz {o u:HO} (h:H a=À o) (h':H b=À u) (d:o≠u):a≠b:=by intro e;subst e;rw [h] at h';exact d (ą h')
theorem aS {o:HO} (h:H a=À o) (h':H b=Æ):a≠b:=by intro e;subst e;rw [h] at h';cases h'
section
variable (P:ó) (w:Đ)
def ef (H:Hp) (h:Heap) (a:Addr):HO→Prop
 | .lst xs=>xs.length≤Ä∧∃ (its:List Ã) (n:Nat),Vals xs its∧h.get? a=À {cls:=.type "list",data:=.seq its.toArray n}
 | .tup xs=>xs.length≤Ä∧∃ its:List Ã,Vals xs its∧IsTup h a its.toArray
 | .dK kvs=>kvs.length≤Ä∧(a==sysModules)=Â∧∃ vs,KV kvs vs∧h.DictOf (o6 P w) a vs
 | .dT kvs=>kvs.length≤Ä∧(a==sysModules)=Â∧∃ xs:List (List Key×Addr×Ã),
   Paired (λ(p:List Key×V) (q:List Key×Addr×Ã)=>p.1=q.1∧H q.2.1=À (.tup (p.1.map kV))∧RelV p.2 q.2.2) kvs xs ∧
   ∃ o es ep,h.get? a=À o∧o.ExactDict∧o.data=.dict es ep∧es.toList=xs.map (entryOfKey (tupleKind (o6 P w)))∧(xs.map (·.1)).Nodup
 | .set S n=>h.SetOf (intKind P w) a S n
 | .ins C dx fs=>H dx=À (.own a)∧fs.length≤1000∧dx≠a∧h.get? a=À (SH C dx) ∧
   ∃ mA,h.Ns1 dx mA∧(∀ f,AI (fs.lookup f) (mA f))∧PySem.Within mA (fs.map (·.1))
 | .own _=>∃ o,h.get? a=À o
 | .xd fs=>∃ mA,h.Ns1 a mA∧∀ f,AI (fs.lookup f) (mA f)
 | .uA lo hi=>∃ t u v,h.get? a=À {cls:=.type "range",data:=.fields #[.int lo t,.int hi u,.int 1 v]}
 | .di o u=>h.get? a=À o∧ef H h a u
 | .iy ps=>h.get? a=À {cls:=.none,data:=.fields ps}
 | .met f x=>h.get? a=À (ť (.ref f) (.ref x))
 | .ext φ=>φ h∧(∃ o,h.get? a=À o)∧∀ h1 h2:Heap,φ h1→(∀ o,h1.get? a=À o→h2.get? a=À o)→φ h2
def iA (H:Hp) (h:Heap):Prop:=∀ a o,H a=À o→ef P w H h a o
end
section
variable {P:ó} {w:Đ} {H H':Hp} {h h':Heap} {a:Addr} {o:HO}
theorem ef.lt (x:ef P w H h a o):a<h.objs.size:=by
 cases o with
 | lst xs=>obtain ⟨_,_,_,_,e⟩:=x;exact Ï e
 | tup xs=>obtain ⟨_,_,_,p⟩:=x;exact p.lt
 | dK kvs=>obtain ⟨_,_,_,_,o,_,_,e,_⟩:=x;exact Ï e
 | dT kvs=>obtain ⟨_,_,_,_,o,_,_,e,_⟩:=x;exact Ï e
 | set S n=>obtain ⟨o,_,_,_,e,_⟩:=x;exact Ï e
 | ins C dx fs=>obtain ⟨_,_,_,e,_⟩:=x;exact Ï e
 | own y=>obtain ⟨_,e⟩:=x;exact Ï e
 | xd fs=>obtain ⟨_,⟨_,_,_,e,_⟩,_⟩:=x;exact Ï e
 | uA lo hi=>obtain ⟨_,_,_,e⟩:=x;exact Ï e
 | di ob u=>obtain ⟨e,_⟩:=x;exact Ï e
 | iy ps=>exact Ï (show h.get? a=À _ from x)
 | met f y=>exact Ï (show h.get? a=À _ from x)
 | ext φ=>obtain ⟨_,⟨_,e⟩,_⟩:=x;exact Ï e
theorem Paired.DB {F G:α→β→Prop}:∀ {l₁:List α} {l₂:List β},Paired F l₁ l₂→(∀ a b,F a b→G a b)→Paired G l₁ l₂
 | _,_,.nil,_=>.nil
 | _,_,.cons r t,f=>.cons (f _ _ r) (Paired.DB t f)
theorem ef.stay (x:ef P w H h a o) (k:∀ b u,(b=a∨H b=À (.own a))→h.get? b=À u→h'.get? b=À u)
  (ho:∀ b,H b=À (.own a)→H' b=À (.own a)) (ht:∀ b xs,H b=À (.tup xs)→H' b=À (.tup xs)):ef P w H' h' a o:=by
 induction o with
 | lst xs=>obtain ⟨z,its,n,r,e⟩:=x;exact ⟨z,its,n,r,k _ _ (.inl rfl) e⟩
 | tup xs=>obtain ⟨z,its,r,ob,e,c⟩:=x;exact ⟨z,its,r,ob,k _ _ (.inl rfl) e,c⟩
 | dK kvs=>obtain ⟨z,y,vs,r,ob,es,ep,e,c⟩:=x;exact ⟨z,y,vs,r,ob,es,ep,k _ _ (.inl rfl) e,c⟩
 | dT kvs=>obtain ⟨z,y,xs,r,ob,es,ep,e,c⟩:=x;exact ⟨z,y,xs,Paired.DB r λp q z=>⟨z.1,ht _ _ z.2.1,z.2.2⟩,ob,es,ep,k _ _ (.inl rfl) e,c⟩
 | set S n=>obtain ⟨ob,es,ep,t,e,c⟩:=x;exact ⟨ob,es,ep,t,k _ _ (.inl rfl) e,c⟩
 | ins C dx fs=>obtain ⟨d,z,ne,e,mA,⟨od,es,ep,e2,c⟩,r⟩:=x;exact ⟨ho _ d,z,ne,k _ _ (.inl rfl) e,mA,⟨od,es,ep,k _ _ (.inr d) e2,c⟩,r⟩
 | own y=>obtain ⟨ob,e⟩:=x;exact ⟨ob,k _ _ (.inl rfl) e⟩
 | xd fs=>obtain ⟨mA,⟨od,es,ep,e,c⟩,r⟩:=x;exact ⟨mA,⟨od,es,ep,k _ _ (.inl rfl) e,c⟩,r⟩
 | uA lo hi=>obtain ⟨t,u,v,e⟩:=x;exact ⟨t,u,v,k _ _ (.inl rfl) e⟩
 | di ob u ih=>obtain ⟨e,q⟩:=x;exact ⟨k _ _ (.inl rfl) e,ih q⟩
 | iy ps=>have e:h.get? a=À {cls:=.none,data:=.fields ps}:=x;show h'.get? a=À {cls:=.none,data:=.fields ps};exact k a _ (.inl rfl) e
 | met f y=>have e:h.get? a=À (ť (.ref f) (.ref y)):=x;show h'.get? a=À (ť (.ref f) (.ref y));exact k a _ (.inl rfl) e
 | ext φ=>obtain ⟨p,⟨o,e⟩,st⟩:=x;exact ⟨st _ _ p λo q=>k _ _ (.inl rfl) q,⟨o,k _ _ (.inl rfl) e⟩,st⟩
theorem iA.lt (x:iA P w H h) (e:H a=À o):a<h.objs.size:=(x a o e).lt
theorem iA.fresh (x:iA P w H h) (e:h.objs.size≤a):H a=Æ:=by
 cases q:H a with
 | none=>rfl
 | some u=>exact absurd (Ë (x.lt q) e) (Ą _)
theorem iA.kept (x:iA P w H h) (k:∀ b u,h.get? b=À u→h'.get? b=À u):iA P w H h':=λa o e=>
 (x a o e).stay (λb u _ q=>k b u q) (λ_ q=>q) λ_ _ q=>q
theorem iA.laid (x:iA P w H h) (k:∀ b u,h.get? b=À u→h'.get? b=À u) (hp:h.objs.size≤a) (new:ef P w (upd H a o) h' a o):iA P w (upd H a o) h':=λb u e=>by
 have hn:=x.fresh hp;by_cases hb:b=a
 ·subst hb;rw [cB] at e;cases e;exact new
 ·rw [aD hb] at e;exact (x b u e).stay (λc v _ q=>k c v q) (λc q=>by rw [aD (aS q hn)];exact q) λc xs q=>by rw [aD (aS q hn)];exact q
end
def Rd (H:Hp) (a:Addr) (u:HO):Prop:=H a=À u∨∃ o,H a=À (.di o u)
theorem Rd.ok {u:HO} (r:Rd H a u) (x:iA P w H h):ef P w H h a u:=by
 rcases r with r | ⟨o,r⟩
 ·exact x a u r
 ·obtain ⟨_,q⟩:=x a _ r;exact q
def JV:Option HO→Prop
 | some (.lst _)=>True
 | some (.dK _)=>True
 | some (.dT _)=>True
 | some (.set _ _)=>True
 | some (.ins _ _ _)=>True
 | some (.ext _)=>True
 | _=>False
section
variable {P:ó} {w:Đ} {H:Hp} {h h':Heap} {x e:Addr} {o':HO}
theorem iA.write (ok:iA P w H h) (mu:JV (H x)) (he:e=x∨H e=À (.own x)) (k:∀ b u,b≠e→h.get? b=À u→h'.get? b=À u) (GC:∃ u,h'.get? e=À u)
  (new:ef P w (upd H x o') h' x o'):iA P w (upd H x o') h':=λb u q=>by
 have GW:∀ c y,H c=À (.own y)→c≠x:=λc y r z=>by subst z;rw [r] at mu;exact mu
 have KI:∀ c xs,H c=À (.tup xs)→c≠x:=λc xs r z=>by subst z;rw [r] at mu;exact mu
 by_cases hb:b=x
 ·subst hb;rw [cB] at q;cases q;exact new
 ·rw [aD hb] at q;by_cases Ay:b=e
  ·have q':H b=À (.own x):=by
    rcases he with z | z
    ·exact absurd (Ay.trans z) hb
    ·rw [Ay];exact z
   rw [q] at q';cases q';obtain ⟨v,hv⟩:=GC;exact ⟨v,by rw [Ay];exact hv⟩
  ·refine (ok b u q).stay (λc v hc r=>k c v ?_ r) (λc r=>by rw [aD (GW c b r)];exact r) λc xs r=>by rw [aD (KI c xs r)];exact r
   rcases hc with rfl | hc
   ·exact Ay
   ·rintro rfl;rcases he with z | z
    ·exact GW c b hc z
    ·rw [hc] at z;cases z;exact hb rfl
end
structure Un (fs ex:List Addr) (H H':Hp) (h h':Heap):Prop where
 keep:∀ b o,h.get? b=À o→H b=Æ→b∉fs→b∉ex→h'.get? b=À o
 slot:∀ b o,h.get? b=À o→H b=Æ→b∈fs→b∉ex→∃ sl,h'.get? b=À {o with slots:=sl}
 free:∀ b o,h.get? b=À o→H b=Æ→b∉ex→H' b=Æ
 there:∀ b o,h.get? b=À o→b∉ex→∃ o',h'.get? b=À o'
 tups:∀ b xs,H b=À (.tup xs)→H' b=À (.tup xs)
 gK:∀ b o u,H b=À (.di o u)→H' b=À (.di o u)
 i9:∀ b ps,H b=À (.iy ps)→∃ more,H' b=À (.iy (ps++more))
section
variable {fs fs' ex ex':List Addr} {H H1 H2:Hp} {h h1 h2 h':Heap} {a x e:Addr} {o:HO}
theorem Un.any (u:Un fs ex H H1 h h1) {b:Addr} {ob:Obj} (q:h.get? b=À ob) (n:H b=Æ) (hx:b∉ex):∃ sl,h1.get? b=À {ob with slots:=sl}:=by
 by_cases hb:b∈fs
 ·exact u.slot b ob q n hb hx
 ·exact ⟨ob.slots,u.keep b ob q n hb hx⟩
theorem Un.kept (k:∀ b u,h.get? b=À u→h'.get? b=À u):Un fs ex H H h h':=
 ⟨λb ob q _ _ _=>k b ob q,λb ob q _ _ _=>⟨ob.slots,k b ob q⟩,λ_ _ _ n _=>n,λb ob q _=>⟨ob,k b ob q⟩,λ_ _ q=>q,λ_ _ _ q=>q,λ_ ps q=>⟨#[],by rw [q];simp⟩⟩
theorem Un.refl:Un fs ex H H h h:=Un.kept λ_ _ q=>q
theorem Un.laid (k:∀ b u,h.get? b=À u→h'.get? b=À u) (hp:h.objs.size≤a) (hn:H a=Æ):Un fs ex H (upd H a o) h h' where
 keep:=λb u q _ _ _=>k b u q
 slot:=λb u q _ _ _=>⟨u.slots,k b u q⟩
 free:=λb u q n _=>by rw [aD (ã (Ë (Ï q) hp))];exact n
 there:=λb u q _=>⟨u,k b u q⟩
 tups:=λb xs q=>by rw [aD (aS q hn)];exact q
 gK:=λb u xs q=>by rw [aD (aS q hn)];exact q
 i9:=λb ps q=>⟨#[],by rw [aD (aS q hn),q];simp⟩
theorem Un.write (mu:JV (H x)) (he:e=x∨H e=À (.own x)) (k:∀ b u,b≠e→h.get? b=À u→h'.get? b=À u) (GC:∃ u,h'.get? e=À u):Un fs ex H (upd H x o) h h':=by
 have hx:∀ b,H b=Æ→b≠x:=λb n z=>by subst z;rw [n] at mu;exact mu
 have hb:∀ b,H b=Æ→b≠e:=λb n z=>by
  subst z;rcases he with r | r
  ·exact hx b n r
  ·rw [n] at r;cases r
 have hm:∀ b u,H b=À u→¬ JV (À u)→b≠x:=λb u q nm z=>by subst z;rw [q] at mu;exact nm mu
 refine ⟨λb u q n _ _=>k b u (hb b n) q,λb u q n _ _=>⟨u.slots,k b u (hb b n) q⟩,λb u q n _=>by rw [aD (hx b n)];exact n,λb u q _=>?_,
  λb xs q=>by rw [aD (hm b _ q λz=>z)];exact q,λb u xs q=>by rw [aD (hm b _ q λz=>z)];exact q,λb ps q=>⟨#[],by rw [aD (hm b _ q λz=>z),q];simp⟩⟩
 by_cases Ay:b=e
 ·subst Ay;exact GC
 ·exact ⟨u,k b u Ay q⟩
end
def JW (h:Heap) (H:Hp):List Addr:=(ĥ h.objs.size).filter λa=>(H a).isSome
def o7 (h:Heap) (H:Hp):Heap:=Œ h (JW h H)
theorem vq (h:Heap) (H:Hp):(o7 h H).objs.size=h.objs.size:=PySem.W.hideAll_size _ _
theorem xB {o:Obj} (e:h.get? b=À o) (n:H b=Æ):(o7 h H).get? b=À o:=
 RV _ e λhm=>by have q:(H b).isSome=Á:=(Ļ.mp hm).2;rw [n] at q;simp at q
theorem AJ {o:Obj} (e:(o7 h H).get? b=À o):h.get? b=À o∧H b=Æ:=by
 have e':h.get? b=À o:=ŗ (JW h H) e;refine ⟨e',?_⟩;cases q:H b with
 | none=>rfl
 | some x=>have hm:b∈JW h H:=Ļ.mpr ⟨RO.mpr (Ï e'),by simp [q]⟩;have z:(o7 h H).get? b=Æ:=RP (JW h H) hm;rw [z] at e;cases e
def AK (g h:Heap) (L:Addr):List (Addr×Obj):=(ĥ h.objs.size).filterMap λa=>if a=L∨(g.get? a).isSome=Á then Æ else (h.get? a).map λo=>(a,o)
def rest (g h:Heap) (L d:Addr):List (Addr×Obj):=(AK g h L).filter λp=>decide (p.1≠d)
structure Mod (K:Å) (mg:Str→Option Ã) (base:Heap):Prop where
 GD:K.In base
 glob:base.Ns mainGlobals mg
 blt:∃ mb,base.Ns builtinsNs mb∧∀ x:Str,x≠"__name__"→mb x=bootBuiltins x
 nolimit:base.NoLimit
structure Cx where
 prog:ó
 w:Đ
 K:Å
 mg:Str→Option Ã
 base:Heap
 A:Around
 N:List Str
 s₀:Ç
 H₀:Hp
 env:Env
 outer:List Env
 stack:List Env
 ex:List Addr
 fn:Str→Bool
 calm:Bool
 pn:List (Addr×Obj)
 xe:Ã→Ç→Prop
variable {X:Cx}
def frs (l:List Env):List Addr:=l.filterMap (·.frame)
abbrev Cx.fs (X:Cx):List Addr:=frs X.outer
def xu (sc:Scope) (x:Str):Prop:=sc.names.lookup x=À .local∨sc.names.lookup x=À .cell∨sc.names.lookup x=À .free
def Loc (sc:Scope) (x:Str):Prop:=sc.names.lookup x=À .local∨sc.names.lookup x=À .cell
def Look (env:Env) (h:Heap) (m:Str→Option Ã) (x:Str) (u:Ã):Prop:=
 (env.kindOf x=À .local∧m x=À u)∨((env.kindOf x=À .cell∨env.kindOf x=À .free)∧∃ c,env.cells.lookup x=À c∧h.IsCell c (À u))
structure Cx.Ok (X:Cx):Prop where
 mod:Mod X.K X.mg X.base
 kind:X.env.scope.kind=.function
 glob:X.env.globals=mainGlobals
 blt:X.env.builtins=builtinsNs
 above:X.s₀.heap.objs.size≤X.env.locals
 inj:∀ x y c,X.env.cells.lookup x=À c→X.env.cells.lookup y=À c→x=y
 has:∀ x,(X.env.kindOf x=À .cell∨X.env.kindOf x=À .free)→∃ c,X.env.cells.lookup x=À c
 GF:∀ x c,X.fn x=Á→X.env.cells.lookup x=À c→X.s₀.heap.objs.size≤c
 hd:X.calm=Á→X.A.handled=Æ
 frames:X.A.frames=À X.stack
 stk:X.stack=X.outer∨(X.stack=X.env::X.outer∧X.env.frame=À X.env.locals)
 KJ:∀ b∈X.ex,b≠X.env.locals∧∀ x c,X.env.cells.lookup x=À c→c≠b
 bs:∀ b o,X.base.get? b=À o→X.s₀.heap.get? b=À o∧X.H₀ b=Æ
 xC:X.base.objs.size≤X.s₀.heap.objs.size
 vt:∀ b o,X.base.get? b=À o→b∉X.ex
 vz:∀ b∈X.ex,b∉X.fs
 ji:X.s₀.heap.FunFrames X.base X.outer
 Az:∀ b∈X.fs,X.H₀ b=Æ
structure Inv (X:Cx) (pins:List (Addr×Obj)) (σ:List (Option V)) (H:Hp) (s:Ç):Prop where
 ok:X.Ok
 os:s.os=X.s₀.os∧0<s.toks
 bare:AllBare s.gens
 base:Un X.fs X.ex X.H₀ H X.s₀.heap s.heap
 loc:∃ m,s.heap.Ns X.env.locals m∧∀ (i:Nat) (x:Str) (v:V),X.N[i]?=À x→σ[i]?=À (À v)→xu X.env.scope x→∃ u,RelV v u∧Look X.env s.heap m x u
 cell:∀ x c,X.env.cells.lookup x=À c→∃ v,s.heap.IsCell c v
 free:H X.env.locals=Æ
 fy:∀ x c,X.env.cells.lookup x=À c→H c=Æ∨(X.fn x=Â∧∃ o u,H c=À (.di o u))
 pin:∀ p∈X.pn++pins,s.heap.get? p.1=À p.2∧H p.1=Æ∧p.1≠X.env.locals∧p.1∉X.fs∧∀ v,p.2.data≠.cell v
 hok:iA X.prog X.w H s.heap
 len:σ.length=X.N.length
section
variable {X:Cx} {pins:List (Addr×Obj)} {σ:List (Option V)} {H H':Hp} {s:Ç} {h':Heap}
theorem Cx.Ok.KL (ok:X.Ok) {b:Addr} {o:Obj} (e:X.base.get? b=À o):b∉X.fs:=λhb=>by have:=(ok.ji.mem hb).1;rw [e] at this;cases this
theorem Inv.bs (I:Inv X pins σ H s):∀ b o,X.base.get? b=À o→s.heap.get? b=À o∧H b=Æ:=λb o e=>
 ⟨I.base.keep b o (I.ok.bs b o e).1 (I.ok.bs b o e).2 (I.ok.KL e) (I.ok.vt b o e),I.base.free b o (I.ok.bs b o e).1 (I.ok.bs b o e).2 (I.ok.vt b o e)⟩
theorem Inv.bk (I:Inv X pins σ H s):∀ b o,X.base.get? b=À o→s.heap.get? b=À o:=λb o e=>(I.bs b o e).1
theorem Inv.mod (I:Inv X pins σ H s):Mod X.K X.mg X.base:=I.ok.mod
theorem Inv.nD (I:Inv X pins σ H s):X.K.In s.heap:=I.ok.mod.GD.keeps I.bk
theorem Inv.nolimit (I:Inv X pins σ H s):s.heap.NoLimit:=I.ok.mod.nolimit.keeps I.bk
theorem Inv.fr (I:Inv X pins σ H s):∃ m,Fr X.base X.env.locals s.heap m:=
 let ⟨m,hn,_⟩:=I.loc
 ⟨m,hn,I.bk,Ć I.ok.xC I.ok.above⟩
theorem Inv.lt (I:Inv X pins σ H s):X.env.locals<s.heap.objs.size:=let ⟨_,hn,_⟩:=I.loc;hn.lt
theorem Inv.sz (I:Inv X pins σ H s):X.s₀.heap.objs.size≤s.heap.objs.size:=Ć I.ok.above (Si I.lt)
theorem Inv.KN (I:Inv X pins σ H s) {a:Addr} (h:s.heap.objs.size≤a):a∉X.fs:=λhb=>by obtain ⟨_,o,ho,_⟩:=I.ok.ji.mem hb;exact absurd (Ë (Ï ho) (Ć I.sz h)) (Ą _)
theorem Inv.xw (I:Inv X pins σ H s):∀ x c,X.env.cells.lookup x=À c→c≠X.env.locals:=λx c e z=>by obtain ⟨v,o,ho,hd⟩:=I.cell x c e;obtain ⟨m,⟨o',es,ep,ho',hd',_⟩,_⟩:=I.loc;rw [z,ho'] at ho;cases ho;rw [hd'] at hd;cases hd
theorem Inv.ji (I:Inv X pins σ H s):s.heap.FunFrames X.base X.outer:=by
 have all:∀ (l:List Env),(∀ b∈frs l,b∈X.fs)→X.s₀.heap.FunFrames X.base l→s.heap.FunFrames X.base l:=by
  intro l
  induction l with
  | nil=>intro _ _;trivial
  | cons env r ih=>intro hs hl;obtain ⟨hk,⟨L,o,hf,hn,ho,hd⟩,hr⟩:=hl;have hL:L∈X.fs:=hs L (by unfold frs;rw [Ă,hf];exact ô);obtain ⟨sl,e⟩:=I.base.slot L o ho (I.ok.Az L hL) hL λz=>I.ok.vz L z hL;exact ⟨hk,⟨L,_,hf,hn,e,hd⟩,ih (λb hb=>hs b (by unfold frs;rw [Ă,hf];exact Ù _ hb)) hr⟩
 exact all X.outer (λ_ hb=>hb) I.ok.ji
theorem Inv.stack (I:Inv X pins σ H s):s.heap.FunFrames X.base X.stack:=by
 rcases I.ok.stk with e | ⟨e,hf⟩
 ·rw [e];exact I.ji
 ·rw [e];obtain ⟨m,hn,_⟩:=I.loc;refine .cons (by rw [I.ok.kind];decide) hf hn ?_ I.ji;exact Heap.get?_none_of_le (Ć I.ok.xC I.ok.above)
theorem Inv.iB (I:Inv X pins σ H s):∀ b∈frs X.stack,b∈X.env.locals::X.fs:=λb hb=>by
 rcases I.ok.stk with e | ⟨e,hf⟩
 ·rw [e] at hb;exact Ù _ hb
 ·rw [e] at hb;unfold frs at hb;rw [Ă,hf] at hb;exact hb
theorem Inv.jy (I:Inv X pins σ H s):∀ b∈frs X.stack,H b=Æ:=λb hb=>by
 rcases Ò.mp (I.iB b hb) with e | hb
 ·rw [e];exact I.free
 ·obtain ⟨_,o,ho,_⟩:=I.ok.ji.mem hb;exact I.base.free b o ho (I.ok.Az b hb) λz=>I.ok.vz b z hb
theorem Inv.step {g':Array GenState} {t':Nat} {d':Drawn} (I:Inv X pins σ H s)
  (hch:∀ b∈ch,(b∈X.ex∨X.s₀.heap.objs.size≤b)∧b≠X.env.locals∧(∀ x c,X.env.cells.lookup x=À c→c≠b)∧∀ p∈X.pn++pins,p.1≠b)
  (keep:∀ b o,b≠X.env.locals→b∉X.fs→b∉ch→s.heap.get? b=À o→H b=Æ→h'.get? b=À o)
  (slot:∀ b o,b≠X.env.locals→b∈X.fs→b∉ch→s.heap.get? b=À o→H b=Æ→∃ sl,h'.get? b=À {o with slots:=sl}) (free:∀ b o,b∉ch→s.heap.get? b=À o→H b=Æ→H' b=Æ)
  (there:∀ b o,b∉ch→s.heap.get? b=À o→∃ o',h'.get? b=À o')
  (tups:∀ b xs,H b=À (.tup xs)→H' b=À (.tup xs)) (gK:∀ b o u,H b=À (.di o u)→H' b=À (.di o u)) (i9:∀ b ps,H b=À (.iy ps)→∃ more,H' b=À (.iy (ps++more)))
  (ns:∀ m,s.heap.Ns X.env.locals m→h'.Ns X.env.locals m) (hok:iA X.prog X.w H' h') (hg:AllBare g') (ht:0<t':=by first | exact ð _ | exact (Inv.os (by assumption)).2 | assumption | nofun) :
  Inv X pins σ H' {s with heap:=h',gens:=g',drawn:=d',toks:=t'}:=by
 have sQ:∀ b o,X.s₀.heap.get? b=À o→b≠X.env.locals:=λb o e=>ã (Ë (Ï e) I.ok.above);have AL:∀ b o,X.s₀.heap.get? b=À o→b∉X.ex→b∉ch:=λb o e hx hb=>by
  rcases (hch b hb).1 with z | z
  ·exact hx z
  ·exact absurd (Ë (Ï e) z) (Ą _)
 have cellK:∀ x c,X.env.cells.lookup x=À c→∀ v,s.heap.IsCell c v→h'.IsCell c v:=λx c e v zz=>by
  obtain ⟨o,ho,hd⟩:=zz;have GX:c∉ch:=λz=>(hch c z).2.2.1 x c e rfl;rcases I.fy x c e with hfr | ⟨_,fo,fu,hfr⟩
  ·by_cases hc:c∈X.fs
   ·obtain ⟨sl,q⟩:=slot c o (I.xw x c e) hc GX ho hfr;exact ⟨_,q,hd⟩
   ·exact ⟨o,keep c o (I.xw x c e) hc GX ho hfr,hd⟩
  ·have q1:=(I.hok c _ hfr).1;have q2:=(hok c _ (gK c fo fu hfr)).1;rw [ho] at q1;cases q1;exact ⟨o,q2,hd⟩
 refine ⟨I.ok,⟨I.os.1,ht⟩,hg,⟨λb o e n hb hx=>?_,λb o e n hb hx=>?_,λb o e n hx=>?_,λb o e hx=>?_,λb xs e=>tups b xs (I.base.tups b xs e),λb o xs e=>gK b o xs (I.base.gK b o xs e),λb ps e=>?_⟩,?_,λx c e=>?_,?_,λx c e=>?_,λp hp=>?_,hok,I.len⟩
 ·exact keep b o (sQ b o e) hb (AL b o e hx) (I.base.keep b o e n hb hx) (I.base.free b o e n hx)
 ·obtain ⟨sl,e1⟩:=I.base.slot b o e n hb hx;obtain ⟨GY,e2⟩:=slot b _ (sQ b o e) hb (AL b o e hx) e1 (I.base.free b o e n hx);exact ⟨GY,e2⟩
 ·obtain ⟨o',e1⟩:=I.base.there b o e hx;exact free b o' (AL b o e hx) e1 (I.base.free b o e n hx)
 ·obtain ⟨o',e1⟩:=I.base.there b o e hx;exact there b o' (AL b o e hx) e1
 ·obtain ⟨m1,e1⟩:=I.base.i9 b ps e;obtain ⟨m2,e2⟩:=i9 b _ e1;exact ⟨m1++m2,by rw [e2,Array.append_assoc]⟩
 ·obtain ⟨m,hn,hl⟩:=I.loc;refine ⟨m,ns m hn,λi x v e1 e2 e3=>?_⟩;obtain ⟨u,r,l⟩:=hl i x v e1 e2 e3;refine ⟨u,r,?_⟩;rcases l with l | ⟨k,c,e,z⟩
  ·exact .inl l
  ·exact .inr ⟨k,c,e,cellK x c e _ z⟩
 ·obtain ⟨v,z⟩:=I.cell x c e;exact ⟨v,cellK x c e v z⟩
 ·obtain ⟨m,⟨o,_,_,ho,_⟩,_⟩:=I.loc;exact free _ o (λz=>(hch _ z).2.1 rfl) ho I.free
 ·obtain ⟨v,o,ho,hd⟩:=I.cell x c e;rcases I.fy x c e with hfr | ⟨hx,fo,fu,hfr⟩
  ·exact .inl (free c o (λz=>(hch c z).2.2.1 x c e rfl) ho hfr)
  ·exact .inr ⟨hx,fo,fu,gK c fo fu hfr⟩
 ·obtain ⟨e,n,ne,nf,d⟩:=I.pin p hp;have GX:p.1∉ch:=λz=>(hch p.1 z).2.2.2 p hp rfl;exact ⟨keep p.1 p.2 ne nf GX e n,free p.1 p.2 GX e n,ne,nf,d⟩
theorem Inv.un (I:Inv X pins σ H s) (u:Un X.fs [] H H' s.heap h') (hok:iA X.prog X.w H' h') (ht:0<t':=by first | exact ð _ | exact (Inv.os (by assumption)).2 | assumption | nofun):Inv X pins σ H' {s with heap:=h',toks:=t'}:=by
 obtain ⟨m,⟨o,es,ep,ho,r⟩,_⟩:=id I.loc;obtain ⟨sl,hL⟩:=u.any ho I.free (by simp);exact I.step (g':=s.gens) (d':=s.drawn) (ch:=[]) (λ_ z=>nomatch z) (λb o _ hb _ e n=>u.keep b o e n hb (by simp)) (λb o _ hb _ e n=>u.slot b o e n hb (by simp)) (λb o _ e n=>u.free b o e n (by simp)) (λb o _ e=>u.there b o e (by simp)) u.tups u.gK u.i9 (λm' hm=>by obtain ⟨o',es',KO,ho',r'⟩:=hm;rw [ho] at ho';cases ho';exact ⟨_,es',KO,hL,r'⟩) hok I.bare
theorem Inv.call {d':Drawn} (I:Inv X pins σ H s) (u:Un (frs X.stack) ch H H' s.heap h') (hok:iA X.prog X.w H' h') (hg:AllBare g')
  (hch:∀ b∈ch,(b∈X.ex∨X.s₀.heap.objs.size≤b)∧b≠X.env.locals∧(∀ x c,X.env.cells.lookup x=À c→c≠b)∧∀ p∈X.pn++pins,p.1≠b) (ht:0<t':=by first | exact ð _ | exact (Inv.os (by assumption)).2 | assumption | nofun) :
  Inv X pins σ H' {s with heap:=h',gens:=g',drawn:=d',toks:=t'}:=by
 obtain ⟨m,⟨o,es,ep,ho,r⟩,_⟩:=id I.loc;obtain ⟨sl,hL⟩:=u.any ho I.free λz=>(hch _ z).2.1 rfl;exact I.step (ch:=ch) hch (λb o hL hb hc e n=>u.keep b o e n (λz=>(Ò.mp (I.iB b z)).elim hL hb) hc) (λb o _ _ hc e n=>u.any e n hc) (λb o hc e n=>u.free b o e n hc) (λb o hc e=>u.there b o e hc) u.tups u.gK u.i9 (λm' hm=>by obtain ⟨o',es',KO,ho',r'⟩:=hm;rw [ho] at ho';cases ho';exact ⟨_,es',KO,hL,r'⟩) hok hg
theorem Inv.turned (I:Inv X pins σ H s) (k:∀ b o,b≠it→s.heap.get? b=À o→h'.get? b=À o) (hn:H it=Æ) (hL:it≠X.env.locals)
  (h1:it∈X.ex∨X.s₀.heap.objs.size≤it) (h2:∀ x c,X.env.cells.lookup x=À c→c≠it) (h3:∀ p∈X.pn++pins,p.1≠it) (ht:0<t':=by first | exact ð _ | exact (Inv.os (by assumption)).2 | assumption | nofun):Inv X pins σ H {s with heap:=h',toks:=t'}:=by
 have MK:∀ b u,H b=À u→b≠it:=λb u e z=>by rw [z,hn] at e;cases e
 refine I.step (g':=s.gens) (d':=s.drawn) (ch:=[it]) (λb hb=>?_) (λb o _ _ hc e _=>k b o (λz=>hc (by simp [z])) e) (λb o _ _ hc e _=>⟨o.slots,k b o (λz=>hc (by simp [z])) e⟩) (λ_ _ _ _ n=>n)
  (λb o hc e=>⟨o,k b o (λz=>hc (by simp [z])) e⟩) (λ_ _ e=>e) (λ_ _ _ e=>e) (λb ps e=>⟨#[],by rw [e];simp⟩) (λm hm=>?_) (λb u e=>?_) I.bare
 ·have e:b=it:=by simpa using hb
  subst e;exact ⟨h1,hL,h2,h3⟩
 ·obtain ⟨o,es,ep,ho,r⟩:=hm;exact ⟨o,es,ep,k _ o (Ě hL) ho,r⟩
 ·refine (I.hok b u e).stay (λc v hc q=>k c v ?_ q) (λ_ q=>q) λ_ _ q=>q;rcases hc with z | z
  ·rw [z];exact MK b u e
  ·exact MK c _ z
theorem Inv.tok (I:Inv X pins σ H s) (t':Nat) (ht:0<t':=by first | exact ð _ | exact (Inv.os (by assumption)).2 | assumption | nofun):Inv X pins σ H {s with toks:=t'}:=I.un (h':=s.heap) (t':=t') Un.refl I.hok
theorem ic {α:Type} {M:Model} {t:Sem α} {Q:α→Ç→Prop} {s:Ç} (h:0<s.toks) (h':Û M A t (λa s'=>0<s'.toks→Q a s') (λe s'=>0<s'.toks→E e s') s):Û M A t Q E s:=wpAny_with_toks (n:=1) h h'
theorem Inv.kept (I:Inv X pins σ H s) (k:∀ b u,s.heap.get? b=À u→h'.get? b=À u) (ht:0<t':=by first | exact ð _ | exact (Inv.os (by assumption)).2 | assumption | nofun):Inv X pins σ H {s with heap:=h',toks:=t'}:=I.un (Un.kept k) (I.hok.kept k)
theorem Inv.laid {o:HO} (I:Inv X pins σ H s) (k:∀ b u,s.heap.get? b=À u→h'.get? b=À u) (hp:s.heap.objs.size≤a) (new:ef X.prog X.w (upd H a o) h' a o) (ht:0<t':=by first | exact ð _ | exact (Inv.os (by assumption)).2 | assumption | nofun) :
  Inv X pins σ (upd H a o) {s with heap:=h',toks:=t'}:=I.un (Un.laid k hp (I.hok.fresh hp)) (I.hok.laid k hp new)
theorem Inv.write {x e:Addr} {o:HO} (I:Inv X pins σ H s) (mu:JV (H x)) (he:e=x∨H e=À (.own x)) (k:∀ b u,b≠e→s.heap.get? b=À u→h'.get? b=À u) (GC:∃ u,h'.get? e=À u)
  (new:ef X.prog X.w (upd H x o) h' x o) (ht:0<t':=by first | exact ð _ | exact (Inv.os (by assumption)).2 | assumption | nofun):Inv X pins σ (upd H x o) {s with heap:=h',toks:=t'}:=I.un (Un.write mu he k GC) (I.hok.write mu he k GC new)
theorem Inv.o8 (I:Inv X pins σ H s) (h:∀ p∈dm,s.heap.get? p.1=À p.2∧H p.1=Æ∧p.1≠X.env.locals∧p.1∉X.fs∧∀ v,p.2.data≠.cell v):Inv X dm σ H s:=
 ⟨I.ok,I.os,I.bare,I.base,I.loc,I.cell,I.free,I.fy,λp hp=>(ñ.mp hp).elim (λz=>I.pin p (ì _ z)) (h p),I.hok,I.len⟩
theorem lM (hN:N.Nodup) {i j:Nat} {x:Str} (a:N[i]?=À x) (b:N[j]?=À x):i=j:=by obtain ⟨h1,e1⟩:=É.mp a;obtain ⟨h2,e2⟩:=É.mp b;exact (Ō hN).mp (e1.trans e2.symm)
theorem nU {M:Model} {A:Around} {E:Ã→Ç→Prop} {Q:Unit→Ç→Prop} (I:Inv X pins σ H s) (hN:X.N.Nodup) (hi:X.N[i]?=À x) (hx:Loc X.env.scope x) (r:RelV v u)
  (h:∀ s',Inv X pins (σ.set i (À v)) H s'→(∃ a,Ĵ a s.heap s'.heap∧(a=X.env.locals∨X.env.cells.lookup x=À a))→Q () s') (hf:X.fn x=Á∨X.env.scope.names.lookup x=À .local:=by first | exact .inl rfl | exact .inr rfl | assumption):Û M A (storeName X.env x u) Q E s:=by
 obtain ⟨m,hn,hl⟩:=id I.loc;have hcls:(X.env.scope.kind==.class||(X.env.scope.kind==.module&&X.env.locals != X.env.globals))=Â:=by rw [I.ok.kind];rfl
 have GZ:i<σ.length:=by rw [I.len];exact (É.mp hi).1
 have xw:=I.xw;have tracked:∀ {a:Addr} {h':Heap},(∃ o,s.heap.get? a=À o∧H a=Æ)→Ĵ a s.heap h'→iA X.prog X.w H h':=λ{a h'} ha hs b ob e=>by
  obtain ⟨_,_,hfree⟩:=ha;refine (I.hok b ob e).stay (λc w' hc q=>(hs.2 c ?_).trans q) (λ_ q=>q) λ_ _ q=>q;rintro rfl;rcases hc with rfl | hc
  ·rw [hfree] at e;cases e
  ·rw [hfree] at hc;cases hc
 rcases hx with hk | hk
 ·refine Ŋ hk hn (λh' hn' hs=>?_) hcls;obtain ⟨oL,_,_,KP,_⟩:=id hn;refine h _ ⟨I.ok,⟨I.os.1,ð _⟩,I.bare,⟨λb o e n hb hx=>?_,λb o e n hb hx=>?_,I.base.free,λb o e hx=>?_,I.base.tups,I.base.gK,I.base.i9⟩,⟨_,hn',λj y v' e1 e2 e3=>?_⟩,λy c e=>?_,I.free,I.fy,λp hp=>?_,tracked ⟨oL,KP,I.free⟩ hs,by simpa using I.len⟩ ⟨_,hs,.inl rfl⟩
  ·exact (hs.2 b (ã (Ë (Ï e) I.ok.above))).trans (I.base.keep b o e n hb hx)
  ·obtain ⟨sl,e1⟩:=I.base.slot b o e n hb hx;exact ⟨sl,(hs.2 b (ã (Ë (Ï e) I.ok.above))).trans e1⟩
  ·obtain ⟨o',e1⟩:=I.base.there b o e hx;exact ⟨o',(hs.2 b (ã (Ë (Ï e) I.ok.above))).trans e1⟩
  ·by_cases hj:j=i
   ·subst hj;rw [hi] at e1;cases e1;rw [Ħ GZ] at e2;cases e2;exact ⟨u,r,.inl ⟨hk,by simp⟩⟩
   ·rw [ß (Ě hj)] at e2;obtain ⟨u',r',q⟩:=hl j y v' e1 e2 e3;refine ⟨u',r',?_⟩;rcases q with ⟨k,e⟩ | ⟨k,c,e,z⟩
    ·refine .inl ⟨k,?_⟩;have:y≠x:=λe=>hj (lM hN e1 (e▸hi));simp [this,e]
    ·exact .inr ⟨k,c,e,z.sameBut hs (xw y c e)⟩
  ·obtain ⟨w',z⟩:=I.cell y c e;exact ⟨w',z.sameBut hs (xw y c e)⟩
  ·obtain ⟨e,n,ne,nf,d⟩:=I.pin p hp;exact ⟨(hs.2 p.1 ne).trans e,n,ne,nf,d⟩
 ·have hfn:X.fn x=Á:=by
   rcases hf with z | z
   ·exact z
   ·rw [z] at hk;cases hk
  obtain ⟨c,hc⟩:=I.ok.has x (.inl hk);obtain ⟨w',z⟩:=I.cell x c hc;refine wpAny_storeName_cell I.ok.kind hk hc z (λh' hc' hs=>?_);obtain ⟨oc,hoc,KQ⟩:=id z;refine h {s with heap:=h'} ⟨I.ok,I.os,I.bare,⟨λb o e n hb hx=>?_,λb o e n hb hx=>?_,I.base.free,λb o e hx=>?_,I.base.tups,I.base.gK,I.base.i9⟩,⟨m,hn.sameBut hs (Ě (xw x c hc)),λj y v' e1 e2 e3=>?_⟩,λy c' e=>?_,I.free,I.fy,λp hp=>?_,tracked ⟨oc,hoc,(I.fy x c hc).resolve_right λz=>by rw [hfn] at z;cases z.1⟩ hs,by simpa using I.len⟩ ⟨c,hs,.inr hc⟩
  ·exact (hs.2 b (ã (Ë (Ï e) (I.ok.GF x c hfn hc)))).trans (I.base.keep b o e n hb hx)
  ·obtain ⟨sl,e1⟩:=I.base.slot b o e n hb hx;exact ⟨sl,(hs.2 b (ã (Ë (Ï e) (I.ok.GF x c hfn hc)))).trans e1⟩
  ·obtain ⟨o',e1⟩:=I.base.there b o e hx;exact ⟨o',(hs.2 b (ã (Ë (Ï e) (I.ok.GF x c hfn hc)))).trans e1⟩
  ·by_cases hj:j=i
   ·subst hj;rw [hi] at e1;cases e1;rw [Ħ GZ] at e2;cases e2;exact ⟨u,r,.inr ⟨.inl hk,c,hc,hc'⟩⟩
   ·rw [ß (Ě hj)] at e2;obtain ⟨u',r',q⟩:=hl j y v' e1 e2 e3;refine ⟨u',r',?_⟩;rcases q with q | ⟨k,c',e,z'⟩
    ·exact .inl q
    ·refine .inr ⟨k,c',e,z'.sameBut hs ?_⟩;rintro rfl;exact hj (lM hN e1 (I.ok.inj _ _ _ e hc▸hi))
  ·by_cases hcc:c'=c
   ·subst hcc;exact ⟨_,hc'⟩
   ·obtain ⟨w2,z2⟩:=I.cell y c' e;exact ⟨w2,z2.sameBut hs hcc⟩
  ·obtain ⟨e,n,ne,nf,d⟩:=I.pin p hp;refine ⟨(hs.2 p.1 ?_).trans e,n,ne,nf,d⟩;intro q;rw [q,hoc] at e;have q':oc=p.2:=ą e;exact d w' (by rw [← q'];exact KQ)
theorem jz {M:Model} {A:Around} {E:Ã→Ç→Prop} {Q:Unit→Ç→Prop} (I:Inv X pins σ H s) (hN:X.N.Nodup) (hi:X.N[i]?=À x) (hx:Loc X.env.scope x) (r:RelV v u)
  (h:∀ s',Inv X pins (σ.set i (À v)) H s'→Q () s') (hf:X.fn x=Á∨X.env.scope.names.lookup x=À .local:=by first | exact .inl rfl | exact .inr rfl | assumption):Û M A (storeName X.env x u) Q E s:=
 nU I hN hi hx r (λs' I' _=>h s' I') hf
theorem Inv.xD (I:Inv X pins σ H s) (ho:s'.os=s.os∧0<s'.toks) (u:Un (frs X.stack) ch H H' s.heap s'.heap) (hok:iA X.prog X.w H' s'.heap) (hg:AllBare s'.gens)
  (hch:∀ b∈ch,(b∈X.ex∨X.s₀.heap.objs.size≤b)∧b≠X.env.locals∧(∀ x c,X.env.cells.lookup x=À c→c≠b)∧∀ p∈X.pn++pins,p.1≠b):Inv X pins σ H' s':=by
 obtain ⟨h',g',d',t',o'⟩:=s';have e:o'=s.os:=ho.1;have ht:0<t':=ho.2;subst e;exact I.call (g':=g') (t':=t') (d':=d') u hok hg hch
end
abbrev XK:=Ã→Option Addr→Hp→Prop
abbrev St:=List (Option V)
variable {σ:St}
abbrev VK:=V→Hp→Prop
abbrev TE:=St→Hp→VK→Prop
abbrev TT:=St→Hp→(Bool→Hp→Prop)→Prop
abbrev TA:=St→Hp→(List V→Hp→Prop)→Prop
structure Ends where
 nx:St→Hp→Prop
 rt:VK
 bk:St→Hp→Prop:=λ_ _=>False
 ct:St→Hp→Prop:=λ_ _=>False
abbrev TS:=Ends→St→Hp→Prop
def EP (X:Cx) (pins:List (Addr×Obj)) (σ:St) (Q:VK) (u:Ã) (s':Ç):Prop:=∃ v H',Inv X pins σ H' s'∧RelV v u∧Q v H'
def TP (X:Cx) (pins:List (Addr×Obj)) (σ:St) (Q:Bool→Hp→Prop) (b:Bool) (s':Ç):Prop:=∃ H',Inv X pins σ H' s'∧Q b H'
def AP (X:Cx) (pins:List (Addr×Obj)) (σ:St) (Q:List V→Hp→Prop) (us:List Ã) (s':Ç):Prop:=∃ vs H',Inv X pins σ H' s'∧Vals vs us∧Q vs H'
def SP (X:Cx) (pins:List (Addr×Obj)) (D:Ends) (f:Flow) (s':Ç):Prop:=
 match f with
 | .next=>∃ σ' H',Inv X pins σ' H' s'∧D.nx σ' H'
 | .brk=>∃ σ' H',Inv X pins σ' H' s'∧D.bk σ' H'
 | .cont=>∃ σ' H',Inv X pins σ' H' s'∧D.ct σ' H'
 | .ret u=>∃ v σ' H',Inv X pins σ' H' s'∧RelV v u∧D.rt v H'
def PE (X:Cx) (e:Expr) (t:TE):Prop:=
 ∀ (pins:List (Addr×Obj)) (s:Ç) (σ:St) (H:Hp) (Q:VK),Inv X pins σ H s→t σ H Q→Û (model X.prog X.w) X.A (eval e X.env) (EP X pins σ Q) X.xe s
def PT (X:Cx) (e:Expr) (t:TT):Prop:=
 ∀ (pins:List (Addr×Obj)) (s:Ç) (σ:St) (H:Hp) (Q:Bool→Hp→Prop),Inv X pins σ H s→t σ H Q→Û (model X.prog X.w) X.A (isTrue e X.env (eval e X.env)) (TP X pins σ Q) X.xe s
def PW (X:Cx) (e:Expr) (t:TT):Prop:=
 ∀ (whole:Sem Ã) (pins:List (Addr×Obj)) (s:Ç) (σ:St) (H:Hp) (Q:Bool→Hp→Prop),Inv X pins σ H s→t σ H Q→Û (model X.prog X.w) X.A (isTrue e X.env whole) (TP X pins σ Q) X.xe s
theorem PW.pt {t:TT} (h:PW X e t):PT X e t:=h _
def PA (X:Cx) (es:List Expr) (t:TA):Prop:=
 ∀ (pos:Pos) (pins:List (Addr×Obj)) (s:Ç) (σ:St) (H:Hp) (Q:List V→Hp→Prop),Inv X pins σ H s→t σ H Q→Û (model X.prog X.w) X.A (spliced (backTo pos (Ô es X.env))) (AP X pins σ Q) X.xe s
def PS (X:Cx) (st:Stmt) (t:TS):Prop:=
 ∀ (pins:List (Addr×Obj)) (s:Ç) (σ:St) (H:Hp) (D:Ends),Inv X pins σ H s→t D σ H→Û (model X.prog X.w) X.A (exec st X.env) (SP X pins D) X.xe s
def uB (X:Cx) (st:List Stmt) (t:TS):Prop:=
 ∀ (pins:List (Addr×Obj)) (s:Ç) (σ:St) (H:Hp) (D:Ends),Inv X pins σ H s→t D σ H→Û (model X.prog X.w) X.A (execs st X.env) (SP X pins D) X.xe s
theorem eE {α:Type} {t:Sem α} {Q Q':α→Ç→Prop} {M:Model} {s:Ç} (h:Û M A t Q E s) (hQ:∀ a s,Q a s→Q' a s):Û M A t Q' E s:=ê h hQ λ_ _ x=>x
section
variable {X:Cx}
def G4 (i:Nat):TE:=λσ H Q=>∃ v,σ[i]?=À (À v)∧Q v H
def tC (v:V):TE:=λ_ H Q=>Q v H
theorem sR {pos:Pos} (hN:X.N[i]?=À x) (hv:xu X.env.scope x) (hd:(x==("__debug__":Str))=Â:=by decide) (hcd:(x==("__classdict__":Str))=Â:=by decide):PE X (.Name x pos) (G4 i):=by
 intro pins s σ H Q I h;obtain ⟨v,e,h⟩:=h;obtain ⟨m,hn,hl⟩:=I.loc;obtain ⟨u,r,l⟩:=hl i x v hN e hv;have fin:EP X pins σ Q u s:=⟨v,H,I,r,h⟩;rcases l with ⟨hk,hm⟩ | ⟨hk,c,hc,hcell⟩
 ·exact SQ (wpAny_loadName_local I.ok.kind hk hn hm fin) hd
 ·rcases hk with hk | hk
  ·exact SQ (wpAny_loadName_cell I.ok.kind hk hc hcell fin) hd
  ·exact SQ (wpAny_loadName_free I.ok.kind hk hc hcell fin hcd) hd
theorem DC {i j pos}:PE X (.Constant (.int i) j pos) (tC (.int i)):=λ_ _ _ H _ I h=>wpAny_Constant_int ⟨.int i,H,I.tok _,⟨_,rfl⟩,h⟩
theorem G5 {b j pos}:PE X (.Constant (.bool b) j pos) (tC (.bl b)):=λ_ _ _ H _ I h=>Constant_bool ⟨.bl b,H,I,rfl,h⟩
theorem DE {j pos}:PE X (.Constant .none j pos) (tC .dR):=λ_ _ _ H _ I h=>Constant_none ⟨.dR,H,I,rfl,h⟩
theorem DF {x j pos}:PE X (.Constant (.str x) j pos) (tC (.str x)):=λ_ _ _ H _ I h=>Ľ ⟨.str x,H,I.tok _,⟨_,rfl⟩,h⟩
def Gl (X:Cx) (x:Str):Prop:=X.env.kindOf x=À .globalImplicit
theorem gM {E:Ã→Ç→Prop} {s:Ç} {pos:Pos} (I:Inv X pins σ H s) (hg:Gl X x) (hm:X.mg x=À u) (h:Q u s)
  (hd:(x==("__debug__":Str))=Â:=by decide):Û (model X.prog X.w) X.A (eval (.Name x pos) X.env) Q E s:=
 Ř I.ok.kind hg (Calls.loadGlobal_global (by rw [I.ok.glob];exact I.mod.glob.keeps I.bk) hm h) hd
theorem gw {E:Ã→Ç→Prop} {s:Ç} {pos:Pos} (I:Inv X pins σ H s) (hg:Gl X x) (hm:X.mg x=Æ) (hv:bootBuiltins x=À u) (h:Q u s)
  (hn:x≠"__name__":=by decide) (hd:(x==("__debug__":Str))=Â:=by decide):Û (model X.prog X.w) X.A (eval (.Name x pos) X.env) Q E s:=by
 obtain ⟨mb,h1,h2⟩:=I.mod.blt;exact Ř I.ok.kind hg (Calls.loadGlobal_builtin (by rw [I.ok.glob];exact I.mod.glob.keeps I.bk) hm (by rw [I.ok.blt];exact h1.keeps I.bk) ((h2 x hn).trans hv) h) hd
theorem uC {pos:Pos} (hg:Gl X x) (hm:X.mg x=À u) (r:RelV v u) (hd:(x==("__debug__":Str))=Â:=by decide):PE X (.Name x pos) (tC v):=
 λ_ _ _ H _ I h=>gM I hg hm ⟨v,H,I,r,h⟩ hd
theorem AM {pos:Pos} (hg:Gl X x) (hm:X.mg x=Æ) (hv:bootBuiltins x=À u) (r:RelV v u) (hn:x≠"__name__":=by decide) (hd:(x==("__debug__":Str))=Â:=by decide):PE X (.Name x pos) (tC v):=
 λ_ _ _ H _ I h=>gw I hg hm hv ⟨v,H,I,r,h⟩ hn hd
variable {a b:Expr} {ta tb:TE} {pos:Pos}
variable {tA JX:TT} {rest:List Expr}
def G6 (t u:TT):TT:=λσ H Q=>t σ H λc H1=>if c=Á then u σ H1 Q else Q Â H1
def ML (t u:TT):TT:=λσ H Q=>t σ H λc H1=>if c=Á then Q Á H1 else u σ H1 Q
def KR (t:TT):TT:=λσ H Q=>t σ H λc H1=>Q (!c) H1
theorem AN (ha:PT X a tA):PW X (.BoolOp .And [a] pos) tA:=by
 intro wh pins s σ H Q I h;refine isTrue_and (eE (ha pins s σ H Q I h) λc s1 e=>?_);cases c with
 | true=>exact isTrue_and_nil e
 | false=>exact e
theorem DG (ha:PT X a tA):PW X (.BoolOp .Or [a] pos) tA:=by
 intro wh pins s σ H Q I h;refine isTrue_or (eE (ha pins s σ H Q I h) λc s1 e=>?_);cases c with
 | false=>exact isTrue_or_nil e
 | true=>exact e
theorem DI (ha:PT X a tA) (hb:PW X (.BoolOp .And (b::rest) pos) JX):PW X (.BoolOp .And (a::b::rest) pos) (G6 tA JX):=by
 intro wh pins s σ H Q I h;refine isTrue_and (eE (ha pins s σ H _ I h) λc s1 zz=>?_);obtain ⟨H1,I1,q1⟩:=zz;cases c with
 | true=>exact hb wh pins s1 σ H1 Q I1 q1
 | false=>exact ⟨H1,I1,q1⟩
theorem G7 (ha:PT X a tA) (hb:PW X (.BoolOp .Or (b::rest) pos) JX):PW X (.BoolOp .Or (a::b::rest) pos) (ML tA JX):=by
 intro wh pins s σ H Q I h;refine isTrue_or (eE (ha pins s σ H _ I h) λc s1 zz=>?_);obtain ⟨H1,I1,q1⟩:=zz;cases c with
 | true=>exact ⟨H1,I1,q1⟩
 | false=>exact hb wh pins s1 σ H1 Q I1 q1
theorem DJ (ha:PT X a tA):PT X (.UnaryOp .Not a pos) (KR tA):=by intro pins s σ H Q I h;exact isTrue_not (ha pins s σ H (λc H1=>Q (!c) H1) I h)
def G8 (ta tb:TE):TE:=λσ H Q=>ta σ H λx H1=>∃ c,x=.bl c∧if c=Á then tb σ H1 Q else Q (.bl Â) H1
theorem DK {op} {t:TE} (h:PE X a t):PE X (.BoolOp op [a] pos) t:=λpins s σ H Q I hw=>BoolOp_one (h pins s σ H Q I hw)
theorem DL (ha:PE X a ta) (hb:PE X (.BoolOp .And (b::rest) pos) tb):PE X (.BoolOp .And (a::b::rest) pos) (G8 ta tb):=by
 intro pins s σ H Q I h;refine BoolOp_and (eE (ha pins s σ H _ I h) λv s1 zz=>?_);obtain ⟨x,H1,I1,r1,q1⟩:=zz;obtain ⟨c,rfl,q1⟩:=q1;cases r1;refine Ń ?_;cases c with
 | true=>exact hb pins s1 σ H1 Q I1 q1
 | false=>exact ⟨.bl Â,H1,I1,rfl,q1⟩
end
def kD (K:Å) (H:Hp) (a:Addr) (xs:List V):Prop:=
 Rd H a (.lst xs) ∨
  ∃ (o:Obj) (its:Array Ã) (n:Nat),K.lookup a=À o∧o.cls=.type "list"∧o.dict=Æ∧o.data=.seq its n∧its.size≤Ä∧Vals xs its.toList
def kZ (K:Å) (H:Hp) (a:Addr) (xs:List V):Prop:=
 Rd H a (.tup xs) ∨
  ∃ (o:Obj) (its:Array Ã) (n:Nat),K.lookup a=À o∧o.cls=.type "tuple"∧o.data=.seq its n∧its.size≤Ä∧Vals xs its.toList
def KS:Ã→Option V
 | .none=>À .dR
 | .bool b=>À (.bl b)
 | .int i _=>À (.int i)
 | .str x _=>À (.str x)
 | .bytes b _=>À (.GU b)
 | .float b _=>À (.GV b)
 | .ref a=>À (.ref a)
 | .type n=>À (.ty n)
 | _=>Æ
theorem RelV.abs {x:V} (r:RelV x u):KS u=À x:=by
 cases x with
 | dR=>cases r;rfl
 | bl _=>cases r;rfl
 | int _=>obtain ⟨t,rfl⟩:=r;rfl
 | str _=>obtain ⟨t,rfl⟩:=r;rfl
 | GU _=>obtain ⟨t,rfl⟩:=r;rfl
 | GV _=>obtain ⟨t,rfl⟩:=r;rfl
 | ref _=>cases r;rfl
 | ty _=>cases r;rfl
theorem RelV.inj {x:V} (r:RelV x u) (q:RelV y u):x=y:=ą (r.abs.symm.trans q.abs)
theorem Vals.inj:∀ {xs ys:List V} {us:List Ã},Vals xs us→Vals ys us→xs=ys
 | _,_,_,.nil,.nil=>rfl
 | _,_,_,.cons r t,.cons r' t'=>by rw [r.inj r',Vals.inj t t']
section
variable {X:Cx} {pins:List (Addr×Obj)} {σ:St} {H:Hp} {s:Ç} {a:Addr} {xs ys:List V}
theorem kD.of (h:H a=À (.lst xs)):kD K H a xs:=.inl (.inl h)
theorem Inv.list (I:Inv X pins σ H s) (h:kD X.K H a xs):∃ its:List Ã,Vals xs its∧PlainL s.heap a its.toArray∧xs.length≤Ä:=by
 rcases h with h | ⟨o,its,n,hk,hc,hd,hs,hz,r⟩
 ·obtain ⟨z,its,n,r,e⟩:=h.ok I.hok;exact ⟨its,r,⟨_,n,e,rfl,rfl,rfl⟩,z⟩
 ·refine ⟨its.toList,r,⟨o,n,I.nD a o hk,hc,hd,by simpa using hs⟩,?_⟩;have e:=r.length;simp only [œ] at e;nofun
theorem Inv.tuple (I:Inv X pins σ H s) (h:kZ X.K H a xs):∃ its:List Ã,Vals xs its∧IsTup s.heap a its.toArray∧xs.length≤Ä:=by
 rcases h with h | ⟨o,its,n,hk,hc,hs,hz,r⟩
 ·obtain ⟨z,its,r,p⟩:=h.ok I.hok;exact ⟨its,r,p,z⟩
 ·refine ⟨its.toList,r,⟨o,I.nD a o hk,hc,n,by simpa using hs⟩,?_⟩;have e:=r.length;simp only [œ] at e;nofun
theorem Inv.xE (I:Inv X pins σ H s) (h:kD X.K H a xs) (h':kD X.K H a ys):xs=ys:=by
 obtain ⟨its,r,⟨o,n,e,_,_,d⟩,_⟩:=I.list h;obtain ⟨its',r',⟨o',n',e',_,_,d'⟩,_⟩:=I.list h';rw [e] at e';cases e';rw [d] at d';injection d' with d1 _;have:its=its':=by simpa using congrArg Array.toList d1
 subst this;exact r.inj r'
theorem Inv.vA (I:Inv X pins σ H s) (h:kZ X.K H a xs) (h':kZ X.K H a ys):xs=ys:=by
 obtain ⟨its,r,⟨o,e,_,n,d⟩,_⟩:=I.tuple h;obtain ⟨its',r',⟨o',e',_,n',d'⟩,_⟩:=I.tuple h';rw [e] at e';cases e';rw [d] at d';injection d' with d1 _;have:its=its':=by simpa using congrArg Array.toList d1
 subst this;exact r.inj r'
end
section
variable {X:Cx} {st:Stmt} {rest:List Stmt} {t u:TS} {e:Expr} {te:TE} {pos:Pos}
def G9:TS:=λD σ H=>D.nx σ H
def Hf (t u:TS):TS:=λD σ H=>t {D with nx:=u D} σ H
theorem AO:uB X [] G9:=λ_ _ σ H _ I h=>ż ⟨σ,H,I,h⟩
theorem xF (h1:PS X st t) (h2:uB X rest u):uB X (st::rest) (Hf t u):=by
 intro pins s σ H D I h;refine Sw (eE (h1 pins s σ H {D with nx:=u D} I h) λf s1 q=>?_);cases f with
 | next=>obtain ⟨σ',H',I',q⟩:=q;exact h2 pins s1 σ' H' D I' q
 | ret v=>exact q
 | brk=>exact q
 | cont=>exact q
theorem AQ (h1:PS X st t):uB X [st] t:=by
 intro pins s σ H D I h;refine Sw (eE (h1 pins s σ H D I h) λf s1 q=>?_);cases f with
 | next=>exact ż q
 | ret v=>exact q
 | brk=>exact q
 | cont=>exact q
theorem Inv.quiet {s:Ç} (I:Inv X pins σ H s):interactive X.env=Â:=by simp [interactive,I.ok.kind]
def Hg (te:TE):TS:=λD σ H=>te σ H λ_ H1=>D.nx σ H1
theorem AR (he:PE X e te) (hs:swapsWith e Æ pos.line X.env=pure Â:=by rfl):PS X (.Expr e pos) (Hg te):=by intro pins s σ H D I h;exact wpAny_Expr_any (eE (he pins s σ H _ I h) λv s1 zz=>by obtain ⟨x,H1,I1,r1,q1⟩:=zz;exact ⟨σ,H1,I1,q1⟩) I.quiet hs
def KU (te:TE):TS:=λD σ H=>te σ H D.rt
theorem DM (he:PE X e te):PS X (.Return (À e) pos) (KU te):=by intro pins s σ H D I h;exact wpAny_Return_some (eE (he pins s σ H _ I h) λv s1 zz=>by obtain ⟨x,H1,I1,r1,q1⟩:=zz;exact ⟨x,σ,H1,I1,r1,q1⟩)
def KW (c:TT) (t u:TS):TS:=λD σ H=>c σ H λb H1=>if b=Á then t D σ H1 else u D σ H1
theorem Hh {a b:List Stmt} {tc:TT} (hc:PT X c tc) (ha:uB X a t) (hb:uB X b u):PS X (.If c a b pos) (KW tc t u):=by
 intro pins s σ H D I h;refine wpAny_If (eE (hc pins s σ H _ I h) λd s1 zz=>?_);obtain ⟨H1,I1,q1⟩:=zz;cases d with
 | true=>exact ha pins s1 σ H1 D I1 q1
 | false=>exact hb pins s1 σ H1 D I1 q1
end
abbrev TG:=V→St→Hp→(St→Hp→Prop)→Prop
def PG (X:Cx) (target:Expr) (t:TG):Prop:=
 ∀ (pins:List (Addr×Obj)) (s:Ç) (σ:St) (H:Hp) (v:V) (u:Ã) (Q:St→Hp→Prop),Inv X pins σ H s→RelV v u→t v σ H Q →
  Û (model X.prog X.w) X.A (assign target X.env u) (λ_ s'=>∃ σ' H',Inv X pins σ' H' s'∧Q σ' H') X.xe s
section
variable {X:Cx} {pos:Pos}
def qM (i:Nat):TG:=λv σ H Q=>Q (σ.set i (À v)) H
theorem AS (hN:X.N.Nodup) (hi:X.N[i]?=À x) (hx:Loc X.env.scope x) (hf:X.fn x=Á∨X.env.scope.names.lookup x=À .local:=by first | exact .inl rfl | exact .inr rfl | assumption):PG X (.Name x pos) (qM i):=by intro pins s σ H v u Q I r h;exact Ŧ (jz I hN hi hx r (λs' I'=>⟨_,H,I',h⟩) hf)
def DP (te:TE) (g:TG):TS:=λD σ H=>te σ H λx H1=>g x σ H1 D.nx
theorem DQ {te:TE} (hN:X.N.Nodup) (hi:X.N[i]?=À x) (hx:Loc X.env.scope x) (he:PE X e te) (hs:swapsWith e (À (.Name x pos')) pos.line X.env=pure Â:=by rfl) (hf:X.fn x=Á∨X.env.scope.names.lookup x=À .local:=by first | exact .inl rfl | exact .inr rfl | assumption) :
  PS X (.Assign [.Name x pos'] e pos) (DP te (qM i)):=by
 intro pins s σ H D I h;refine wpAny_Assign_Name (eE (he pins s σ H _ I h) λv s1 zz=>?_) hs;obtain ⟨y,H1,I1,r1,q1⟩:=zz;exact jz I1 hN hi hx r1 (λs2 I2=>⟨_,H1,I2,q1⟩) hf
end
structure It where
 go:Nat→Hp→Prop
 qN:Nat→Hp→V→Hp→Prop
 stop:Nat→Hp→Prop
variable {R:It→Hp→Prop}
def lN (X:Cx) (pins:List (Addr×Obj)) (H:Hp) (b:Addr):Prop:=
 H b=Æ∧b≠X.env.locals∧b∉X.fs∧(b∈X.ex∨X.s₀.heap.objs.size≤b)∧(∀ x c,X.env.cells.lookup x=À c→c≠b)∧∀ p∈X.pn++pins,p.1≠b
theorem Inv.AU {H':Hp} {s:Ç} (I:Inv X pins σ H s) (hb:s.heap.objs.size≤b) (hn:H' b=Æ):lN X pins H' b:=by
 refine ⟨hn,ŕ (Ë I.lt hb),I.KN hb,.inr (Ć I.sz hb),λx c e z=>?_,λp hp z=>?_⟩
 ·obtain ⟨v,q⟩:=I.cell x c e;exact absurd (Ë q.lt (by rw [z];exact hb)) (Ą _)
 ·exact absurd (Ë (Ï (I.pin p hp).1) (by rw [z];exact hb)) (Ą _)
structure Turn (P:ó) (w:Đ) (K:Å) (tg:Expr) (J:It) (fp:List Addr) (it:Addr) (tn:Nat→Heap→Prop):Prop where
 mem:it∈fp
 obj:∀ i h,tn i h→∀ b∈fp,∃ o,h.get? b=À o∧∀ v,o.data≠.cell v
 keep:∀ i h h',tn i h→(∀ b∈fp,∀ o,h.get? b=À o→h'.get? b=À o)→tn i h'
 item:∀ (X:Cx),X.prog=P→X.w=w→X.K=K→X.calm=Á→∀ (i:Nat) (pins:List (Addr×Obj)) (s:Ç) (σ:St) (H:Hp) (E:Ã→Ç→Prop),Inv X pins σ H s→(∀ b∈fp,lN X pins H b)→tn i s.heap→J.go i H →
  Û (model P w) X.A (pyNext (.ref it)) (λr s1=>∃ u,r=À u ∧
   Û (model P w) X.A (letOwnedTupleGo tg (.ref it) u) (λ_ s2=>∃ x H',Inv X pins σ H' s2∧RelV x u∧J.qN i H x H'∧tn (i+1) s2.heap∧∀ b∈fp,H' b=Æ) E s1) E s
 done:∀ (X:Cx),X.prog=P→X.w=w→X.K=K→X.calm=Á→∀ (i:Nat) (pins:List (Addr×Obj)) (s:Ç) (σ:St) (H:Hp) (E:Ã→Ç→Prop),Inv X pins σ H s→(∀ b∈fp,lN X pins H b)→tn i s.heap→J.stop i H →
  Û (model P w) X.A (pyNext (.ref it)) (λr s1=>r=Æ∧Inv X pins σ H s1) E s
 self:∀ (A:Around) (i:Nat) (s:Ç) (Q:Ã→Ç→Prop) (E:Ã→Ç→Prop),tn i s.heap→Q (.ref it) s→Û (model P w) A (pyIter (.ref it)) Q E s
abbrev TI:=St→Hp→(It→Hp→Prop)→Prop
def MM (X:Cx) (pins:List (Addr×Obj)) (σ:St) (tg:Expr) (R:It→Hp→Prop) (itv:Ã) (s2:Ç):Prop:=
 ∃ (it:Addr) (fp:List Addr) (tn:Nat→Heap→Prop) (J:It) (H':Hp),itv=.ref it∧Inv X pins σ H' s2∧Turn X.prog X.w X.K tg J fp it tn∧tn 0 s2.heap∧(∀ b∈fp,lN X pins H' b)∧R J H'
def PI (X:Cx) (tg iter:Expr) (wi:TI):Prop:=
 ∀ (pins:List (Addr×Obj)) (s:Ç) (σ:St) (H:Hp) (R:It→Hp→Prop),Inv X pins σ H s→wi σ H R →
  Û (model X.prog X.w) X.A (eval iter X.env) (λv s1=>Û (model X.prog X.w) X.A (pyIter v) (MM X pins σ tg R) X.xe s1) X.xe s
theorem uD {M:Model} {A:Around} {E:Ã→Ç→Prop} {s:Ç} {tg:Expr} {u:Ã} {o:Obj} {Q:Unit→Ç→Prop} (ho:s.heap.get? it=À o) (hc:o.cls=.type n) (hd:o.data=.fields vs)
  (hn:["enumerate","zip","dict_itemiterator","dict_reverseitemiterator","odict_iterator","itertools.zip_longest","itertools.pairwise"].contains n=Â) (hQ:Q () s):Û M A (letOwnedTupleGo tg (.ref it) u) Q E s:=by
 unfold letOwnedTupleGo
 cases tg<;>first
  | exact Ø hQ
  | (cases u<;>first
      | exact Ø hQ
      | (refine Ê (wpAny_load ho ?_)
         rw [hc,hd];show Û M A (if (["enumerate","zip","dict_itemiterator","dict_reverseitemiterator","odict_iterator","itertools.zip_longest","itertools.pairwise"].contains n&&vs[0]?==À (rawInt _))=Á then _ else _) Q E s;rw [if_neg (by intro h;rw [hn,Bool.false_and] at h;cases h)];exact Ø hQ))
def AA (K:Å) (a:Addr):It:=
 ⟨λi H=>∃ xs x,kD K H a xs∧xs[i]?=À x,λi H x H'=>H'=H∧∀ xs,kD K H a xs→xs[i]?=À x,λi H=>∃ xs,kD K H a xs∧xs.length≤i⟩
def JY (K:Å) (a:Addr):It:=
 ⟨λi H=>∃ xs x,kZ K H a xs∧xs[i]?=À x,λi H x H'=>H'=H∧∀ xs,kZ K H a xs→xs[i]?=À x,λi H=>∃ xs,kZ K H a xs∧xs.length≤i⟩
def sS (lo:Int) (n:Nat):It:=⟨λi _=>i<n,λi H x H'=>H'=H∧x=.int (lo+i),λi _=>n≤i⟩
theorem vB (a it:Addr):Turn P w K tg (AA K a) [it] it (λi h=>h.IsListIter it a i) where
 mem:=by simp
 obj:=λi h st b hb=>by
  have e:b=it:=by simpa using hb
  subst e;obtain ⟨o,e,c,d⟩:=st;exact ⟨o,e,λv z=>by rw [d] at z;cases z⟩
 keep:=λi h h' st k=>st.at λo e=>k it (by simp) o e
 item:=by intro X hP hw hK hc i pins s σ H E I hf st hg;subst hP hw hK;obtain ⟨xs,x,hq,hx⟩:=hg;obtain ⟨its,rv,p,hz⟩:=I.list hq;obtain ⟨u,hu,ru⟩:=rv.get hx;obtain ⟨f0,f1,f2,f3,f4,f5⟩:=hf it (by simp);refine wpAny_pyNext_list_item st p.isList (x:=u) (by simpa using hu) λh' st' sb=>?_;have I1:Inv X pins σ H {s with heap:=h'}:=I.turned (t':=s.toks) (λb o hb e=>(sb.2 b hb).trans e) f0 f1 f3 f4 f5;obtain ⟨o,e,c,d⟩:=id st';exact ⟨u,rfl,uD (s:={s with heap:=h'}) e c d (by decide) ⟨x,H,I1,ru,⟨rfl,λys hy=>by rw [I.xE hy hq];exact hx⟩,st',λb hb=>(hf b hb).1⟩⟩
 done:=by intro X hP hw hK hc i pins s σ H E I hf st hg;subst hP hw hK;obtain ⟨xs,hq,hx⟩:=hg;obtain ⟨its,rv,p,hz⟩:=I.list hq;obtain ⟨f0,f1,f2,f3,f4,f5⟩:=hf it (by simp);have hl:=rv.length;exact wpAny_pyNext_list_end (I.ok.hd hc) st p.isList (by simp;nofun) λh' eb=>⟨rfl,I.turned (t':=s.toks) (λb o hb e=>eb b o hb e) f0 f1 f3 f4 f5⟩
 self:=λ_ _ _ _ _ st h=>wpAny_pyIter_listiter st h
theorem sU (a it:Addr):Turn P w K tg (JY K a) [it] it (λi h=>h.IsTupleIter it a i) where
 mem:=by simp
 obj:=λi h st b hb=>by
  have e:b=it:=by simpa using hb
  subst e;obtain ⟨o,e,c,d⟩:=st;exact ⟨o,e,λv z=>by rw [d] at z;cases z⟩
 keep:=λi h h' st k=>st.at λo e=>k it (by simp) o e
 item:=by intro X hP hw hK hc i pins s σ H E I hf st hg;subst hP hw hK;obtain ⟨xs,x,hq,hx⟩:=hg;obtain ⟨its,rv,p,hz⟩:=I.tuple hq;obtain ⟨u,hu,ru⟩:=rv.get hx;obtain ⟨f0,f1,f2,f3,f4,f5⟩:=hf it (by simp);refine wpAny_pyNext_tuple_item st (show s.heap.IsTuple a its.toArray from p) (x:=u) (by simpa using hu) λh' st' sb=>?_;have I1:Inv X pins σ H {s with heap:=h'}:=I.turned (t':=s.toks) (λb o hb e=>(sb.2 b hb).trans e) f0 f1 f3 f4 f5;obtain ⟨o,e,c,d⟩:=id st';exact ⟨u,rfl,uD (s:={s with heap:=h'}) e c d (by decide) ⟨x,H,I1,ru,⟨rfl,λys hy=>by rw [I.vA hy hq];exact hx⟩,st',λb hb=>(hf b hb).1⟩⟩
 done:=by intro X hP hw hK hc i pins s σ H E I hf st hg;subst hP hw hK;obtain ⟨xs,hq,hx⟩:=hg;obtain ⟨its,rv,p,hz⟩:=I.tuple hq;obtain ⟨f0,f1,f2,f3,f4,f5⟩:=hf it (by simp);have hl:=rv.length;exact wpAny_pyNext_tuple_end (I.ok.hd hc) st (show s.heap.IsTuple a its.toArray from p) (by simp;nofun) λh' eb=>⟨rfl,I.turned (t':=s.toks) (λb o hb e=>eb b o hb e) f0 f1 f3 f4 f5⟩
 self:=λ_ _ _ _ _ st h=>wpAny_pyIter_tupleiter st h
theorem sV (it:Addr) (lo:Int) (n:Nat):Turn P w K tg (sS lo n) [it] it (λi h=>IsRangeIter h it (lo+(i:Nat)*1) ((n:Int) - (i:Nat)) 1) where
 mem:=by simp
 obj:=λi h st b hb=>by
  have e:b=it:=by simpa using hb
  subst e;exact ⟨_,st,λv z=>by have z':Data.fields _=Data.cell v:=z;cases z'⟩
 keep:=λi h h' st k=>k it (by simp) _ st
 item:=by intro X hP hw hK hc i pins s σ H E I hf st hg;subst hP hw hK;obtain ⟨f0,f1,f2,f3,f4,f5⟩:=hf it (by simp);have W:=Walks.range (prog:=X.prog) (w:=X.w) (I.ok.hd hc) it lo 1 n;refine ic I.os.2 (W.item i s _ _ hg st λv h' tk hv st' kk=>λht=>?_);obtain ⟨t,rfl⟩:=hv;have I1:Inv X pins σ H {s with heap:=h',toks:=tk}:=I.turned (λb o hb e=>kk b o (by simpa using hb) e) f0 f1 f3 f4 f5;refine ⟨_,rfl,uD (s:={s with heap:=h',toks:=tk}) (n:="range_iterator") st' rfl rfl (by decide) ⟨.int (lo+i),H,I1,⟨t,?_⟩,⟨rfl,rfl⟩,st',λb hb=>(hf b hb).1⟩⟩;rw [Int.mul_one]
 done:=by intro X hP hw hK hc i pins s σ H E I hf st hg;subst hP hw hK;obtain ⟨f0,f1,f2,f3,f4,f5⟩:=hf it (by simp);exact wpAny_pyNext_range_end (I.ok.hd hc) st (by have:n≤i:=hg;nofun) λh' eb=>⟨rfl,I.turned (t':=s.toks) (λb o hb e=>eb b o hb e) f0 f1 f3 f4 f5⟩
 self:=λ_ _ _ _ _ st h=>wpAny_pyIter_rangeiter st h
section
variable {X:Cx} {tg:Expr}
theorem xG {s:Ç} {E:Ã→Ç→Prop} {t u v:Tok} (I:Inv X pins σ H s) (h1:-(2^62)≤lo) (h2:lo<2^62) (h3:-(2^62)≤hi) (h4:hi<2^62)
  (q:R (sS lo (hi - lo).toNat) H) (ht:0<tk:=by first | exact ð _ | exact (Inv.os (by assumption)).2 | assumption | nofun):Û (model X.prog X.w) X.A (pyIter (.ref s.heap.objs.size)) (MM X pins σ tg R) E {s with heap:=s.heap.push {cls:=.type "range",data:=.fields #[.int lo t,.int hi u,.int 1 v]},toks:=tk}:=by
 refine wpAny_pyIter_range (IsRange.new ..) (small_one h1 h2 h3 h4) ?_;have I1:Inv X pins σ H {s with heap:=s.heap.push {cls:=.type "range",data:=.fields #[.int lo t,.int hi u,.int 1 v]},toks:=tk}:=I.kept λb o e=>Î _ e
 refine ⟨(s.heap.push {cls:=.type "range",data:=.fields #[.int lo t,.int hi u,.int 1 v]}).objs.size,[(s.heap.push {cls:=.type "range",data:=.fields #[.int lo t,.int hi u,.int 1 v]}).objs.size],_,_,H,rfl,
  I1.kept (t':=tk) λb o e=>Î _ e,sV _ lo (hi - lo).toNat,?_,λb hb=>?_,q⟩
 ·have e1:lo+((0:Nat):Int)*1=lo:=by simp
  have e2:(((hi - lo).toNat:Nat):Int) - ((0:Nat):Int)=Builtin.Range.rangeSize lo hi 1:=by rw [rangeSize_one];split<;>nofun
  show IsRangeIter _ _ (lo+((0:Nat):Int)*1) ((((hi - lo).toNat:Nat):Int) - ((0:Nat):Int)) 1;rw [e1,e2];exact ç _ rfl
 ·have e:b=(s.heap.push {cls:=.type "range",data:=.fields #[.int lo t,.int hi u,.int 1 v]}).objs.size:=by simpa using hb
  subst e;exact I1.AU (Ó _) (I1.hok.fresh (Ó _))
def CL (ta:TA):TI:=λσ H R=>ta σ H λvs H1=>∃ j:Int,vs=[.int j]∧-(2^62)≤j∧j<2^62∧R (sS 0 j.toNat) H1
theorem nV {a:Expr} {ta:TA} {p:Pos} (hg:Gl X "range") (hm:X.mg "range"=Æ) (ha:PA X [a] ta) (hs:Ô [a] X.env=[(Â,eval a X.env)]:=by rfl):PI X tg (.Call (.Name "range" p) [a] [] pos) (CL ta):=by
 intro pins s σ H R I h;refine Call_ (gw I hg hm boot_range (Ŗ (eE (ha pos pins s σ H _ I h) λus s1 zz=>?_) hs rfl));obtain ⟨vs,H1,I1,r1,q1⟩:=zz;obtain ⟨j,e,q1,q2,q⟩:=q1;subst e;cases r1 with
 | cons r rr=>cases rr;obtain ⟨t,rfl⟩:=r;exact call_range_1 (xG I1 (by nofun) (by nofun) q1 q2 (by simpa using q))
def KY (wi:TI) (g:TG) (tb:TS):TS:=λD σ H=>wi σ H λJ H1=>∃ W:Nat→Nat→St→Hp→Prop,(∃ m,W 0 m σ H1)∧∀ i m σ H,W i m σ H →
 (J.stop i H∧D.nx σ H)∨(J.go i H∧∃ N:St→Hp→Prop,(∀ σ' H',N σ' H'→∃ m',m'<m∧W (i+1) m' σ' H')∧∀ x H',J.qN i H x H'→g x σ H' λσ2 H2=>tb {D with nx:=N,ct:=N,bk:=D.nx} σ2 H2)
def jY (fp:List Addr) (h:Heap):List (Addr×Obj):=fp.filterMap λb=>(h.get? b).map λo=>(b,o)
theorem gP {o:Obj} (hb:b∈fp) (e:h.get? b=À o):(b,o)∈jY fp h:=R6.mpr ⟨b,hb,by rw [e];rfl⟩
theorem vC (hp:p∈jY fp h):p.1∈fp∧h.get? p.1=À p.2:=by
 obtain ⟨b,hb,e⟩:=R6.mp hp;cases q:h.get? b with
 | none=>rw [q] at e;cases e
 | some o=>rw [q] at e;have e':(b,o)=p:=ą e;subst e';exact ⟨hb,q⟩
theorem Inv.pinned {s:Ç} (I:Inv X pins σ H s) (hf:∀ b∈fp,lN X pins H b) (ho:∀ b∈fp,∃ o,s.heap.get? b=À o∧∀ v,o.data≠.cell v):Inv X (pins++jY fp s.heap) σ H s:=
 I.o8 λp hp=>(ñ.mp hp).elim (λz=>I.pin p (ø _ z)) λz=>by obtain ⟨hb,e⟩:=vC z;obtain ⟨f0,f1,f2,_⟩:=hf p.1 hb;obtain ⟨o,e',d⟩:=ho p.1 hb;rw [e] at e';cases e';exact ⟨e,f0,f1,f2,d⟩
theorem Inv.lO {pl:List (Addr×Obj)} {s:Ç} (I:Inv X (pins++pl) σ H s):Inv X pins σ H s:=I.o8 λp hp=>I.pin p (ø _ (ì _ hp))
theorem xH {wi:TI} {g:TG} {tb:TS} {pos:Pos} (hp:PassesOwn (model X.prog X.w) X.A X.env X.xe) (hc:X.calm=Á) (hi:PI X tg iter wi) (hg:PG X tg g) (hb:uB X body tb)
  (hs:∀ x,foldedSetIterable iter X.env x=pure x:=by intro _;rfl):PS X (.For tg iter body [] pos) (KY wi g tb):=by
 intro pins s σ H D I h;refine wpAny_For (eE (hi pins s σ H _ I h) λv s1 h1=>eE h1 λitv s2 h2=>?_) hs;obtain ⟨it,fp,tn,J,H2,e,I2,T,st2,f2,W,⟨m0,w0⟩,turn⟩:=h2;subst e;have DR:∀ {H':Hp},(∀ b∈fp,H' b=Æ)→∀ b∈fp,lN X pins H' b:=λhn b hb=>⟨hn b hb,(f2 b hb).2⟩;refine codeAny_forLoop_any (λn s'=>∃ i σ' H',Inv X pins σ' H' s'∧tn i s'.heap∧(∀ b∈fp,H' b=Æ)∧W i n σ' H') ?_ m0 ⟨0,σ,H2,I2,st2,λb hb=>(f2 b hb).1,w0⟩;rintro n s3 ⟨i,σ3,H3,I3,st3,MN,w3⟩;rcases turn i n σ3 H3 w3 with ⟨stop,qn⟩ | ⟨go,N,hN,step⟩
 ·refine ļ hp (eE (T.done X rfl rfl rfl hc i pins s3 σ3 H3 X.xe I3 (DR MN) st3 stop) λr s4 zz=>?_);obtain ⟨hr,I4⟩:=zz;subst hr;exact ż ⟨σ3,H3,I4,qn⟩
 ·refine ļ hp (eE (T.item X rfl rfl rfl hc i pins s3 σ3 H3 X.xe I3 (DR MN) st3 go) λr s4 zz=>?_);obtain ⟨u,hr,h4⟩:=zz;subst hr;refine ļ hp (eE h4 λ_ s5 zz=>?_);obtain ⟨x,H5,I5,r5,y5,GG,JZ⟩:=zz;have NN:=I5.pinned (DR JZ) (T.obj _ _ GG);refine ļ hp (eE (hg _ s5 σ3 H5 x u _ NN r5 (step x H5 y5)) λ_ s6 zz=>?_);obtain ⟨σ6,H6,I6,q6⟩:=zz;refine ļ hp (eE (hb _ s6 σ6 H6 _ I6 q6) λf s7 q7=>?_);have again:∀ {σ7:St} {H7:Hp},Inv X (pins++jY fp s5.heap) σ7 H7 s7→N σ7 H7→∃ m,m<n∧∃ i σ' H',Inv X pins σ' H' s7∧tn i s7.heap∧(∀ b∈fp,H' b=Æ)∧W i m σ' H':=λ{σ7 H7} I7 n7=>by obtain ⟨m',hm,w7⟩:=hN σ7 H7 n7;refine ⟨m',hm,i+1,σ7,H7,I7.lO,T.keep _ _ _ GG λb hb o e=>(I7.pin (b,o) (ø _ (ø _ (gP hb e)))).1,λb hb=>?_,w7⟩;obtain ⟨o,e,d⟩:=T.obj _ _ GG b hb;exact (I7.pin (b,o) (ø _ (ø _ (gP hb e)))).2.1
  cases f with
  | next=>obtain ⟨σ7,H7,I7,n7⟩:=q7;exact again I7 n7
  | cont=>obtain ⟨σ7,H7,I7,n7⟩:=q7;exact again I7 n7
  | brk=>obtain ⟨σ7,H7,I7,q7⟩:=q7;exact ⟨σ7,H7,I7.lO,q7⟩
  | ret v=>obtain ⟨x7,σ7,H7,I7,r7,q7⟩:=q7;exact ⟨x7,σ7,H7,I7.lO,r7,q7⟩
end
abbrev R2:=V→V→Hp→VK→Prop
variable {r:R2}
def gB (X:Cx) (f:Ã→Ã→Sem Ã) (r:R2):Prop:=
 ∀ (pins:List (Addr×Obj)) (s:Ç) (σ:St) (H:Hp) (x y:V) (v u:Ã) (Q:VK),Inv X pins σ H s→RelV x v→RelV y u→r x y H Q →
  Û (model X.prog X.w) X.A (f v u) (EP X pins σ Q) X.xe s
def KZ (X:Cx) (f:Ã→Sem Ã) (r:V→Hp→VK→Prop):Prop:=
 ∀ (pins:List (Addr×Obj)) (s:Ç) (σ:St) (H:Hp) (x:V) (v:Ã) (Q:VK),Inv X pins σ H s→RelV x v→r x H Q →
  Û (model X.prog X.w) X.A (f v) (EP X pins σ Q) X.xe s
def cX (X:Cx) (f:Ã) (r:List V→Hp→VK→Prop):Prop:=
 ∀ (pins:List (Addr×Obj)) (s:Ç) (σ:St) (H:Hp) (xs:List V) (us:List Ã) (Q:VK),Inv X pins σ H s→Vals xs us→r xs H Q →
  Û (model X.prog X.w) X.A (call f us) (EP X pins σ Q) X.xe s
def K0 (X:Cx) (r:V→Hp→(Bool→Hp→Prop)→Prop):Prop:=
 ∀ (pins:List (Addr×Obj)) (s:Ç) (σ:St) (H:Hp) (x:V) (v:Ã) (Q:Bool→Hp→Prop),Inv X pins σ H s→RelV x v→r x H Q →
  Û (model X.prog X.w) X.A (truthy v) (TP X pins σ Q) X.xe s
def Hi (r:R2) (ta tb:TE):TE:=λσ H Q=>ta σ H λx H1=>tb σ H1 λy H2=>r x y H2 Q
def NO (r:V→Hp→VK→Prop) (ta:TE):TE:=λσ H Q=>ta σ H λx H1=>r x H1 Q
def rI (C:Int→Int→Prop) (g:Int→Int→V):R2:=λx y H Q=>∃ i j,x=.int i∧y=.int j∧C i j∧Q (g i j) H
def GH (g:Int→Int→V):R2:=λx y H Q=>∃ i j,x=.int i∧y=.int j∧Q (g i j) H
def rU (g:Int→V):V→Hp→VK→Prop:=λx H Q=>∃ i,x=.int i∧Q (g i) H
section
variable {X:Cx} {a b c:Expr} {ta tb tc:TE} {pos:Pos}
theorem DT (ha:PE X a ta) (hb:PE X b tb) {pins:List (Addr×Obj)} {s:Ç} {σ:St} {H:Hp} {R:V→V→Hp→Prop} (I:Inv X pins σ H s)
  (h:ta σ H λx H1=>tb σ H1 λy H2=>R x y H2) {Q:Ã→Ç→Prop} {f:Ã→Ã→Sem Ã}
  (hf:∀ v u s2 x y H2,Inv X pins σ H2 s2→RelV x v→RelV y u→R x y H2→Û (model X.prog X.w) X.A (f v u) Q X.xe s2) :
  Û (model X.prog X.w) X.A (eval a X.env) (λv s₁=>Û (model X.prog X.w) X.A (eval b X.env) (λu s₂=>Û (model X.prog X.w) X.A (f v u) Q X.xe s₂) X.xe s₁) X.xe s:=by
 refine eE (ha pins s σ H _ I h) λv s1 zz=>?_;obtain ⟨x,H1,I1,r1,q1⟩:=zz;refine eE (hb pins s1 σ H1 _ I1 q1) λu s2 zz=>?_;obtain ⟨y,H2,I2,r2,q2⟩:=zz;exact hf v u s2 x y H2 I2 r1 r2 q2
theorem Hj {op:Operator} (ho:gB X (binaryOp op) r) (ha:PE X a ta) (hb:PE X b tb):PE X (.BinOp a op b pos) (Hi r ta tb):=by intro pins s σ H Q I h;exact wpAny_BinOp (DT ha hb I h λv u s2 x y H2 I2 rx ry q=>ho pins s2 σ H2 x y v u Q I2 rx ry q)
theorem Ho {op:UnaryOp} {r:V→Hp→VK→Prop} (ho:KZ X (unaryOp op) r) (ha:PE X a ta):PE X (.UnaryOp op a pos) (NO r ta):=by intro pins s σ H Q I h;exact UnaryOp_ (eE (ha pins s σ H _ I h) λv s1 zz=>by obtain ⟨x,H1,I1,r1,q1⟩:=zz;exact ho pins s1 σ H1 x v Q I1 r1 q1)
theorem J0 {f:Ã→Ã→Sem Ã}
  (rule:∀ (i j:Int) (t u:Tok) (s:Ç) (Q:Ã→Ç→Prop) (E:Ã→Ç→Prop),C i j→Q (.int (g i j) s.toks) {s with toks:=s.toks+1}→Û (model X.prog X.w) X.A (f (.int i t) (.int j u)) Q E s) :
  gB X f (rI C λi j=>.int (g i j)):=by
 intro pins s σ H x y v u Q I rx ry h;obtain ⟨i,j,rfl,rfl,hc,q⟩:=h;obtain ⟨t,rfl⟩:=rx;obtain ⟨t',rfl⟩:=ry;exact rule i j t t' s _ _ hc ⟨.int (g i j),H,I.tok _,⟨_,rfl⟩,q⟩
theorem K1 {f:Ã→Ã→Sem Ã}
  (rule:∀ (i j:Int) (t u:Tok) (s:Ç) (Q:Ã→Ç→Prop) (E:Ã→Ç→Prop),Q (.int (g i j) s.toks) {s with toks:=s.toks+1}→Û (model X.prog X.w) X.A (f (.int i t) (.int j u)) Q E s) :
  gB X f (GH λi j=>.int (g i j)):=by
 intro pins s σ H x y v u Q I rx ry h;obtain ⟨i,j,rfl,rfl,q⟩:=h;obtain ⟨t,rfl⟩:=rx;obtain ⟨t',rfl⟩:=ry;exact rule i j t t' s _ _ ⟨.int (g i j),H,I.tok _,⟨_,rfl⟩,q⟩
theorem Hq {g:Int→Int→Bool}
  (rule:∀ (i j:Int) (t u:Tok) (s:Ç) (Q:Ã→Ç→Prop) (E:Ã→Ç→Prop),Q (.bool (g i j)) s→Û (model X.prog X.w) X.A (f (.int i t) (.int j u)) Q E s) :
  gB X f (GH λi j=>.bl (g i j)):=by
 intro pins s σ H x y v u Q I rx ry h;obtain ⟨i,j,rfl,rfl,q⟩:=h;obtain ⟨t,rfl⟩:=rx;obtain ⟨t',rfl⟩:=ry;exact rule i j t t' s _ _ ⟨.bl (g i j),H,I,rfl,q⟩
def K2 (i j:Int):Prop:=0<j∧j<1073741824
def K3 (i j:Int):Prop:=0≤j∧j≤1000000∧i.natAbs<2^64
def DU (i j:Int):Prop:=(-(2^64)<i∧i<2^64)∨(-(2^64)<j∧j<2^64)
theorem DU.ok {i j:Int} (h:DU i j):IntMulOk i j:=by
 rcases h with ⟨h1,h2⟩ | ⟨h1,h2⟩
 ·exact .of_left (intBits_le_64 h1 h2)
 ·exact .of_right (intBits_le_64 h1 h2)
theorem DV:gB X (binaryOp .Add) (GH λi j=>.int (i+j)):=K1 λ_ _ _ _ _ _ _ q=>add_int q
theorem DW:gB X (binaryOp .Mult) (rI DU λi j=>.int (i*j)):=J0 λ_ _ _ _ _ _ _ hc q=>mul_int q hc.ok
theorem AV:gB X (binaryOp .FloorDiv) (rI K2 λi j=>.int (i / j)):=J0 λi j _ _ _ _ _ hc q=>by have h1:(0:Int)<j:=hc.1;have h2:j<1073741824:=hc.2;exact floordiv_int (by nofun) (by rw [Int.fdiv_eq_ediv_of_nonneg i (by nofun)];exact q) (.inl (PyProof.noPylong_small (by nofun)))
theorem DX:gB X (binaryOp .Mod) (rI (λ_ j=>0<j) λi j=>.int (i % j)):=J0 λi j _ _ _ _ _ hc q=>by have h1:(0:Int)<j:=hc;exact mod_int' (by nofun) (by rw [Int.fmod_eq_emod_of_nonneg i (by nofun)];exact q)
theorem DY:gB X (binaryOp .Pow) (rI K3 λi j=>.int (i^j.toNat)):=J0 λ_ _ _ _ _ _ _ hc q=>pow_int_small hc.1 hc.2.1 hc.2.2 q
theorem NP {f:Ã→Sem Ã} {g:Int→Int}
  (rule:∀ (i:Int) (t:Tok) (s:Ç) (Q:Ã→Ç→Prop) (E:Ã→Ç→Prop),Q (.int (g i) s.toks) {s with toks:=s.toks+1}→Û (model X.prog X.w) X.A (f (.int i t)) Q E s) :
  KZ X f (rU λi=>.int (g i)):=by
 intro pins s σ H x v Q I rx h;obtain ⟨i,rfl,q⟩:=h;obtain ⟨t,rfl⟩:=rx;exact rule i t s _ _ ⟨.int (g i),H,I.tok _,⟨_,rfl⟩,q⟩
theorem DZ:KZ X (unaryOp .USub) (rU λi=>.int (-i)):=NP λ_ _ _ _ _ q=>neg_int q
end
section
variable {X:Cx} {a b c:Expr} {ta tb tc:TE} {pos:Pos}
theorem xJ {s:Ç} {Q:VK} {k:Bool} (I:Inv X pins σ H s) (q:Q (.bl k) H) (e:k=k'):EP X pins σ Q (.bool k') s:=by subst e;exact ⟨.bl k,H,I,rfl,q⟩
theorem Hr:gB X (compareOp .Lt) (GH λi j=>.bl (decide (i<j))):=Hq λ_ _ _ _ _ _ _ q=>lt_int q
theorem Hs:gB X (compareOp .Gt) (GH λi j=>.bl (decide (j<i))):=Hq λ_ _ _ _ _ _ _ q=>gt_int q
theorem vD:gB X (compareOp .In) (λx y H Q=>∃ i j,x=.str i∧y=.str j∧Q (.bl (!(à j i 0 j.length 1).isEmpty)) H):=by intro pins s σ H x y v u Q I rx ry h;obtain ⟨i,j,rfl,rfl,q⟩:=h;obtain ⟨t,rfl⟩:=rx;obtain ⟨t',rfl⟩:=ry;exact in_str (xJ I q rfl)
theorem o9:gB X (compareOp .NotIn) (λx y H Q=>∃ i j,x=.str i∧y=.str j∧Q (.bl (!(!(à j i 0 j.length 1).isEmpty))) H):=by intro pins s σ H x y v u Q I rx ry h;obtain ⟨i,j,rfl,rfl,q⟩:=h;obtain ⟨t,rfl⟩:=rx;obtain ⟨t',rfl⟩:=ry;exact notIn_str (xJ I q rfl)
theorem gB.or {r':R2} (h:gB X f r) (h':gB X f r'):gB X f (λx y H Q=>r x y H Q∨r' x y H Q):=by
 intro pins s σ H x y v u Q I rx ry q;rcases q with q | q
 ·exact h pins s σ H x y v u Q I rx ry q
 ·exact h' pins s σ H x y v u Q I rx ry q
theorem D0 (b:Expr) {op:CmpOp} (h:op≠.In:=by decide) (h2:op≠.NotIn:=by decide):behindInMarks op b=Â:=by
 have e1:(op==CmpOp.In)=Â:=by cases op<;>first | rfl | exact absurd rfl h
 have e2:(op==CmpOp.NotIn)=Â:=by cases op<;>first | rfl | exact absurd rfl h2
 cases b<;>simp [behindInMarks,e1,e2]
theorem AW (ho:gB X (compareOp op) r) (ha:PE X a ta) (hb:PE X b tb) (hm:behindInMarks op b=Â):PE X (.Compare a [op] [b] pos) (Hi r ta tb):=by intro pins s σ H Q I h;exact wpAny_Compare1 (DT ha hb I h λv u s2 x y H2 I2 rx ry q=>ho pins s2 σ H2 x y v u Q I2 rx ry q) hm
def Ht (t:TE):TT:=λσ H Q=>t σ H λx H'=>∃ k,x=.bl k∧Q k H'
theorem AX (ho:gB X (compareOp op) r) (ha:PE X a ta) (hb:PE X b tb) (hm:behindInMarks op b=Â):PT X (.Compare a [op] [b] pos) (Ht (Hi r ta tb)):=by
 intro pins s σ H Q I h;refine wpAny_isTrue_Compare1 (eE (ha pins s σ H _ I h) λv s1 ⟨x,H1,I1,r1,q1⟩=>eE (hb pins s1 σ H1 _ I1 q1) λu s2 ⟨y,H2,I2,r2,q2⟩=>
  eE (ho pins s2 σ H2 x y v u _ I2 r1 r2 q2) λc s3 ⟨z,H3,I3,r3,k,e,q3⟩=>?_) hm
 subst e;cases r3;exact Ń ⟨H3,I3,q3⟩
def D3 (K:Å) (x:V) (H:Hp) (k:Bool):Prop:=
 match x with
 | .dR=>k=Â
 | .bl b=>k=b
 | .int i=>k=(i != 0)
 | .str y=>y.length≤Ä∧k=((y.length:Int) != 0)
 | .GU y=>y.size≤Ä∧k=((y.size:Int) != 0)
 | .ref p=>(∃ xs,kD K H p xs∧k=!xs.isEmpty)∨(∃ xs,kZ K H p xs∧k=!xs.isEmpty)∨∃ kvs,H p=À (.dK kvs)∧k=!kvs.isEmpty
 | _=>False
theorem sW {κ:Type} {kvs:List (κ×V)} {vs:List (κ×Ã)} (r:KV kvs vs):(!vs.isEmpty)=!kvs.isEmpty:=by cases r<;>rfl
theorem lP (r:Vals xs its):(!its.toArray.isEmpty)=!xs.isEmpty:=by cases r<;>simp
theorem jZ:(Ä:Nat)<2^63:=by rw [sizeLine_eq];decide
theorem D4:K0 X (λx H Q=>∃ k,D3 X.K x H k∧Q k H):=by
 intro pins s σ H x v Q I rx h;obtain ⟨k,e,q⟩:=h;have hl:=jZ;have hs:Ä=16777216:=sizeLine_eq;cases x with
 | dR=>cases rx;have e':k=Â:=e;subst e';exact truthy_none ⟨H,I,q⟩
 | bl b=>cases rx;have e':k=b:=e;subst e';exact Ń ⟨H,I,q⟩
 | int i=>obtain ⟨t,rfl⟩:=rx;have e':k=(i != 0):=e;subst e';exact PySem.P.truthy_int ⟨H,I,q⟩
 | str y=>obtain ⟨t,rfl⟩:=rx;obtain ⟨hy,e'⟩:y.length≤Ä∧k=((y.length:Int) != 0):=e;subst e';exact PySem.P.truthy_str (by nofun) ⟨H,I.tok _,q⟩
 | GU y=>obtain ⟨t,rfl⟩:=rx;obtain ⟨hy,e'⟩:y.size≤Ä∧k=((y.size:Int) != 0):=e;subst e';exact PySem.W.truthy_bytes (by nofun) ⟨H,I.tok _,q⟩
 | ref p=>
  cases rx;have e':(∃ xs,kD X.K H p xs∧k=!xs.isEmpty)∨(∃ xs,kZ X.K H p xs∧k=!xs.isEmpty)∨∃ kvs,H p=À (.dK kvs)∧k=!kvs.isEmpty:=e;rcases e' with ⟨xs,hx,e'⟩ | ⟨xs,hx,e'⟩ | ⟨kvs,hx,e'⟩
  ·subst e';obtain ⟨its,r,pl,hz⟩:=I.list hx;have hlen:=r.length;exact wpAny_truthy_list pl.isList (by simp only [Õ];nofun) ⟨H,I.tok _,by rw [lP r];exact q⟩
  ·subst e';obtain ⟨its,r,pl,hz⟩:=I.tuple hx;have hlen:=r.length;exact truthy_tuple pl (by simp only [Õ];nofun) ⟨H,I.tok _,by rw [lP r];exact q⟩
  ·subst e';obtain ⟨hz,hS,vs,r,m⟩:kvs.length≤Ä∧(p==sysModules)=Â∧∃ vs,KV kvs vs∧s.heap.DictOf (o6 X.prog X.w) p vs:=I.hok p _ hx;have hlen:kvs.length=vs.length:=Paired.length r;exact wpAny_truthy_dict hS m (by nofun) ⟨H,I.tok _,by rw [sW r];exact q⟩
 | _=>exact (show False from e).elim
theorem xK (ha:PE X a ta) (he:∀ whole,isTrue a X.env whole=(do let v ← whole;standAt a.pos;holding [v] (truthy v))) :
  PT X a (λσ H Q=>ta σ H λx H'=>∃ k,D3 X.K x H' k∧Q k H'):=by
 intro pins s σ H Q I h;exact isTrue_plain (eE (ha pins s σ H _ I h) λv s1 zz=>by obtain ⟨x,H1,I1,r1,q1⟩:=zz;exact D4 pins s1 σ H1 x v Q I1 r1 q1) (he _)
theorem sX:gB X (binaryOp .Add) (λx y H Q=>∃ i j,x=.str i∧y=.str j∧i.length+j.length≤Ä∧Q (.str (i++j)) H):=by intro pins s σ H x y v u Q I rx ry h;obtain ⟨i,j,rfl,rfl,hz,q⟩:=h;obtain ⟨t,rfl⟩:=rx;obtain ⟨t',rfl⟩:=ry;exact ic I.os.2 (add_str (λt' tk ht=>⟨.str (i++j),H,I.tok _,⟨_,rfl⟩,q⟩) hz)
theorem vals1 {x:V} (r:Vals [x] us):∃ u,us=[u]∧RelV x u:=by
 cases r with
 | cons r1 r2=>cases r2;exact ⟨_,rfl,r1⟩
theorem vals2 {x:V} (r:Vals [x,y] us):∃ u w',us=[u,w']∧RelV x u∧RelV y w':=by
 cases r with
 | cons r1 r2=>
  cases r2 with
  | cons r3 r4=>cases r4;exact ⟨_,_,rfl,r1,r3⟩
theorem vE (hc:X.calm=Á):cX X (.builtin "max") (λxs H Q=>∃ i j,xs=[.int i,.int j]∧Q (.int (if j > i then j else i)) H):=by
 intro pins s σ H xs us Q I r h;obtain ⟨i,j,rfl,q⟩:=h;obtain ⟨u,w',rfl,⟨t,rfl⟩,⟨t',rfl⟩⟩:=vals2 r;refine ic I.os.2 <| max_two_ints (I.ok.hd hc) λh' tk k ht=>⟨_,H,I.kept k,?_,q⟩;by_cases hj:j > i
 ·rw [if_pos hj,if_pos hj];exact ⟨_,rfl⟩
 ·rw [if_neg hj,if_neg hj];exact ⟨_,rfl⟩
theorem nW:cX X (.type "int") (λxs H Q=>(∃ i,xs=[.int i]∧Q (.int i) H)∨∃ k,xs=[.bl k]∧Q (.int (if k then 1 else 0)) H):=by
 intro pins s σ H xs us Q I r h;rcases h with ⟨i,rfl,q⟩ | ⟨k,rfl,q⟩
 ·obtain ⟨u,rfl,t,rfl⟩:=vals1 r;exact call_int_int ⟨.int i,H,I,⟨_,rfl⟩,q⟩
 ·obtain ⟨u,rfl,r1⟩:=vals1 r;cases r1;exact call_int_bool ⟨.int (if k then 1 else 0),H,I.tok _,⟨_,rfl⟩,q⟩
theorem pe:cX X (.type "str") (λxs H Q=>∃ i,xs=[.int i]∧i.natAbs.log2<1920∧Q (.str (toString i)) H):=by intro pins s σ H xs us Q I r h;obtain ⟨i,rfl,hz,q⟩:=h;obtain ⟨u,rfl,t,rfl⟩:=vals1 r;exact PySem.P.str_of_int hz ⟨.str _,H,I.tok _,⟨_,rfl⟩,q⟩
end
structure NQ (h:Heap) (x dx C:Addr) (mA:Str→Option Ã):Prop where
 obj:h.get? x=À (SH C dx)
 ns:h.Ns1 dx mA
 ne:dx≠x
structure NR (K:Å) (C:Addr):Prop where
 pg:PySem.W.plainGet K C SX=Á
 hd:PySem.W.hasDictIn K C=Á
 po:PySem.W.plainOver K C=Á
 sa:Ę K (.ref C) "__setattr__"=À (À (.builtin "object.__setattr__"))
structure Qk (K:Å) (C:Addr) (f:Str) (v:V) (u:Ã):Prop where
 at_:Ę K (.ref C) f=À (À u)
 rel:RelV v u
 get:ŧ K u "__get__"=À Æ
 cp:PySem.W.copiedNames.contains f=Â
structure Meth (K:Å) (C:Addr) (m:Str) (f:Addr):Prop where
 at_:Ę K (.ref C) m=À (À (.ref f))
 fn:PySem.W.isFn K (.ref f)=Á
 kp:ö K (.ref f)=Á
section
variable {X:Cx} {pins:List (Addr×Obj)} {σ:St} {H:Hp} {s:Ç} {A:Around} {E:Ã→Ç→Prop} {Q:Ã→Ç→Prop} {c:Ã} {b:Bool}
inductive lQ (K:Å) (H:Hp):V→Ã→Prop where
 | dR:lQ K H .dR (.type "NoneType")
 | bl (x:Bool):lQ K H (.bl x) (.type "bool")
 | int (i:Int):lQ K H (.int i) (.type "int")
 | str (x:Str):lQ K H (.str x) (.type "str")
 | GV (x:UInt64):lQ K H (.GV x) (.type "float")
 | lst {a:Addr} {xs:List V} (e:H a=À (.lst xs)):lQ K H (.ref a) (.type "list")
 | di {a:Addr} {o:Obj} {xs:List V} (e:H a=À (.di o (.lst xs))):lQ K H (.ref a) (.type "list")
 | tup {a:Addr} {xs:List V} (e:H a=À (.tup xs)):lQ K H (.ref a) (.type "tuple")
 | dK {a:Addr} {kvs:List (Key×V)} (e:H a=À (.dK kvs)):lQ K H (.ref a) (.type "dict")
 | dT {a:Addr} {kvs:List (List Key×V)} (e:H a=À (.dT kvs)):lQ K H (.ref a) (.type "dict")
 | ins {a C dx:Addr} {fs:List (Str×V)} (e:H a=À (.ins C dx fs)) (cl:NR K C) (ha:Ę K (.ref C) "__class__"=À (À (.builtin "object.__class__")))
   (hn:ŧ K (.builtin "object.__class__") "__get__"=À (À (.builtin "getset_descriptor.__get__"))) (htk:SI K (.builtin "object.__class__")=À Á)
   (hm:R0 K C (.type "object")=À Á):lQ K H (.ref a) (.ref C)
end
structure cZ (k:Nat) (A:Around):Prop where
 hd:A.handled=Æ
 dp:A.depth+3*k+5<recursionLimit
 un:A.units+16*k+600<cLine
theorem cZ.mono {k:Nat} (r:cZ k A) (h:j≤k):cZ j A:=⟨r.hd,by have:=r.dp;nofun,by have:=r.un;nofun⟩
theorem cZ.deeper {k:Nat} (r:cZ (k+1) A) (env:Env):cZ k (A.deeper env):=
 ⟨r.hd,by have:=r.dp;show A.depth+1+3*k+5<_;nofun,by have:=r.un;show A.units+3+16*k+600<_;nofun⟩
theorem cZ.in1 {k:Nat} (r:cZ (k+1) A):cZ k A.in1:=
 ⟨r.hd,by have:=r.dp;show A.depth+3*k+5<_;nofun,by have:=r.un;show A.units+1+16*k+600<_;nofun⟩
theorem sY {C:Addr}:(A.under (.builtin "type.__call__" ⟨.ref C::us,kw⟩)).depth=A.depth+1:=by
 first | rfl | simp [Sj,Code.weight,Code.isCreation,Code.isGuard,Code.isCaller,Code.frames,Sk,guardIds]
theorem sZ {C:Addr}:(A.under (.builtin "type.__call__" ⟨.ref C::us,kw⟩)).units=A.units+1:=by
 first | rfl | simp [Sj,Code.cUnits,Code.frames,Sk]
theorem cZ.make {k:Nat} (r:cZ (k+1) A) (C:Addr) (us:List Ã) (kw:List (Str×Ã)):cZ k (A.under (.builtin "type.__call__" ⟨.ref C::us,kw⟩)):=
 ⟨r.hd,by have:=r.dp;rw [sY];nofun,by have:=r.un;rw [sZ];nofun⟩
theorem cZ.depth {k:Nat} (r:cZ k A):A.depth<recursionLimit:=by have:=r.dp;nofun
theorem cZ.units {k:Nat} (r:cZ k A):A.units+64<cLine:=by have:=r.un;nofun
def Hu:TA:=λ_ H Q=>Q [] H
def xM (ta:TE) (tr:TA):TA:=λσ H Q=>ta σ H λx H1=>tr σ H1 λxs H2=>Q (x::xs) H2
section
variable {X:Cx} {e:Expr} {es:List Expr} {te:TE} {t:TA} {pos:Pos}
theorem xN:PA X [] Hu:=λ_ _ _ _ H Q I h=>į ⟨[],H,I,.nil,h⟩
theorem pq (ha:PE X e te) (hr:PA X es t) (hs:Ô (e::es) X.env=(Â,eval e X.env)::Ô es X.env:=by rfl):PA X (e::es) (xM te t):=by intro pos pins s σ H Q I h;rw [hs];show Û _ _ (spliced ((Â,eval e X.env)::backTo pos (Ô es X.env))) _ _ s;refine ú (eE (ha pins s σ H _ I h) λu s1 zz=>?_);obtain ⟨x,H1,I1,r1,q1⟩:=zz;exact eE (hr pos pins s1 σ H1 _ I1 q1) λus s2 zz=>by obtain ⟨xs,H2,I2,r2,q2⟩:=zz;exact ⟨x::xs,H2,I2,.cons r1 r2,q2⟩
def K4 (t:TA):TE:=λσ H Q=>t σ H λxs H1=>xs.length≤Ä∧∀ p,H1 p=Æ→Q (.ref p) (upd H1 p (.tup xs))
def K5 (t:TA):TE:=λσ H Q=>t σ H λxs H1=>xs.length≤Ä∧∀ p,H1 p=Æ→Q (.ref p) (upd H1 p (.lst xs))
theorem D5 {x1} (h:PA X es t):PE X (.Tuple es x1 pos) (K4 t):=by intro pins s σ H Q I hq;refine wpAny_Tuple_spliced (eE (h pos pins s σ H _ I hq) λus s1 ⟨xs,H1,I1,r,z,q⟩=>⟨by rw [← r.length];exact z,?_⟩);have hf:H1 s1.heap.objs.size=Æ:=I1.hok.fresh (Ó _);refine ⟨.ref s1.heap.objs.size,upd H1 s1.heap.objs.size (.tup xs),I1.laid (t':=s1.toks) (λb u e=>Î _ e) (Ó _) ?_,rfl,q _ hf⟩;exact ⟨z,us,r,⟨_,ç _ rfl,rfl,_,rfl⟩⟩
theorem D6 (h:PA X es t):PE X (.List es pos) (K5 t):=by intro pins s σ H Q I hq;refine wpAny_List_spliced (eE (h pos pins s σ H _ I hq) λus s1 ⟨xs,H1,I1,r,z,q⟩=>⟨by rw [← r.length];exact z,?_⟩);have hf:H1 s1.heap.objs.size=Æ:=I1.hok.fresh (Ó _);refine ⟨.ref s1.heap.objs.size,upd H1 s1.heap.objs.size (.lst xs),I1.laid (t':=s1.toks) (λb u e=>Î _ e) (Ó _) ?_,rfl,q _ hf⟩;exact ⟨z,us,0,r,ç _ rfl⟩
end
abbrev Sp:=List V→Hp→VK→XK→Prop
variable {sp Hv:Sp}
abbrev nX:=List Env→Hp→Ç→XK→Ã→Ç→Prop
variable {CX:nX}
structure lR (P:ó) (w:Đ) (K:Å) (mg:Str→Option Ã) (base:Heap) (A:Around) (outer:List Env) (s:Ç) (H:Hp):Prop where
 frames:A.frames=À outer
 mod:Mod K mg base
 bs:∀ b o,base.get? b=À o→s.heap.get? b=À o∧H b=Æ
 xC:base.objs.size≤s.heap.objs.size
 ji:s.heap.FunFrames base outer
 Az:∀ b∈frs outer,H b=Æ
 hok:iA P w H s.heap
 bare:AllBare s.gens
def CE (outer:List Env) (P:ó) (w:Đ) (H:Hp) (s:Ç) (Q:VK) (u:Ã) (s':Ç):Prop:=
 ∃ v H',(s'.os=s.os∧0<s'.toks)∧AllBare s'.gens∧Un (frs outer) [] H H' s.heap s'.heap∧iA P w H' s'.heap∧RelV v u∧Q v H'
def CR (CX:nX) (outer:List Env) (P:ó) (w:Đ) (H:Hp) (s:Ç) (Q:VK) (E:XK) (r:Result) (s':Ç):Prop:=
 match r with
 | .ok (.ret u)=>CE outer P w H s Q u s'
 | .ok _=>False
 | .error e=>CX outer H s E e s'
structure j0 (P:ó) (w:Đ) (K:Å) (mg:Str→Option Ã) (base:Heap) (CX:nX) (k:Nat) (f:Addr) (fd:FuncData) (ps:List Str) (sp:Sp):Prop where
 len:∀ vs H Q E,sp vs H Q E→vs.length=ps.length
 run:∀ (A:Around) (outer:List Env) (s:Ç) (H:Hp) (args:Args) (us:List Ã) (vs:List V) (Q:VK) (E:XK),cZ k A→lR P w K mg base A outer s H→0<s.toks→BindsTo s fd args (ps.zip us)→Vals vs us→sp vs H Q E →
  codeAny (model P w) A (.call (.ref f) args) (CR CX outer P w H s Q E) s
structure jc (P:ó) (w:Đ) (K:Å) (mg:Str→Option Ã) (base:Heap) (CX:nX) (k:Nat) (f:Addr) (fd:FuncData) (ps:List Str) (sp:Sp):Prop where
 len:∀ vs H Q E,sp vs H Q E→vs.length=ps.length
 run:∀ (A:Around) (outer:List Env) (s:Ç) (H:Hp) (args:Args) (us:List Ã) (vs:List V) (Q:VK) (E:XK),cZ k A→lR P w K mg base A outer s H→BindsTo s fd args (ps.zip us)→Vals vs us→sp vs H Q E →
  codeAny (model P w) A (.call (.ref f) args) (CR CX outer P w H s Q E) s
theorem jc.imp {k:Nat} {f:Addr} (F:jc P w K mg base CX k f fd ps sp)
  (h:∀ vs H Q E,Hv vs H Q E→sp vs H Q E):jc P w K mg base CX k f fd ps Hv:=
 ⟨λvs H Q E q=>F.len vs H Q E (h _ _ _ _ q),λA outer s H args us vs Q E hr he hb hv hs=>F.run A outer s H args us vs Q E hr he hb hv (h _ _ _ _ hs)⟩
theorem j0.imp {k:Nat} {f:Addr} (F:j0 P w K mg base CX k f fd ps sp)
  (h:∀ vs H Q E,Hv vs H Q E→sp vs H Q E):j0 P w K mg base CX k f fd ps Hv:=
 ⟨λvs H Q E q=>F.len vs H Q E (h _ _ _ _ q),λA outer s H args us vs Q E hr he ht hb hv hs=>F.run A outer s H args us vs Q E hr he ht hb hv (h _ _ _ _ hs)⟩
theorem lR.make {s:Ç} (e:lR P w K mg base A outer s H) (C:Addr) (us:List Ã) (kw:List (Str×Ã)) :
  lR P w K mg base (A.under (.builtin "type.__call__" ⟨.ref C::us,kw⟩)) outer s H:=⟨by first | exact e.frames | (simpa [Sj,Code.envs,Sk,pushEnvs] using e.frames),e.mod,e.bs,e.xC,e.ji,e.Az,e.hok,e.bare⟩
theorem lR.in1 {s:Ç} (e:lR P w K mg base A outer s H) :
  lR P w K mg base A.in1 outer s H:=⟨e.frames,e.mod,e.bs,e.xC,e.ji,e.Az,e.hok,e.bare⟩
section
variable {X:Cx} {pins:List (Addr×Obj)} {σ:St} {H:Hp} {s s':Ç}
theorem Inv.eZ (I:Inv X pins σ H s):lR X.prog X.w X.K X.mg X.base X.A X.stack s H:=
 ⟨I.ok.frames,I.ok.mod,I.bs,Ć I.ok.xC I.sz,I.stack,I.jy,I.hok,I.bare⟩
theorem Inv.after {Q:VK} (I:Inv X pins σ H s) (h:CE X.stack X.prog X.w H s Q u s'):EP X pins σ Q u s':=by obtain ⟨v,H',os,bare,un,hok,r,q⟩:=h;obtain ⟨hh,g,d,t,os'⟩:=s';have ht:0<t:=os.2;obtain rfl:os'=s.os:=os.1;exact ⟨v,H',I.call (h':=hh) (g':=g) (d':=d) (t':=t) (ch:=[]) un hok bare (λb z=>absurd z (by simp)),r,q⟩
end
def Binds (K:Å) (fd:FuncData) (ps:List Str) (ds:List Ã):Prop:=
 ∀ (s:Ç) (us:List Ã),K.In s.heap→(us++ds).length=ps.length→BindsTo s fd ⟨us,[]⟩ (ps.zip (us++ds))
theorem Binds.all (h:∀ us:List Ã,us.length=ps.length→bindArgs fd ⟨us,[]⟩=pure (ps.zip us)):Binds K fd ps []:=λs us _ hl=>by rw [ò] at hl ⊢;exact .of_eq (h us hl)
section
variable {X:Cx} {CX:nX} {k:Nat} {f C:Addr} {fd:FuncData} {ps:List Str} {sp:Sp} {Ql:List V} {ds:List Ã} {E:XK} {x m:Str} {p pos apos:Pos} {e o:Expr} {es:List Expr} {ta:TE} {t:TA}
structure Mk (K:Å) (C f:Addr):Prop where
 makes:PySem.W.makesIn K C=Á
 init:Ę K (.ref C) "__init__"=À (À (.ref f))
 fn:PySem.W.isFn K (.ref f)=Á
 kp:ö K (.ref C)=Á
end
section
variable {X:Cx} {CX:nX} {k:Nat} {f C:Addr} {fd:FuncData} {ps ks:List Str} {sp:Sp} {E:XK} {x m:Str} {p pos apos kpos:Pos} {e o:Expr} {es:List Expr} {kws:List Keyword} {te ta:TE} {t tk:TA} {nm:Option Str}
structure K6 (K:Å) (fd:FuncData) (ps ks:List Str) (g:List Ã→List Ã→List Ã) (gV:List V→List V→List V):Prop where
 to:∀ (s:Ç) (us ws:List Ã),K.In s.heap→(g us ws).length=ps.length→BindsTo s fd ⟨us,ks.zip ws⟩ (ps.zip (g us ws))
 rel:∀ {vs:List V} {us:List Ã} {zs:List V} {ws:List Ã},Vals vs us→Vals zs ws→Vals (gV vs zs) (g us ws)
variable {g:List Ã→List Ã→List Ã} {gV:List V→List V→List V}
end
structure iS (N P:List Str) (sc:Scope):Prop where
 kind:sc.kind=.function
 co:sc.isCoroutine=Â
 gen:sc.isGenerator=Â
 nd:N.Nodup
 pre:N.take P.length=P
 par:∀ x∈P,sc.names.lookup x=À .local∨sc.names.lookup x=À .cell
 D7:∀ y∈sc.names,y.2≠.free
theorem nY {kindOf:Str→Option NameKind} {x:Str}:∀ {binds:List (Str×Ã)} {m:Str→Option Ã},(∀ v,(x,v)∉binds)→bindL kindOf binds m x=m x
 | [],_,_=>rfl
 | (n,v)::r,m,h=>by
  unfold bindL;rw [nY λw hw=>h w (Ù _ hw)];split
  ·have:x≠n:=by rintro rfl;exact h v ô
   simp [this]
  ·rfl
theorem nZ {kindOf:Str→Option NameKind} {x:Str}:∀ {binds:List (Str×Ã)} {m:Str→Option Ã},(∀ v,(x,v)∉binds)→bindC kindOf binds m x=m x
 | [],_,_=>rfl
 | (n,v)::r,m,h=>by
  unfold bindC;rw [nZ λw hw=>h w (Ù _ hw)];split
  ·rfl
  ·have:x≠n:=by rintro rfl;exact h v ô
   simp [this]
theorem n5 {kindOf:Str→Option NameKind} {x:Str} {v:Ã}:∀ {P:List Str} {vs:List Ã} {i:Nat} {m:Str→Option Ã},P.Nodup→P[i]?=À x→vs[i]?=À v→kindOf x=À .local →
  bindL kindOf (P.zip vs) m x=À v
 | [],_,_,_,_,h,_,_=>by simp at h
 | _::_,[],_,_,_,_,h,_=>by simp at h
 | p::P,w::vs,0,m,nd,h1,h2,hk=>by simp at h1 h2;subst h1;subst h2;show bindL kindOf ((p,w)::P.zip vs) m p=_;unfold bindL;rw [nY λv hv=>(ĕ.mp nd).1 (Ž hv).1,if_pos hk];simp
 | p::P,w::vs,i+1,m,nd,h1,h2,hk=>by show bindL kindOf ((p,w)::P.zip vs) m x=_;unfold bindL;exact n5 (i:=i) (ĕ.mp nd).2 (by simpa using h1) (by simpa using h2) hk
theorem n6 {kindOf:Str→Option NameKind} {x:Str} {v:Ã}:∀ {P:List Str} {vs:List Ã} {i:Nat} {m:Str→Option Ã},P.Nodup→P[i]?=À x→vs[i]?=À v→kindOf x≠À .local →
  bindC kindOf (P.zip vs) m x=À v
 | [],_,_,_,_,h,_,_=>by simp at h
 | _::_,[],_,_,_,_,h,_=>by simp at h
 | p::P,w::vs,0,m,nd,h1,h2,hk=>by simp at h1 h2;subst h1;subst h2;show bindC kindOf ((p,w)::P.zip vs) m p=_;unfold bindC;rw [nZ λv hv=>(ĕ.mp nd).1 (Ž hv).1,if_neg hk];simp
 | p::P,w::vs,i+1,m,nd,h1,h2,hk=>by show bindC kindOf ((p,w)::P.zip vs) m x=_;unfold bindC;exact n6 (i:=i) (ĕ.mp nd).2 (by simpa using h1) (by simpa using h2) hk
def start (N:List Str) (vs:List V):St:=vs.map À++Ì (N.length - vs.length) Æ
def lS (CX:nX) (P:ó) (w:Đ) (K:Å) (mg:Str→Option Ã) (base:Heap) (N:List Str) (qual:Str) (scope:Scope) (f:Addr) (cd:Ã) (A:Around) (outer:List Env) (s:Ç) (H:Hp) (E:XK):Cx where
 prog:=P
 w:=w
 K:=K
 mg:=mg
 base:=base
 A:=A.deeper (envOfC qual scope s.heap.objs.size f cd)
 N:=N
 s₀:=s
 H₀:=H
 env:=envOfC qual scope s.heap.objs.size f cd
 outer:=outer
 stack:=envOfC qual scope s.heap.objs.size f cd::outer
 ex:=[]
 calm:=Á
 fn:=λ_=>Á
 pn:=[]
 xe:=λe s'=>Û (model P w) (A.deeper (envOfC qual scope s.heap.objs.size f cd)) (leaving (envOfC qual scope s.heap.objs.size f cd) e) (λ_ s''=>CX outer H s E e s'') (λe' s''=>CX outer H s E e' s'') s'
theorem qO {n:Nat} (h:sc.names.lookup x=À .cell):∃ c,(cellsFrom n sc.names []).lookup x=À c:=by have q:=ŷ sc.names n [] (.inl h);exact Option.isSome_iff_exists.mp q
theorem n8 {CX:nX} {P:ó} {w:Đ} {K:Å} {mg:Str→Option Ã} {base:Heap} {N ps:List Str} {qual:Str} {scope:Scope} {f:Addr} {cd:Ã} {A:Around} {outer:List Env} {s s1:Ç} {H:Hp} {E:XK} {us:List Ã} {vs:List V}
  (S:iS N ps scope) (hd:A.handled=Æ) (e0:lR P w K mg base A outer s H) (hl:vs.length=ps.length) (r:Vals vs us)
  (x:InCallC s s.heap.objs.size (bindL (envOfC qual scope s.heap.objs.size f cd).kindOf (ps.zip us) λ_=>Æ) (cellsFrom (s.heap.objs.size+1) scope.names []) (bindC (envOfC qual scope s.heap.objs.size f cd).kindOf (ps.zip us) λ_=>Æ) s1) {n:Nat} (ht:0<n) :
  Inv (lS CX P w K mg base N qual scope f cd A outer s H E) [] (start N vs) H {s1 with toks:=n}:=by
 have hpl:ps.length≤N.length:=by have:=congrArg List.length S.pre;rw [Ů] at this;nofun
 obtain ⟨h1,tk,rfl,hk⟩:=x.done;have Hw:∀ b:Addr,b∉(lS CX P w K mg base N qual scope f cd A outer s H E).ex:=λb z=>absurd (show b∈([]:List Addr) from z) (by simp)
 refine ⟨⟨e0.mod,S.kind,rfl,rfl,Ó _,λy z c h1 h2=>?_,λy hy=>?_,λy c _ h=>?_,λ_=>hd,Around.frames_deeper e0.frames,.inr ⟨rfl,rfl⟩,λb z=>absurd z (Hw b),e0.bs,e0.xC,λb _ _=>Hw b,λb z=>absurd z (Hw b),e0.ji,e0.Az⟩,
  ⟨rfl,ht⟩,e0.bare,Un.kept hk,⟨_,x.toInCall.ns,λi y v h1 h2 h3=>?_⟩,λy c h=>⟨_,x.cell y c h⟩,e0.hok.fresh (Ó _),λy c h=>?_,λp hp=>absurd (show p∈([]:List (Addr×Obj)) from hp) (by simp),e0.hok.kept hk,?_⟩
 ·exact name_of_addr x.apart (Ģ h1) (Ģ h2)
 ·have hy:scope.names.lookup y=À .cell∨scope.names.lookup y=À .free:=hy;rcases hy with hy | hy
  ·exact qO hy
  ·exact absurd rfl (S.D7 _ (Ģ hy))
 ·exact Si (x.above y c (Ģ h))
 ·have hi:i<vs.length:=by
   unfold start at h2;by_cases hi:i<vs.length
   ·exact hi
   ·rw [Ú (by simpa using hi)] at h2;rw [ľ] at h2;split at h2<;>cases h2
  have ha:vs[i]?=À v:=by
   unfold start at h2;rw [Ñ (by simpa using hi),å] at h2;cases e:vs[i]? with
   | none=>rw [e] at h2;cases h2
   | some a=>rw [e] at h2;cases h2;rfl
  obtain ⟨u,hu,rv⟩:=r.get ha;have hp:ps[i]?=À y:=by rw [← S.pre,List.getElem?_take_of_lt (by nofun)];exact h1
  have MO:ps.Nodup:=by rw [← S.pre];exact S.nd.sublist (List.take_sublist _ _)
  refine ⟨u,rv,?_⟩;rcases S.par y (û hp) with k | k
  ·exact .inl ⟨k,n5 MO hp hu k⟩
  ·obtain ⟨c,e⟩:=qO (n:=s.heap.objs.size+1) k;refine .inr ⟨.inl k,c,e,?_⟩;have q:=x.cell y c e;rw [n6 MO hp hu (by show scope.names.lookup y≠_;rw [k];decide)] at q;exact q
 ·exact .inl (e0.hok.fresh (Si (x.above y c (Ģ h))))
 ·unfold start;show _=N.length;rw [ü,ý,List.length_replicate];nofun
theorem Hx {CX:nX} {P:ó} {w:Đ} {K:Å} {mg:Str→Option Ã} {base:Heap} {k:Nat} {f:Addr} {name qual:Str} {params:Arguments} {body:List Stmt} {scope:Scope} {dV kV doc pm cdv ct oc:Ã} {an od:Option Addr}
  {osl:Array (Option Ã)} {N ps:List Str} {sp:Sp} (lk:K.lookup f=À ⟨oc,od,.func (Ĝ name qual params body scope dV kV doc pm an cdv ct),osl⟩) (hcd:ń K cdv qual=Á) (S:iS N ps scope)
  (len:∀ vs H Q E,sp vs H Q E→vs.length=ps.length)
  (hbody:∀ (A:Around) (outer:List Env) (s:Ç) (H:Hp) (vs:List V) (Q:VK) (E:XK),cZ k (A.deeper (envOfC qual scope s.heap.objs.size f cdv))→sp vs H Q E →
   ∃ t,uB (lS CX P w K mg base N qual scope f cdv A outer s H E) body t∧t {nx:=λ_ H'=>Q .dR H',rt:=Q} (start N vs) H) :
  j0 P w K mg base CX (k+1) f (Ĝ name qual params body scope dV kV doc pm an cdv ct) ps sp:=by
 refine ⟨len,λA outer s H args us vs Q E hr e0 htk hb r qP=>?_⟩;have hl:=len _ _ _ _ qP;have KX:K.In s.heap:=e0.mod.GD.keeps λb o e=>(e0.bs b o e).1;have lim:s.heap.NoLimit:=e0.mod.nolimit.keeps λb o e=>(e0.bs b o e).1;have hkind:∀ y∈ps.zip us,scope.names.lookup y.1=À .local∨(scope.names.lookup y.1=À .cell∧((cellsFrom (s.heap.objs.size+1) scope.names []).lookup y.1).isSome=Á):=λzz hy=>by
  obtain ⟨n,v⟩:=zz;rcases S.par n (Ž hy).1 with q | q
  ·exact .inl q
  ·exact .inr ⟨q,ŷ _ _ _ (.inl q)⟩
 refine codeAny_call_function hr.depth (KX _ _ lk) rfl S.co S.gen rfl (R7 KX hcd) (hb _ _ _ _ ?_);refine ic htk (ř S.kind hkind λenv he s1 x=>λK7=>?_);subst he;refine ⟨lim.keeps x.toInCall.keep,codeAny_func ?_⟩;obtain ⟨t,ht,hq⟩:=hbody A outer s H vs Q E (hr.deeper _) qP;have I:Inv (lS CX P w K mg base N qual scope f cdv A outer s H E) [] (start N vs) H s1:=n8 S hr.hd e0 hl r x (n:=s1.toks) K7;refine ê (ht [] s1 (start N vs) H _ I hq) (λfl s' hs=>?_) λe s' hs=>hs
 have fin:∀ {σ':St} {H':Hp} {v:V} {u:Ã},Inv (lS CX P w K mg base N qual scope f cdv A outer s H E) [] σ' H' s'→RelV v u→Q v H'→CE outer P w H s Q u s':=
  λ{σ' H' v u} J rv q=>⟨v,H',J.os,J.bare,J.base,J.hok,rv,q⟩
 cases fl with
 | ret u=>obtain ⟨v,σ',H',J,rv,q⟩:=hs;exact fin J rv q
 | next=>obtain ⟨σ',H',J,q⟩:=hs;exact fin (v:=V.dR) (u:=Value.none) J rfl q
 | brk=>obtain ⟨_,_,_,q⟩:=hs;exact Ĉ q
 | cont=>obtain ⟨_,_,_,q⟩:=hs;exact Ĉ q
section
variable {X:Cx} {x:Str} {p pos:Pos} {e:Expr} {es:List Expr} {t:TA} {id T:String} {r:List V→Hp→VK→Prop}
def MP (r:List V→Hp→VK→Prop) (t:TA):TE:=λσ H Q=>t σ H λvs H1=>r vs H1 Q
theorem xO (hc:cX X (.builtin id) r) (hg:Gl X x) (hm:X.mg x=Æ) (hv:bootBuiltins x=À (.builtin id)) (ha:PA X (e::es) t) (hn:x≠"__name__":=by decide) (hdb:(x==("__debug__":Str))=Â:=by decide)
  (he:Ô (e::es) X.env=(Â,eval e X.env)::Ô es X.env:=by rfl) (hpl:(backTo pos (Ô es X.env)).any (·.1)=Â:=by rfl):PE X (.Call (.Name x p) (e::es) [] pos) (MP r t):=by
 intro pins s σ H Q I h;refine ĉ (gw I hg hm hv ?_ hn hdb);exact Ā (eE (ha pos pins s σ H _ I h) λus s1 zz=>by obtain ⟨vs,H1,I1,r1,q1⟩:=zz;exact hc pins s1 σ H1 vs us Q I1 r1 q1) he hpl
theorem vF (hc:cX X (.type T) r) (hg:Gl X x) (hm:X.mg x=Æ) (hv:bootBuiltins x=À (.type T)) (ha:PA X (e::es) t) (hn:x≠"__name__":=by decide) (hdb:(x==("__debug__":Str))=Â:=by decide)
  (he:Ô (e::es) X.env=(Â,eval e X.env)::Ô es X.env:=by rfl) (hpl:(backTo pos (Ô es X.env)).any (·.1)=Â:=by rfl):PE X (.Call (.Name x p) (e::es) [] pos) (MP r t):=by
 intro pins s σ H Q I h;refine ĉ (gw I hg hm hv ?_ hn hdb);exact Ŗ (eE (ha pos pins s σ H _ I h) λus s1 zz=>by obtain ⟨vs,H1,I1,r1,q1⟩:=zz;exact hc pins s1 σ H1 vs us Q I1 r1 q1) he hpl
end
end
end L2
namespace HT
noncomputable section
open PySem PyProof.Rows
section
open PySem.SeqAt
open PySem.AutoSeq1 (wpAny_loadPart')
open PySem.MeetsSeq PySem.MeetsSeq2 PySem.MeetsSeq3
end
section
variable {prog:ó} {w:Đ} {A:Around} {E:Ã→Ç→Prop} {s:Ç}
theorem AY {t b:Addr} {vs ws:List Ã} {Q:Ã→Ç→Prop} (ht:IsTup s.heap t vs.toArray) (hb:IsTup s.heap b ws.toArray) (hv:vs≠[])
  (h1:ws=[]→Q (.ref t) s) (h2:ws≠[]→Q (.ref s.heap.objs.size) {s with heap:=s.heap.push {cls:=.type "tuple",data:=.seq (vs++ws).toArray}})
  (hsz:vs.length+ws.length≤Ä):Û (model prog w) A (binaryOp .Add (.ref t) (.ref b)) Q E s:=by
 obtain ⟨⟨cls,dd,data,sl⟩,ho,hc,n,hd⟩:=id ht;obtain ⟨⟨Hy,dd2,data2,sl2⟩,ho2,hc2,n2,hd2⟩:=id hb;simp only at hc hd hc2 hd2;subst hc hd hc2 hd2;have e:vs.toArray++ws.toArray=(vs++ws).toArray:=by simp
 by_cases hw:ws=[]
 ·exact concat_meets ⟨_,ho,rfl⟩ ⟨_,ho2,rfl⟩ noFill_tuple_add seq_tuple_add Ņ Ŀ (Ĺ _ _)
   (tuple_addW1 t b vs.toArray ws.toArray n n2 dd dd2 sl sl2 (by simpa using hv) (by simp [hw])) ⟨ho,ho2,h1 hw⟩
 ·refine concat_meets ⟨_,ho,rfl⟩ ⟨_,ho2,rfl⟩ noFill_tuple_add seq_tuple_add Ņ Ŀ (Ĺ _ _)
   (tuple_addW2 t b vs.toArray ws.toArray n n2 dd dd2 sl sl2 (by simpa using hv) (by simpa using hw) (by rw [Õ,Õ];exact hsz)) ⟨ho,ho2,?_⟩
  rw [e];exact h2 hw
def dI (n d:Nat):Option Int→Nat
 | none=>d
 | some v=>if v<0 then (v+(n:Int)).toNat else min v.toNat n
theorem lT (n d:Nat):dI n d Æ=d:=rfl
theorem pA (n d k:Nat):dI n d (À (k:Int))=min k n:=by show (if (k:Int)<0 then ((k:Int)+(n:Int)).toNat else min (k:Int).toNat n)=min k n;rw [if_neg (by nofun),Ũ]
theorem D8 (n d:Nat) (hd:d≤n) (o:Option Int):dI n d o≤n:=by
 cases o with
 | none=>exact hd
 | some v=>
  show (if v<0 then (v+(n:Int)).toNat else min v.toNat n)≤n;by_cases hv:v<0
  ·rw [if_pos hv];nofun
  ·rw [if_neg hv];exact Nat.min_le_right _ _
theorem uE (v:Int) (n d:Nat):(if v<0 then max (v+(n:Int)) 0 else min v (n:Int))=((dI n d (À v):Nat):Int):=by
 show (if v<0 then max (v+(n:Int)) 0 else min v (n:Int))=(((if v<0 then (v+(n:Int)).toNat else min v.toNat n):Nat):Int);by_cases hv:v<0
 ·simp only [if_pos hv];nofun
 ·simp only [if_neg hv];nofun
theorem tu (lo hi:Option Int) (n:Nat):Ķ lo hi 1 (n:Int)=(((dI n 0 lo:Nat):Int),((dI n n hi:Nat):Int)):=by
 have h1:¬ ((1:Int)<0):=by nofun
 unfold Ķ;simp only [h1,if_false];refine Prod.ext ?_ ?_
 ·cases lo with
  | none=>rfl
  | some v=>exact uE v n 0
 ·cases hi with
  | none=>rfl
  | some v=>exact uE v n n
theorem tw (i j:Nat):ě (i:Int) (j:Int) 1=j - i:=by
 unfold ě;have h1:(1:Int) > 0:=by nofun
 simp only [h1,if_true,Int.ediv_one];split<;>nofun
theorem lU {v:Ã} {o:Option Int} {Q:Option Int→Ç→Prop} (p:IsPart v o) (h:Q o s):Û (model prog w) A (Builtin.Slice.slicePartIndex v) Q E s:=by
 cases p with
 | none=>exact slicePart_none h
 | int i t=>exact slicePart_int h
theorem j3 {sl:Addr} {vl vu:Ã} {lo hi:Option Int} {n:Nat} {Q:Int×Int×Nat→Ç→Prop} (hs:s.heap.IsSliceOf sl vl vu .none) (pl:IsPart vl lo) (pu:IsPart vu hi)
  (h:Q (((dI n 0 lo:Nat):Int),1,dI n n hi - dI n 0 lo) s):Û (model prog w) A (Ś (.ref sl) (pure (n:Int))) Q E s:=by
 obtain ⟨os,hos,hcs,hds⟩:=id hs;unfold Ś Builtin.Slice.sliceFields;refine Ê (Ê (ē hos hds (x:=vl) rfl (Ê (ē hos hds (x:=vu) rfl (Ê (ē hos hds (x:=.none) rfl (Ø ?_)))))));refine Ê (slicePart_none ?_);show Û _ _ (if ((1:Int)==0)=Á then _ else _) _ _ s;rw [if_neg (by decide)];refine Ê (lU pl (Ê (lU pu (Ê (Ø ?_)))));show Û _ _ (match Ķ lo hi 1 (n:Int) with | (lo,hi)=>pure (lo,(1:Int),ě lo hi 1)) _ _ s;rw [tu lo hi n];show Û _ _ (pure (((dI n 0 lo:Nat):Int),(1:Int),ě ((dI n 0 lo:Nat):Int) ((dI n n hi:Nat):Int) 1)) _ _ s;rw [tw];exact Ø h
theorem xP (xs:Array Ã) (i k:Nat):((ĥ k).filterMap λ(m:Nat)=>xs[((i:Int)+(m:Int)*1).toNat]?).toArray=((xs.toList.drop i).take k).toArray:=by
 have e:(λ(m:Nat)=>xs[((i:Int)+(m:Int)*1).toNat]?)=λm=>xs[i+m]?:=by
  funext m;have:((i:Int)+(m:Int)*1).toNat=i+m:=by nofun
  rw [this]
 rw [e];have:=pick_run xs i k;rw [List.filterMap_map] at this;have e2:((λx=>xs[x]?)∘λx=>i+x)=λm=>xs[i+m]?:=rfl;rw [e2] at this;rw [this]
theorem jA {t sl:Addr} {items:Array Ã} {vl vu:Ã} {lo hi:Option Int} {Q:Ã→Ç→Prop} (ht:IsTup s.heap t items) (hs:s.heap.IsSliceOf sl vl vu .none) (pl:IsPart vl lo) (pu:IsPart vu hi)
  (hw:¬ (dI items.size 0 lo=0∧dI items.size items.size hi=items.size))
  (h:Q (.ref s.heap.objs.size) {s with heap:=s.heap.push {cls:=.type "tuple",data:=.seq ((items.toList.drop (dI items.size 0 lo)).take (dI items.size items.size hi - dI items.size 0 lo)).toArray}})
  (hsz:items.size≤Ä):Û (model prog w) A (getItem (.ref t) (.ref sl)) Q E s:=by
 have uF:sizeOk (.seq ((items.toList.drop (dI items.size 0 lo)).take (dI items.size items.size hi - dI items.size 0 lo)).toArray):=by show ((items.toList.drop (dI items.size 0 lo)).take (dI items.size items.size hi - dI items.size 0 lo)).toArray.size≤Ä;rw [Õ,Ů,Sx,œ];nofun
 have hj:dI items.size items.size hi≤items.size:=D8 _ _ (Ó _) hi;obtain ⟨os,hos,hcs,hds⟩:=id hs;have NS:s.TypeIs (.ref sl) "slice":=⟨os,hos,hcs⟩;unfold getItem
 try with_reducible refine Ū ?_
 first | refine Ê (Ø ?_) | skip
 refine Ê (wpAny_sequenceKey ht.typeIs (by decide) ?_)
 refine Ê (wpAny_callSpecial?_slot (name:=Str.ofString "__getitem__") ht.typeIs ġ
  (wpAny_call_entry ġ ht.typeIs entry_tuple_getitem ?_ (args_tuple_getitem _ _)))
 show Û _ _ (Builtin.Tuple.tupleItemsOf (.ref t) >>= _) _ _ s;refine Ê (tupleItemsOf_ ht ?_);refine Ê (wpAny_typeOf NS ?_);rw [if_pos (by decide)];refine Ê (j3 hs pl pu ?_);have hno:¬ ((((dI items.size 0 lo:Nat):Int)==0&&(1:Int)==1&&(dI items.size items.size hi - dI items.size 0 lo)==items.size)=Á):=by intro q;rw [ā,ā] at q;have q1:((dI items.size 0 lo:Nat):Int)=0:=eq_of_beq q.1.1;have q2:dI items.size items.size hi - dI items.size 0 lo=items.size:=eq_of_beq q.2;exact hw ⟨by nofun,by nofun⟩
 show Û _ _ (if (((dI items.size 0 lo:Nat):Int)==0&&(1:Int)==1&&(dI items.size items.size hi - dI items.size 0 lo)==items.size)=Á then _ else _) _ _ s;rw [if_neg hno,xP]
 first
  | exact Ê (m:=Ġ _) (ĝ (Ø ⟨_,rfl,Ø h⟩) uF)
  | exact Ê (m:=Ġ _) (ĝ (Ê (Ø (Ø ⟨_,rfl,Ø h⟩))) uF)
  | exact Ê (Ê (m:=Ġ _) (ĝ (Ø (Ø ⟨_,rfl,Ø h⟩)) uF))
  | exact Ê (Ê (m:=Ġ _) (ĝ (Ø ⟨_,rfl,Ø h⟩) uF))
end
end
end HT
namespace L2
noncomputable section
open PySem PySem.Spec PyProof.Rows
variable {r r':V→Option Int→Option Int→Hp→VK→Prop} {us its:List Ã} {xs:List V} {pins:List (Addr×Obj)} {α:Type} {n j t':Nat} {i:Int} {T:String} {v f:Ã}
abbrev TO:=St→Hp→(Option Int→Hp→Prop)→Prop
def PO (X:Cx) (e:Option Expr) (t:TO):Prop:=
 ∀ (pins:List (Addr×Obj)) (s:Ç) (σ:St) (H:Hp) (Q:Option Int→Hp→Prop),Inv X pins σ H s→t σ H Q →
  Û (model X.prog X.w) X.A (evalPart e X.env) (λu s'=>∃ o H',Inv X pins σ H' s'∧IsPart u o∧Q o H') X.xe s
def AZ:TO:=λ_ H Q=>Q Æ H
def Hz (t:TE):TO:=λσ H Q=>t σ H λx H1=>∃ i,x=.int i∧Q (À i) H1
section
variable {X:Cx} {e:Expr} {te:TE} {lo hi:Option Expr} {tl th:TO} {pos p2:Pos}
theorem A0:PO X Æ AZ:=by intro pins s σ H Q I h;rw [evalPart_none];exact Ø ⟨Æ,H,I,.none,h⟩
theorem A1 (h:PE X e te):PO X (À e) (Hz te):=by intro pins s σ H Q I hw;rw [evalPart_some];refine eE (h pins s σ H _ I hw) λu s1 zz=>?_;obtain ⟨x,H1,I1,r1,q1⟩:=zz;obtain ⟨i,rfl,q⟩:=q1;obtain ⟨t,rfl⟩:=r1;exact ⟨À i,H1,I1,.int i t,q⟩
def CM (X:Cx) (r:V→Option Int→Option Int→Hp→VK→Prop):Prop:=
 ∀ (pins:List (Addr×Obj)) (s:Ç) (σ:St) (H:Hp) (x:V) (v vl vu:Ã) (lo hi:Option Int) (sl:Addr) (Q:VK),Inv X pins σ H s→RelV x v→s.heap.IsSliceOf sl vl vu .none→IsPart vl lo→IsPart vu hi→r x lo hi H Q →
  ∃ T id,typeLookup (.type T) "__getitem__"=pure (À (.builtin id))∧s.TypeIs v T∧Û (model X.prog X.w) X.A (getItem v (.ref sl)) (EP X pins σ Q) X.xe s
theorem CM.or (h:CM X r) (h':CM X r'):CM X (λx lo hi H Q=>r x lo hi H Q∨r' x lo hi H Q):=by
 intro pins s σ H x v vl vu lo hi sl Q I rx hs pl pu q;rcases q with q | q
 ·exact h pins s σ H x v vl vu lo hi sl Q I rx hs pl pu q
 ·exact h' pins s σ H x v vl vu lo hi sl Q I rx hs pl pu q
def NT (r:V→Option Int→Option Int→Hp→VK→Prop) (te:TE) (tl th:TO):TE:=λσ H Q=>te σ H λx H1=>tl σ H1 λl H2=>th σ H2 λu H3=>r x l u H3 Q
theorem xQ (hr:CM X r) (he:PE X e te) (hl:PO X lo tl) (hu:PO X hi th):PE X (.Subscript e (.Slice lo hi Æ p2) pos) (NT r te tl th):=by intro pins s σ H Q I h;refine Subscript_ (eE (he pins s σ H _ I h) λv s1 zz=>?_);obtain ⟨x,H1,I1,r1,q1⟩:=zz;refine wpAny_Slice (eE (hl pins s1 σ H1 _ I1 q1) λvl s2 ⟨l,H2,I2,pl,q2⟩=>eE (hu pins s2 σ H2 _ I2 q2) λvu s3 zz=>?_);obtain ⟨u,H3,I3,pu,q3⟩:=zz;rw [evalPart_none];refine Ø ?_;have I4:Inv X pins σ H3 {s3 with heap:=s3.heap.push {cls:=.type "slice",data:=.fields #[vl,vu,.none]}}:=I3.kept (t':=s3.toks) λb ob q=>Î _ q;obtain ⟨T,id,hT,ht,hg⟩:=hr pins {s3 with heap:=s3.heap.push {cls:=.type "slice",data:=.fields #[vl,vu,.none]}} σ H3 x v vl vu l u s3.heap.objs.size Q I4 r1 (Heap.IsSliceOf.new ..) pl pu q3;show Û (model X.prog X.w) X.A (subscriptTail e (.Slice lo hi Æ p2) v (.ref s3.heap.objs.size)) (EP X pins σ Q) X.xe {s3 with heap:=s3.heap.push {cls:=.type "slice",data:=.fields #[vl,vu,.none]}};exact tail_any (ops:=[.ref s3.heap.objs.size,v]) ht hT hg (by with_unfolding_all rfl)
def qQ (xs:List V) (lo hi:Option Int):List V:=(xs.drop (HT.dI xs.length 0 lo)).take (HT.dI xs.length xs.length hi - HT.dI xs.length 0 lo)
theorem kE (xs:List V) (lo hi:Option Int):(qQ xs lo hi).length≤xs.length:=by unfold qQ;rw [Ů,Sx];nofun
def K8 (K:Å):V→Option Int→Option Int→Hp→VK→Prop:=λx lo hi H Q=>∃ a xs,x=.ref a∧kZ K H a xs ∧
 ¬ (HT.dI xs.length 0 lo=0∧HT.dI xs.length xs.length hi=xs.length)∧∀ p,H p=Æ→Q (.ref p) (upd H p (.tup (qQ xs lo hi)))
theorem D9:CM X (K8 X.K):=by
 intro pins s σ H x v vl vu lo hi sl Q I rx hs pl pu h;obtain ⟨a,xs,rfl,hx,hw,q⟩:=h;cases rx;obtain ⟨its,r,ht,hz⟩:=I.tuple hx;have hlen:its.toArray.size=xs.length:=by rw [Õ];exact r.length.symm
 refine ⟨"tuple",_,ġ.lookup,ht.typeIs,?_⟩;refine HT.jA ht hs pl pu (by rw [hlen];exact hw) ?_ (by rw [hlen];exact hz);rw [hlen];refine ⟨.ref s.heap.objs.size,_,I.laid (t':=s.toks) (o:=.tup (qQ xs lo hi)) (λb ob q=>Î _ q) (Ó _) ?_,rfl,q _ (I.hok.fresh (Ó _))⟩;exact ⟨Ć (kE xs lo hi) hz,_,(r.drop (HT.dI xs.length 0 lo)).take (HT.dI xs.length xs.length hi - HT.dI xs.length 0 lo),SY _ _⟩
def HA (K:Å):R2:=λx y H Q=>∃ a b xs ys,x=.ref a∧y=.ref b∧kZ K H a xs∧kZ K H b ys∧xs≠[]∧xs.length+ys.length≤Ä ∧
 (ys=[]→Q (.ref a) H)∧(ys≠[]→∀ p,H p=Æ→Q (.ref p) (upd H p (.tup (xs++ys))))
theorem Vals.pB (r:Vals xs us):us=[]↔xs=[]:=by
 cases r with
 | nil=>simp
 | cons _ _=>simp
theorem A2:gB X (binaryOp .Add) (HA X.K):=by intro pins s σ H x y v u Q I rx ry h;obtain ⟨a,b,xs,ys,rfl,rfl,ha,hb,hx,hz,q1,q2⟩:=h;cases rx;cases ry;obtain ⟨its,r1,p1,_⟩:=I.tuple ha;obtain ⟨its2,r2,p2,_⟩:=I.tuple hb;refine HT.AY p1 p2 (λz=>hx (r1.pB.mp z)) (λz=>⟨.ref a,H,I,rfl,q1 (r2.pB.mp z)⟩) (λz=>?_) (by rw [← r1.length,← r2.length];exact hz);refine ⟨.ref s.heap.objs.size,_,I.laid (t':=s.toks) (o:=.tup (xs++ys)) (λb ob q=>Î _ q) (Ó _) ?_,rfl,q2 (λw=>z (r2.pB.mpr w)) _ (I.hok.fresh (Ó _))⟩;exact ⟨by rw [ü];exact hz,_,r1.append r2,SY _ _⟩
end
def CN (n:Nat) (i:Int):Option Nat:=if 0≤i then (if i<n then À i.toNat else Æ) else if -(n:Int)≤i then À (i+n).toNat else Æ
def cS {α:Type} (xs:List α) (i:Int):Option α:=(CN xs.length i).bind λj=>xs[j]?
theorem A3 (h:CN n i=À j):seqIndex? i n=À j∧j<n∧-(n:Int)≤i∧i<n:=by
 unfold CN at h;by_cases h0:0≤i
 ·rw [if_pos h0] at h;by_cases h1:i<n
  ·rw [if_pos h1] at h;have e:i.toNat=j:=ą h;exact ⟨by rw [seqIndex_of h0 h1,e],by nofun,by nofun,h1⟩
  ·rw [if_neg h1] at h;cases h
 ·rw [if_neg h0] at h;by_cases h1:-(n:Int)≤i
  ·rw [if_pos h1] at h;have e:(i+n).toNat=j:=ą h;exact ⟨by rw [seqIndex_neg (by nofun) h1,e],by nofun,h1,by nofun⟩
  ·rw [if_neg h1] at h;cases h
theorem pC {α:Type} {xs:List α} {v:α} (h:cS xs i=À v):∃ j,seqIndex? i xs.length=À j∧xs[j]?=À v∧j<xs.length∧-(xs.length:Int)≤i∧i<xs.length:=by
 unfold cS at h;cases e:CN xs.length i with
 | none=>rw [e] at h;cases h
 | some j=>rw [e] at h;obtain ⟨h1,h2,h3,h4⟩:=A3 e;exact ⟨j,h1,h,h2,h3,h4⟩
theorem fC {α:Type} {xs:List α} {v:α} (h:xs[j]?=À v):cS xs (j:Int)=À v:=by
 have hj:j<xs.length:=(É.mp h).1;have e:CN xs.length (j:Int)=À j:=by unfold CN;rw [if_pos (by nofun),if_pos (by nofun)];simp
 unfold cS;rw [e];exact h
def lg (b:Expr):Prop:=∀ o i,subscripted b Â o i=operate [o,i] (getItem o i)
def AB (X:Cx) (r:R2):Prop:=
 ∀ (value slice:Expr) (pins:List (Addr×Obj)) (s:Ç) (σ:St) (H:Hp) (x y:V) (v u:Ã) (Q:VK),Inv X pins σ H s→RelV x v→RelV y u→r x y H Q →
  subscripted slice Â v u=operate [v,u] (getItem v u)→Û (model X.prog X.w) X.A (subscriptTail value slice v u) (EP X pins σ Q) X.xe s
def xR (X:Cx) (id:String) (r:V→List V→Hp→VK→Prop):Prop:=
 ∀ (pins:List (Addr×Obj)) (s:Ç) (σ:St) (H:Hp) (x:V) (xs:List V) (v:Ã) (us:List Ã) (Q:VK),Inv X pins σ H s→RelV x v→Vals xs us→r x xs H Q →
  Û (model X.prog X.w) X.A (call (.builtin id) (v::us)) (EP X pins σ Q) X.xe s
section
variable {X:Cx} {a b:Expr} {ta tb:TE} {pos:Pos}
theorem AB.or {r r':R2} (h:AB X r) (h':AB X r'):AB X (λx y H Q=>r x y H Q∨r' x y H Q):=by
 intro value slice pins s σ H x y v u Q I rx ry q hs;rcases q with q | q
 ·exact h value slice pins s σ H x y v u Q I rx ry q hs
 ·exact h' value slice pins s σ H x y v u Q I rx ry q hs
theorem xR.or {id:String} {r r':V→List V→Hp→VK→Prop} (h:xR X id r) (h':xR X id r'):xR X id (λx xs H Q=>r x xs H Q∨r' x xs H Q):=by
 intro pins s σ H x xs v us Q I rx rs q;rcases q with q | q
 ·exact h pins s σ H x xs v us Q I rx rs q
 ·exact h' pins s σ H x xs v us Q I rx rs q
theorem HB {r:R2} (hr:AB X r) (ha:PE X a ta) (hb:PE X b tb) (hs:lg b):PE X (.Subscript a b pos) (Hi r ta tb):=by intro pins s σ H Q I h;exact Subscript_ (DT ha hb I h λv u s2 x y H2 I2 rx ry q=>hr a b pins s2 σ H2 x y v u Q I2 rx ry q (hs _ _))
def K9 (K:Å):R2:=λx y H Q=>∃ p xs i v,x=.ref p∧y=.int i∧kD K H p xs∧cS xs i=À v∧Q v H
def La (K:Å):R2:=λx y H Q=>∃ p xs i v,x=.ref p∧y=.int i∧kZ K H p xs∧cS xs i=À v∧Q v H
def Lb:R2:=λx y H Q=>∃ z i c,x=.str z∧y=.int i∧z.length≤Ä∧cS z.cps.toList i=À c∧Q (.str ⟨#[c]⟩) H
theorem A4:AB X (K9 X.K):=by
 intro value slice pins s σ H x y v u Q I rx ry h hs;obtain ⟨p,xs,i,z,rfl,rfl,hq,he,q⟩:=h;cases rx;obtain ⟨t,rfl⟩:=ry;obtain ⟨its,r,pl,hz⟩:=I.list hq;obtain ⟨j,h1,h2,h3,h4,h5⟩:=pC he;obtain ⟨w,ew,rw'⟩:=r.get h2;have hl:=r.length;have hn:=jZ;have fin:EP X pins σ Q w s:=⟨z,H,I,rw',q⟩;by_cases h0:0≤i
 ·have hj:i.toNat=j:=by rw [seqIndex_of h0 h5] at h1;exact ą h1
  exact item_listR pl.isList h0 (by nofun) (by rw [hj];simpa using ew) fin hs
 ·have hj:(i+(its.toArray.size:Int)).toNat=j:=by rw [seqIndex_neg (by nofun) h4] at h1;rw [Õ,← hl];exact ą h1
  exact subscriptTail_builtinR (x:=w) pl.isList.typeIs slot_list_getitem.lookup
   (wpAny_getItem_list_neg (Q:=λr s'=>r=w∧EP X pins σ Q r s') pl.isList (by nofun) (by rw [Õ]<;>nofun) (by nofun) (by rw [hj];simpa using ew) ⟨rfl,fin⟩) hs
theorem Ea:AB X (La X.K):=by
 intro value slice pins s σ H x y v u Q I rx ry h hs;obtain ⟨p,xs,i,z,rfl,rfl,hq,he,q⟩:=h;cases rx;obtain ⟨t,rfl⟩:=ry;obtain ⟨its,r,pl,hz⟩:=I.tuple hq;obtain ⟨j,h1,h2,h3,h4,h5⟩:=pC he;obtain ⟨w,ew,rw'⟩:=r.get h2;have hl:=r.length;have hn:=jZ;have fin:EP X pins σ Q w s:=⟨z,H,I,rw',q⟩
 exact subscriptTail_builtinR (x:=w) pl.typeIs slot_tuple_getitem.lookup
  (getItem_tuple (j:=j) (Q:=λr s'=>r=w∧EP X pins σ Q r s') pl (by nofun) (by nofun) (by rw [Õ,← hl];exact h1) (by simpa using ew) ⟨rfl,fin⟩) hs
theorem Eb:AB X Lb:=by
 intro value slice pins s σ H x y v u Q I rx ry h hs;obtain ⟨z,i,c,rfl,rfl,hz,he,q⟩:=h;obtain ⟨t,rfl⟩:=rx;obtain ⟨t',rfl⟩:=ry;obtain ⟨j,h1,h2,h3,h4,h5⟩:=pC he;have hl:z.cps.toList.length=z.length:=by simp [SR]
 rw [hl] at h1 h4 h5;have hn:=jZ;exact tail_any (typeIs_str s z t) slot_str_getitem.lookup (getItem_str (c:=c) (by have e1:decide (i < -(2^63:Int))=Â:=decide_eq_false (by nofun);have e2:decide (i ≥ 2^63)=Â:=decide_eq_false (by nofun);rw [e1,e2,ū]) (by rw [h1];simpa using h2) ⟨.str ⟨#[c]⟩,H,I.tok _,⟨_,rfl⟩,q⟩) hs
theorem pD (lo hi:Option Int) (n:Nat):(sliceBounds lo hi Æ n).1=((HT.dI n 0 lo:Nat):Int)∧(sliceBounds lo hi Æ n).2.1=((HT.dI n n hi:Nat):Int)∧(sliceBounds lo hi Æ n).2.2=1:=by
 refine ⟨?_,?_,rfl⟩
 ·cases lo with
  | none=>simp [sliceBounds,HT.dI]
  | some i=>
   simp only [sliceBounds,HT.dI,Option.getD_none,show (1:Int) > 0 by decide,if_true];by_cases h:i<0
   ·simp only [h,if_true]<;>nofun
   ·simp only [h,if_false]<;>nofun
 ·cases hi with
  | none=>simp [sliceBounds,HT.dI]
  | some i=>
   simp only [sliceBounds,HT.dI,Option.getD_none,show (1:Int) > 0 by decide,if_true];by_cases h:i<0
   ·simp only [h,if_true]<;>nofun
   ·simp only [h,if_false]<;>nofun
theorem nE (its:List Ã) (lo hi:Option Int):slicePick its.toArray lo hi Æ=((its.drop (HT.dI its.length 0 lo)).take (HT.dI its.length its.length hi - HT.dI its.length 0 lo)).toArray:=by obtain ⟨h1,h2,h3⟩:=pD lo hi its.toArray.size;unfold slicePick;rw [h1,h2,h3];simp only [sliceRange_one,pick_run,Õ]<;>rfl
def Lc (K:Å):V→Option Int→Option Int→Hp→VK→Prop:=λx lo hi H Q=>∃ a xs,x=.ref a∧kD K H a xs∧∀ p,H p=Æ→Q (.ref p) (upd H p (.lst (qQ xs lo hi)))
theorem A5:CM X (Lc X.K):=by intro pins s σ H x v vl vu lo hi sl Q I rx hs pl pu h;obtain ⟨a,xs,rfl,hx,q⟩:=h;cases rx;obtain ⟨its,r,ht,hz⟩:=I.list hx;have hlen:=r.length;refine ⟨"list",_,slot_list_getitem.lookup,ht.isList.typeIs,?_⟩;refine wpAny_getItem_list_slice ht.isList hs pl pu .none (by simp) ?_ (by rw [Õ]<;>nofun);rw [nE,← hlen];refine ⟨.ref s.heap.objs.size,_,I.laid (t':=s.toks) (o:=.lst (qQ xs lo hi)) (λb ob q=>Î _ q) (Ó _) ?_,rfl,q _ (I.hok.fresh (Ó _))⟩;exact ⟨Ć (kE xs lo hi) hz,_,0,(r.drop (HT.dI xs.length 0 lo)).take (HT.dI xs.length xs.length hi - HT.dI xs.length 0 lo),ç _ rfl⟩
theorem jB:cX X (.builtin "len") (λxs H Q=>∃ p ys,xs=[.ref p]∧(kD X.K H p ys∨kZ X.K H p ys)∧Q (.int ys.length) H):=by
 intro pins s σ H xs us Q I r h;obtain ⟨p,ys,rfl,hq,q⟩:=h;obtain ⟨u,rfl,rx⟩:=vals1 r;cases rx;have hn:=jZ;rcases hq with hq | hq
 ·obtain ⟨its,r',pl,hz⟩:=I.list hq;have hlen:=r'.length;exact Calls.call_len_list pl.isList (by simp only [Õ]<;>nofun) ⟨.int ys.length,H,I.tok _,⟨s.toks+1,by rw [Õ,hlen]⟩,q⟩
 ·obtain ⟨its,r',pl,hz⟩:=I.tuple hq;have hlen:=r'.length;exact len_tuple pl (by simp only [Õ]<;>nofun) ⟨.int ys.length,H,I.tok _,⟨s.toks+1,by rw [Õ,hlen]⟩,q⟩
theorem pF:cX X (.builtin "len") (λxs H Q=>∃ z,xs=[.str z]∧z.length≤Ä∧Q (.int z.length) H):=by intro pins s σ H xs us Q I r h;obtain ⟨z,rfl,hz,q⟩:=h;obtain ⟨u,rfl,t,rfl⟩:=vals1 r;have hn:=jZ;exact len_str (by nofun) ⟨.int z.length,H,I.tok _,⟨_,rfl⟩,q⟩
theorem cX.or {r r':List V→Hp→VK→Prop} (h:cX X f r) (h':cX X f r'):cX X f (λxs H Q=>r xs H Q∨r' xs H Q):=by
 intro pins s σ H xs us Q I rs q;rcases q with q | q
 ·exact h pins s σ H xs us Q I rs q
 ·exact h' pins s σ H xs us Q I rs q
theorem jd:cX X (.type "tuple") (λxs H Q=>∃ p ys,xs=[.ref p]∧((kD X.K H p ys∧∀ l,H l=Æ→Q (.ref l) (upd H l (.tup ys)))∨(kZ X.K H p ys∧Q (.ref p) H))):=by
 intro pins s σ H xs us Q I r h;obtain ⟨p,ys,rfl,h⟩:=h;obtain ⟨u,rfl,rx⟩:=vals1 r;cases rx;rcases h with ⟨hq,q⟩ | ⟨hq,q⟩
 ·obtain ⟨its,r',pl,hz⟩:=I.list hq;have hlen:=r'.length;refine call_tuple_list pl.isList (λh' kp=>?_) (by simp only [Õ]<;>nofun);have I1:Inv X pins σ H {s with heap:=h'}:=I.kept (t':=s.toks) kp
  have I2:Inv X pins σ (upd H h'.objs.size (.tup ys)) {s with heap:=h'.push {cls:=.type "tuple",data:=.seq its.toArray}}:=
   I1.laid (t':=s.toks) (λb o e=>Î _ e) (Ó _) (show ef X.prog X.w _ _ _ (.tup ys) from ⟨hz,its,r',SY _ _⟩)
  exact ⟨.ref h'.objs.size,_,I2,rfl,q _ (I1.hok.fresh (Ó _))⟩
 ·obtain ⟨its,r',pl,hz⟩:=I.tuple hq;exact call_tuple_same pl ⟨.ref p,H,I,rfl,q⟩
def J1 (K:Å) (T:String) (x:V) (H:Hp):Prop:=match x with
 | .str _=>T="str"
 | .int _=>T="int"
 | .ref p=>(T="list"∧∃ xs,kD K H p xs)∨(T="tuple"∧∃ o,K.lookup p=À o∧o.cls=.type "tuple"∧o.dict=Æ) ∨
   (T="dict"∧((∃ kvs,H p=À (.dK kvs))∨∃ kvs,H p=À (.dT kvs)))∨(T="set"∧∃ S n,H p=À (.set S n))
 | _=>False
theorem tB {σ:St} {H:Hp} {s:Ç} {x:V} (I:Inv X pins σ H s) (r:RelV x v) (ty:J1 X.K T x H) :
  s.TypeIs v T∧∀ a,v=.ref a→∃ ob,s.heap.get? a=À ob∧ob.dict=Æ:=by
 cases x with
 | str z=>obtain ⟨t,rfl⟩:=r;cases (show T="str" from ty);exact ⟨typeIs_str s z t,λ_ e=>nomatch e⟩
 | int i=>obtain ⟨t,rfl⟩:=r;cases (show T="int" from ty);exact ⟨typeIs_int s i t,λ_ e=>nomatch e⟩
 | ref p=>
  cases r;rcases ty with ⟨rfl,xs,hq⟩ | ⟨rfl,o,hk,hc,hd⟩ | ⟨rfl,hk⟩ | ⟨rfl,S,n,hk⟩
  ·obtain ⟨its,_,pl,_⟩:=I.list hq;refine ⟨pl.isList.typeIs,λa e=>?_⟩;cases e;obtain ⟨o,n,e,c,hd,_⟩:=pl;exact ⟨o,e,hd⟩
  ·refine ⟨⟨o,I.nD p o hk,hc⟩,λa e=>?_⟩;cases e;exact ⟨o,I.nD _ o hk,hd⟩
  ·have z:∃ o,s.heap.get? p=À o∧o.ExactDict:=by
    rcases hk with ⟨kvs,hk⟩ | ⟨kvs,hk⟩
    ·obtain ⟨_,_,_,_,o,_,_,e,ex,_⟩:=I.hok p _ hk;exact ⟨o,e,ex⟩
    ·obtain ⟨_,_,_,_,o,_,_,e,ex,_⟩:=I.hok p _ hk;exact ⟨o,e,ex⟩
   obtain ⟨o,e,ex⟩:=z;refine ⟨⟨o,e,ex.1⟩,λa e2=>?_⟩;cases e2;exact ⟨o,e,ex.2.1⟩
  ·obtain ⟨o,_,_,_,e,ex,_⟩:=I.hok p _ hk;refine ⟨⟨o,e,ex.1⟩,λa e2=>?_⟩;cases e2;exact ⟨o,e,ex.2.1⟩
 | _=>exact Ĉ ty
def Ld (K:Å) (T:String) (r:V→List V→Hp→VK→Prop) (to:TE):TE:=λσ H Q=>to σ H λx H1=>J1 K T x H1∧r x [] H1 Q
def NU (K:Å) (T:String) (r:V→List V→Hp→VK→Prop) (to:TE) (t:TA):TE:=λσ H Q=>to σ H λx H1=>J1 K T x H1∧t σ H1 λxs H2=>r x xs H2 Q
variable {o e:Expr} {es:List Expr} {to:TE} {t:TA} {name:Str} {apos cpos:Pos} {T id:String} {r:V→List V→Hp→VK→Prop}
theorem Ec (pa:PlainAttrs T) (slot:Slot T name id) (hty:typeOf (.builtin id)=pure (.type "method_descriptor")) (hm:xR X id r) (ho:PE X o to)
  (hbase:attributeBase o name X.env (eval o X.env)=eval o X.env:=by rfl) (hline:(apos.endLine==cpos.line)=Á:=by rfl):PE X (.Call (.Attribute o name apos) [] [] cpos) (Ld X.K T r to):=by
 intro pins s σ H Q I h;refine wpAny_Call_method0_late hbase hline (eE (ho pins s σ H _ I h) λv s1 zz=>?_);obtain ⟨x,H1,I1,r1,ty,q1⟩:=zz;obtain ⟨h1,h2⟩:=tB I1 r1 ty;exact ⟨T,id,pa,slot,hty,h1,h2,ħ rfl (PySem.evalArgs_none (hm pins s1 σ H1 x [] v [] Q I1 r1 .nil q1))⟩
theorem HC (pa:PlainAttrs T) (slot:Slot T name id) (hty:typeOf (.builtin id)=pure (.type "method_descriptor")) (hm:xR X id r) (ho:PE X o to) (ha:PA X (e::es) t)
  (hbase:attributeBase o name X.env (eval o X.env)=eval o X.env:=by rfl)
  (hfew:((backTo cpos (Ô (e::es) X.env)).all (λx=>!x.1)&&(backToKw cpos (keywordEach [] X.env)).all (λx=>x.1.isSome)
   && decide ((e::es).length+([]:List Keyword).length+(if ([]:List Keyword).isEmpty then 0 else 1)<30))=Á:=by rfl)
  (hline:(apos.endLine==cpos.line)=Á:=by rfl) (hs:Ô (e::es) X.env=(Â,eval e X.env)::Ô es X.env:=by rfl) (hplain:(backTo cpos (Ô es X.env)).any (·.1)=Â:=by rfl) :
  PE X (.Call (.Attribute o name apos) (e::es) [] cpos) (NU X.K T r to t):=by
 intro pins s σ H Q I h;refine ņ hbase hfew hline rfl (eE (ho pins s σ H _ I h) λv s1 zz=>?_);obtain ⟨x,H1,I1,r1,ty,q1⟩:=zz;obtain ⟨h1,h2⟩:=tB I1 r1 ty;refine ⟨T,id,pa,slot,hty,h1,h2,?_⟩;have hA:=ha cpos pins s1 σ H1 _ I1 q1;rw [hs] at hA ⊢;refine ħ (by show (Â||(backTo cpos (Ô es X.env)).any (·.1))=Â;rw [hplain]<;>rfl) (İ ?_);exact eE hA λus s2 zz=>by obtain ⟨vs,H2,I2,r2,q2⟩:=zz;exact hm pins s2 σ H2 x vs v us Q I2 r1 r2 q2
end
def MQ (X:Cx) (id:String) (r:V→List V→Hp→VK→Prop):Prop:=
 ∀ (pins:List (Addr×Obj)) (s:Ç) (σ:St) (H:Hp) (x:V) (xs:List V) (v:Ã) (us:List Ã) (Q:VK),Inv X pins σ H s→RelV x v→Vals xs us→r x xs H Q →
  Û (model X.prog X.w) X.A (call (.builtin id) (v::us)) (EP X pins σ Q) X.xe s
theorem Vals.one:∀ {x:V} {us:List Ã},Vals [x] us→∃ u,us=[u]∧RelV x u
 | _,_,.cons r .nil=>⟨_,rfl,r⟩
theorem Vals.zero:∀ {us:List Ã},Vals [] us→us=[]
 | _,.nil=>rfl
theorem Vals.dropLast (h:Vals xs us):Vals xs.dropLast us.dropLast:=by
 induction h with
 | nil=>exact .nil
 | cons r t ih=>
  cases t with
  | nil=>exact .nil
  | cons q t'=>exact .cons r ih
theorem Vals.eraseIdx:∀ {xs:List V} {us:List Ã} (i:Nat),Vals xs us→Vals (xs.eraseIdx i) (us.eraseIdx i)
 | _,_,_,.nil=>.nil
 | _,_,0,.cons _ t=>t
 | _,_,i+1,.cons r t=>.cons r (Vals.eraseIdx i t)
theorem Vals.reverse (h:Vals xs us):Vals xs.reverse us.reverse:=by
 induction h with
 | nil=>exact .nil
 | cons r t ih=>rw [Ğ,Ğ];exact Vals.append ih (.cons r .nil)
theorem Vals.rep (h:Vals xs us):∀ k:Nat,Vals (Ì k xs).flatten (Ì k us).flatten
 | 0=>.nil
 | k+1=>by rw [ă,ă,ğ,ğ];exact Vals.append h (Vals.rep h k)
theorem tD (l:List α):l.eraseIdx (l.length - 1)=l.dropLast:=by
 induction l with
 | nil=>rfl
 | cons a r ih=>
  cases r with
  | nil=>rfl
  | cons b r=>
   have e:(a::b::r).length - 1=((b::r).length - 1)+1:=by have h1:(a::b::r).length=r.length+2:=rfl;have h2:(b::r).length=r.length+1:=rfl;nofun
   rw [e,ů,ih]
   all_goals rfl
theorem foldl_rep (its:List Ã):∀ (k:Nat) (acc:List Ã),
  R8 (λx1 x2=>x1++x2) acc.toArray (Ì k its.toArray)=(acc++(Ì k its).flatten).toArray
 | 0,acc=>by simp
 | k+1,acc=>by
  have e:acc.toArray++its.toArray=(acc++its).toArray:=by simp
  have e2:(acc++its)++(Ì k its).flatten=acc++(Ì (k+1) its).flatten:=by rw [ă,ğ,Ü]
  rw [← e2,← foldl_rep its k (acc++its),← e,ă,SJ]
section
variable {X:Cx} {pins:List (Addr×Obj)} {σ:St} {H:Hp} {s:Ç} {l b:Addr} {xs ys zs:List V}
theorem Inv.HE {its its':List Ã} {n:Nat} {f:Array Ã→Array Ã} {t':Nat} (I:Inv X pins σ H s) (hH:H l=À (.lst xs))
  (e:s.heap.get? l=À {cls:=.type "list",data:=.seq its.toArray n}) (hf:f its.toArray=its'.toArray) (hv:Vals ys its') (hz:ys.length≤Ä) (ht:0<t':=by first | exact ð _ | exact (Inv.os (by assumption)).2 | assumption | nofun) :
  Inv X pins σ (upd H l (.lst ys)) {s with heap:=s.heap.update l (Obj.mapSeq f),toks:=t'}:=by
 have q:=PySem.IsL.update e f;rw [hf] at q;refine I.write (x:=l) (e:=l) (by rw [hH];exact trivial) (.inl rfl) (λb' u hb hu=>(Ď s.heap (Obj.mapSeq f) (Ě hb)).trans hu) ⟨_,q⟩ ?_;exact ⟨hz,its',_,hv,q⟩
theorem Inv.HF (I:Inv X pins σ H s) (hv:Vals ys its) (hz:ys.length≤Ä) (ht:0<t':=by first | exact ð _ | exact (Inv.os (by assumption)).2 | assumption | nofun) :
  Inv X pins σ (upd H s.heap.objs.size (.lst ys)) {s with heap:=s.heap.push {cls:=.type "list",data:=.seq its.toArray},toks:=t'}:=
 I.laid (λ_ _ q=>Î _ q) (Ó _) ⟨hz,its,0,hv,ç _ rfl⟩
theorem Inv.fresh (I:Inv X pins σ H s):H s.heap.objs.size=Æ:=I.hok.fresh (Ó _)
theorem Inv.Ed (I:Inv X pins σ H s) (hH:H l=À (.lst xs)):xs.length≤Ä∧∃ (its:List Ã) (n:Nat),Vals xs its∧xs.length=its.length∧s.heap.get? l=À {cls:=.type "list",data:=.seq its.toArray n}:=by obtain ⟨z,its,n,r,e⟩:=I.hok l _ hH;exact ⟨z,its,n,r,r.length,e⟩
theorem xS (h:n≤Ä):ĺ n=Â:=by unfold ĺ;exact decide_eq_false (by nofun)
end
section
variable {X:Cx}
def A6:V→List V→Hp→VK→Prop:=λx vs H Q=>∃ l xs y,x=.ref l∧vs=[y]∧H l=À (.lst xs)∧xs.length<Ä∧Q .dR (upd H l (.lst (xs++[y])))
theorem n9:MQ X "list.append" A6:=by intro pins s σ H x vs v us Q I rx rv h;obtain ⟨l,xs,y,rfl,rfl,hH,hz,q⟩:=h;cases rx;obtain ⟨u,rfl,ru⟩:=rv.one;obtain ⟨z,its,n,r,hl,e⟩:=I.Ed hH;refine call_meets F.slot_list_append ⟨_,e,rfl⟩ F.entry_list_append (F.args_list_append_2 _ _) (PySem.list_append l its.toArray n u (by rw [Õ];nofun)) ⟨e,?_⟩;refine ⟨.dR,_,I.HE (its':=its++[u]) hH e (by simp) (r.append (.cons ru .nil)) ?_,rfl,q⟩;rw [ü,List.length_singleton];nofun
def Le:V→List V→Hp→VK→Prop:=λx vs H Q=>∃ l xs y,x=.ref l∧vs=[]∧H l=À (.lst xs)∧xs[xs.length - 1]?=À y∧Q y (upd H l (.lst xs.dropLast))
theorem Ef:MQ X "list.pop" Le:=by
 intro pins s σ H x vs v us Q I rx rv h;obtain ⟨l,xs,y,rfl,rfl,hH,hy,q⟩:=h;cases rx;have Lf:=rv.zero;subst Lf;obtain ⟨z,its,n,r,hl,e⟩:=I.Ed hH;obtain ⟨u,hu,ru⟩:=r.get hy;have hy':its.toArray[its.toArray.size - 1]?=À u:=by show its.toArray[its.length - 1]?=À u;rw [← Array.getElem?_toList,← hl];exact hu
 refine call_meets F.slot_list_pop ⟨_,e,rfl⟩ F.entry_list_pop (F.args_list_pop_1 _) (MeetsSeq.list_pop_last l its.toArray n u hy' (by rw [Õ];nofun)) ⟨e,?_⟩;refine ⟨y,_,I.HE (its':=its.dropLast) hH e ?_ r.dropLast ?_,ru,q⟩
 ·show its.toArray.eraseIdxIfInBounds (its.toArray.size - 1)=its.dropLast.toArray;rw [Õ,ŉ,tD]
 ·rw [List.length_dropLast];nofun
def Lg:R2:=λx y H Q=>∃ l k xs,x=.ref l∧y=.int k∧H l=À (.lst xs)∧-(2^63)≤k∧k<2^63∧xs.length*k.toNat≤Ä ∧
 ∀ p,H p=Æ→Q (.ref p) (upd H p (.lst (Ì k.toNat xs).flatten))
theorem len_rep (xs:List α) (k:Nat):(Ì k xs).flatten.length=k*xs.length:=by
 induction k with
 | zero=>simp
 | succ k ih=>rw [ă,ğ,ü,ih,Nat.succ_mul,Nat.add_comm]
theorem Eg:gB X (binaryOp .Mult) Lg:=by
 intro pins s σ H x y v u Q I rx ry h;obtain ⟨l,k,xs,rfl,rfl,hH,h1,h2,hz,q⟩:=h;cases rx;obtain ⟨t,rfl⟩:=ry;obtain ⟨z,its,n,r,hl,e⟩:=I.Ed hH;have hlen:its.toArray.size*k.toNat≤Ä:=by rw [Õ,← hl];exact hz
 have hcap:¬ its.toArray.size*k.toNat > (2^63 - 1) / 8:=by
  have:(Ä:Nat)≤(2^63 - 1) / 8:=by decide
  nofun
 have hfit:¬ (!Builtin.List.listFitsIndex k)=Á:=by rw [fitsIndex_both h1 h2];exact Ċ
 have HG:¬ ĺ (its.toArray.size*k.toNat)=Á:=by rw [xS hlen];exact Ċ
 have hnew:R8 (λx1 x2=>x1++x2) #[] (Ì (if its.toArray.isEmpty=Á then 0 else k.toNat) its.toArray)=(Ì k.toNat its).flatten.toArray:=by
  have f0:∀ m:Nat,R8 (λx1 x2=>x1++x2) #[] (Ì m its.toArray)=(Ì m its).flatten.toArray:=λm=>by have:=foldl_rep its m [];rw [â] at this;exact this
  rw [f0];cases its with
  | nil=>simp
  | cons a r'=>rw [if_neg (by simp)]
 refine wpAny_binaryOp_repeat_ref (T:="list") (U:="int") (by decide) ⟨_,e,rfl⟩ (λs'=>typeIs_int s' k t) noFill_list_mul F.fills_int_mul SK repeat_list F.slot_int_index.lookup
  (call_meets SK (typeIs_int s k t) F.entry_int_rmul (F.args_int_rmul_2 _ _) (int___rmul___int_list k t l its.toArray n)
   ⟨e,rfl,⟨_,e,rfl⟩,call_meets F.slot_list_mul ⟨_,e,rfl⟩ F.entry_list_mul (F.args_list_mul_2 _ _) (AutoListH.list___mul___list_int_3 l its.toArray n k t hfit hcap HG) ⟨e,?_⟩⟩)
 rw [hnew];exact ⟨.ref _,_,I.HF (t':=s.toks) (r.rep k.toNat) (by rw [len_rep,Nat.mul_comm];exact hz),rfl,q _ I.fresh⟩
end
end
end L2
namespace MR
noncomputable section
open PySem PySem.W PySem.Calls PyProof.Rows
theorem kM {P:Params} {h:Heap}:∀ (ns:List Int) (vs:List Ã),WellAll P h vs (ns.map WData.int)→IntsAre vs ns:=by
 intro ns
 induction ns with
 | nil=>intro vs w;rw [Ý] at w;cases w;exact .nil
 | cons n ns ih=>
  intro vs w;rw [Í] at w;cases w with
  | cons a b=>cases a;exact .cons _ _ (ih _ b)
theorem vG {l:OpenLaw} {n:Nat} (hn:l.most=À n) {P:Params} {h:Heap} {args:List WData} {vals:List Ã}
  (hpre:l.row.toRowW.claim.pre args=Á) (hwl:WellAll P h vals args) :
  ∃ a vs ns,vals=[Value.ref a]∧args=[WData.list (ns.map WData.int)]∧h.get? a=À {cls:=.type "list",data:=.seq vs.toArray}∧IntsAre vs ns∧ns.length≤n:=by
 have hsh:WShape.hasAll [] args [.list .int]=Á:=(pre_splitW hpre).1;have hc:l.pre.holds [] {args:=args}=Á:=(pre_splitW hpre).2;obtain ⟨d,r,rfl,h1,h2⟩:=hasAllW_cons hsh;obtain rfl:=hasAllW_nil h2;obtain ⟨xs,rfl,h3⟩:=hasW_list h1;obtain ⟨ns,rfl⟩:=items_int h3;have hlen:ns.length≤n:=by
  unfold OpenLaw.pre at hc;have h4:(WTm.not (.lt (.lit (.int (n:Int))) (.len (.arg 0)))).holds [] {args:=[.list (ns.map .int)]}=Á:=by have h4:=(holds_andW hc).1;rw [hn] at h4;exact h4
  have h5:=condW_of h4 (w_not (w_lt w_lit (w_len_list (w_arg rfl))));rw [ý] at h5;refine Nat.le_of_not_lt λq=>?_;have q':(n:Int)<((ns.length:Nat):Int):=by nofun
  first
   | (rw [decide_eq_true q'] at h5;exact absurd h5 (by decide))
   | (simp at h5;nofun)
 cases hwl with
 | cons w1 w2=>
  cases w2;cases w1 with
  | list ho hall=>exact ⟨_,_,ns,rfl,rfl,ho,kM ns _ hall,hlen⟩
theorem vH (l:OpenLaw) (args:List WData):l.row.toRowW.claim.post args (.bool Á) args=Á:=
 postW_of (r:=l.row.toRowW) (X:=(Á==Á))
  (show WShape.has [] (.bool Á) .bool=Á by first | rfl | decide | simp [WShape.has,WShape.arms,WShape.armsAll])
  (show (WTm.eq .res (.lit (.bool Á))).value [] {args:=args,res:=À (.bool Á),after:=args}=À (.bool (Á==Á)) from w_eq_bool (w_res rfl) w_lit) rfl
theorem qR {l:OpenLaw} {n:Nat} {q:ó} {loose:List Str} {XP:(Str→Option Ã)→Heap→Prop} {YP:Đ→Heap→Prop} {d:DefRec}
  (hn:l.most=À n) (hdf:d.params.defaults=[])
  (call:∀ (w:Đ) (s₀ s₁:Ç) (mg mb:Str→Option Ã) (fa:Addr) (o:Obj) (pm cd doc:Ã) (a:Addr) (vs:List Ã) (ns:List Int),
   Ground q loose [] XP w s₀ mg mb s₁.heap→YP w s₁.heap →
   s₁.heap.get? fa=À o→o.data=.func (docDef d.name d.params d.body d.scope pm cd doc)→s₁.heap.CodeRec cd d.name→mg d.name=À (.ref fa) →
   s₁.heap.get? a=À {cls:=.type "list",data:=.seq vs.toArray}→IntsAre vs ns→ns.length≤n→s₁.gens=#[] →
   codeAny (model l.prog w) callerA (.call (.ref fa) ⟨[.ref a],[]⟩) (λr s'=>r=.ok (.ret (.bool Á))∧OldK s₁.heap s'.heap∧s'.os=s₁.os∧AllBare s'.gens) s₁) :
  WalkO q loose XP YP l.row.toRowW d [] (λf vs=>SS f vs):=by
 intro w s₀ s₁ mg mb G Y fa o pm cd doc dV kV ho hd hcd hD hmg hg args vals as hpre hlay hrd hwl hlo;obtain rfl:dV=.none:=Dflts.none hD hdf;obtain rfl:kV=.none:=Dflts.noKw hD;obtain ⟨a,vs,ns,rfl,rfl,hobj,hints,hlen⟩:=vG hn hpre hwl;refine enter_call (codeAny_mono (call w s₀ s₁ mg mb fa o pm cd doc a vs ns G Y ho (fd_plain hd) hcd hmg hobj hints hlen hg) λr s' hq=>?_);obtain ⟨rfl,h2,h3,h4⟩:=hq;exact ⟨.inl ⟨.bool Á,.bool Á,[],rfl,λ_=>rfl,.bool Á,vH l _,λ_=>⟨List.Pairwise.nil,λ_ hm=>(nomatch hm)⟩⟩,h2,h3,h4⟩
end
end MR
namespace L2
noncomputable section
open PySem PySem.Spec PyProof.Rows
variable {xs:List (List Key×Addr×Ã)} {H H':Hp} {osl:Array (Option Ã)} {kvs:List (List Key×V)} {qual x:Str} {f:Addr} {u:Option Ã} {od an:Option Addr} {ps:List Str} {fd:FuncData} {P:ó} {w:Đ} {pm oc doc d' ct cdv:Ã}
theorem oh:∀ {vs:List Ã} {ns:List Int},IntsAre vs ns→Vals (ns.map V.int) vs
 | _,_,.nil=>.nil
 | _,_,.cons n t h=>.cons ⟨t,rfl⟩ (oh h)
def A7 (H:Hp):Prop:=∀ b,H b=Æ∨∃ o xs,H b=À (.di o (.lst xs))
theorem xT {P:ó} {w:Đ} {K:Å} {mg mb:Str→Option Ã} {CX:nX} {k:Nat} {fa a:Addr} {fd:FuncData} {x:Str} {sp:Sp} {s₁:Ç} {vs:List Ã} {ns:List Int}
  (KX:K.In s₁.heap) (hns:s₁.heap.Ns mainGlobals mg) (hb:s₁.heap.Ns builtinsNs mb) (J2:∀ x:Str,x≠"__name__"→mb x=bootBuiltins x) (hlim:s₁.heap.NoLimit) (hg:s₁.gens=#[])
  (ha:s₁.heap.get? a=À {cls:=.type "list",data:=.seq vs.toArray}) (hi:IntsAre vs ns) (hl:ns.length≤Ä) (hr:cZ k callerA)
  (F:∀ base:Heap,K.In base→base.Ns mainGlobals mg→jc P w K mg base CX k fa fd [x] sp) (hbind:∀ (s:Ç) (u:Ã),BindsTo s fd ⟨[u],[]⟩ [(x,u)])
  (qP:∀ H:Hp,A7 H→kD K H a (ns.map V.int)→sp [.ref a] H (λv _=>v=.bl Á) λ_ _ _=>False)
  (Lh:∀ H e s',CX [] H s₁ (λ_ _ _=>False) e s'→False) :
  codeAny (model P w) callerA (.call (.ref fa) ⟨[.ref a],[]⟩) (λr s'=>r=.ok (.ret (.bool Á))∧OldK s₁.heap s'.heap∧s'.os=s₁.os∧AllBare s'.gens) s₁:=by
 have rv:=oh hi;have Li:=hi.length
 have core:∀ H:Hp,A7 H→kD K H a (ns.map V.int)→iA P w H s₁.heap→(∀ b,H b≠Æ→b=a)→(H a≠Æ→K.lookup a=Æ) →
   codeAny (model P w) callerA (.call (.ref fa) ⟨[.ref a],[]⟩) (λr s'=>r=.ok (.ret (.bool Á))∧OldK s₁.heap s'.heap∧s'.os=s₁.os∧AllBare s'.gens) s₁:=by
  intro H hO hS hok hA hK;have gg:∀ {b:Addr} {o:Obj},s₁.heap.get? b=À o→H b=Æ→(o7 s₁.heap H).get? b=À o:=λe n=>xB e n;have Hw:∀ {b:Addr} {o:Obj} {es:Array DictEntry} {ep:Nat},s₁.heap.get? b=À o→o.data=.dict es ep→H b=Æ:=λ{b o es ep} e d=>by
   cases q:H b with
   | none=>rfl
   | some u=>have e':b=a:=hA b (by rw [q];simp);subst e';rw [ha] at e;cases e;have d':Data.seq vs.toArray _=Data.dict es ep:=d;cases d'
  have J3:∀ {b:Addr} {m:Str→Option Ã},s₁.heap.Ns b m→(o7 s₁.heap H).Ns b m:=λ{b m} zz=>by obtain ⟨o,es,ep,e,d,r⟩:=zz;exact ⟨o,es,ep,gg e (Hw e d),d,r⟩
  have MT:K.In (o7 s₁.heap H):=λb o e=>gg (KX b o e) (by
   cases q:H b with
   | none=>rfl
   | some u=>have e':b=a:=hA b (by rw [q];simp);subst e';rw [hK (by rw [q];simp)] at e;cases e)
  have hM:Mod K mg (o7 s₁.heap H):=⟨MT,J3 hns,⟨mb,J3 hb,J2⟩,let ⟨mc,h1,h2⟩:=hlim;⟨mc,J3 h1,h2⟩⟩;have e0:lR P w K mg (o7 s₁.heap H) callerA [] s₁ H:=⟨rfl,hM,λb o e=>AJ e,Nat.le_of_eq (vq _ _),trivial,λb hb=>absurd (show b∈([]:List Addr) from hb) (by simp),hok,.of_eq hg⟩;refine codeAny_mono ((F _ MT (J3 hns)).run callerA [] s₁ H ⟨[.ref a],[]⟩ [.ref a] [.ref a] _ _ hr e0 (hbind s₁ (.ref a)) (.cons rfl .nil) (qP H hO hS)) λr s' h=>?_;cases r with
  | error e=>exact (Lh H e s' h).elim
  | ok fl=>
   cases fl with
   | next=>exact Ĉ h
   | brk=>exact Ĉ h
   | cont=>exact Ĉ h
   | ret u=>
    obtain ⟨v,H',os,bare,un,Lj,r',q⟩:=h;have q':v=.bl Á:=q;subst q';obtain rfl:u=Value.bool Á:=r';refine ⟨rfl,OldK.of_keep λb o e=>?_,os.1,bare⟩;cases q:H b with
    | none=>exact un.keep b o e q (by intro z;exact absurd (show b∈([]:List Addr) from z) (by simp)) (by simp)
    | some u=>
     rcases hO b with z | ⟨ob,xs,z⟩
     ·rw [q] at z;cases z
     ·have z2:=un.gK b ob _ z;obtain ⟨e1,_⟩:=hok b _ z;obtain ⟨e2,_⟩:=Lj b _ z2;rw [e] at e1;cases e1;exact e2
 cases hk:K.lookup a with
 | some o=>have e:=KX a o hk;rw [ha] at e;cases e;refine core (λ_=>Æ) (λ_=>.inl rfl) (.inr ⟨_,vs.toArray,_,hk,rfl,rfl,rfl,by rw [Õ,Li];exact hl,by simpa using rv⟩) (λb u z=>by have z':(Æ:Option HO)=À u:=z;cases z') (λb z=>absurd rfl z) λz=>absurd rfl z
 | none=>
  refine core (λb=>if b=a then À (.di {cls:=.type "list",data:=.seq vs.toArray} (.lst (ns.map V.int))) else Æ) (λb=>?_) (.inl (.inr ⟨{cls:=.type "list",data:=.seq vs.toArray},if_pos rfl⟩)) (λb u z=>?_) (λb z=>?_) λ_=>hk
  ·by_cases hb:b=a
   ·exact .inr ⟨_,_,if_pos hb⟩
   ·exact .inl (if_neg hb)
  ·by_cases hb:b=a
   ·have z':=(if_pos hb).symm.trans z;cases z';subst hb;exact ⟨ha,by rw [ý];exact hl,vs,_,rv,ha⟩
   ·have z':=(if_neg hb).symm.trans z;cases z'
  ·by_cases hb:b=a
   ·exact hb
   ·exact absurd (if_neg hb) z
def gQ (s:Stmt):Arguments:=match s with
 | .FunctionDef _ a _ _ _ _ _ _ _ _=>a
 | _=>{posonlyargs:=[],args:=[],vararg:=Æ,kwonlyargs:=[],kw_defaults:=[],kwarg:=Æ,defaults:=[]}
def dS (s:Stmt):List Stmt:=match s with
 | .FunctionDef _ _ b _ _ _ _ _ _ _=>b
 | _=>[]
def aF (s:Stmt):Scope:=match s with
 | .FunctionDef _ _ _ _ _ _ sc _ _ _=>sc
 | _=>{kind:=.function,names:=[],isGenerator:=Â,isCoroutine:=Â}
structure A8 (K:Å) (x qual:Str) (st:Stmt) (f:Addr) (fd:FuncData):Prop where
 ex:∃ (oc:Ã) (od:Option Addr) (kV doc pm:Ã) (an:Option Addr) (cdv ct:Ã) (osl:Array (Option Ã)),
  fd=Ĝ x qual (gQ st) (dS st) (aF st) .none kV doc pm an cdv ct∧K.lookup f=À ⟨oc,od,.func fd,osl⟩∧ń K cdv qual=Á
 kp:ö K (.ref f)=Á
section
variable {P:ó} {w:Đ} {K:Å} {mg:Str→Option Ã} {base:Heap}
theorem A8.binds {st:Stmt} (F:A8 K x qual st f fd)
  (h:∀ (kV doc pm:Ã) (an:Option Addr) (cdv ct:Ã) (us:List Ã),us.length=ps.length→bindArgs (Ĝ x qual (gQ st) (dS st) (aF st) .none kV doc pm an cdv ct) ⟨us,[]⟩=pure (ps.zip us)):Binds K fd ps []:=by
 obtain ⟨oc,od,kV,doc,pm,an,cdv,ct,osl,rfl,lk,hcd⟩:=F.ex;exact .all (h kV doc pm an cdv ct)
theorem Eh {st:Stmt} {kV:Ã} (l:K.lookup f=À ⟨oc,od,.func (Ĝ x qual (gQ st) (dS st) (aF st) .none kV doc pm an cdv ct),osl⟩)
  (c:ń K cdv qual=Á) (k:ö K (.ref f)=Á):A8 K x qual st f (Ĝ x qual (gQ st) (dS st) (aF st) .none kV doc pm an cdv ct):=⟨⟨oc,od,kV,doc,pm,an,cdv,ct,osl,rfl,l,c⟩,k⟩
end
section
variable {X:Cx}
theorem pv (i:Nat) {x:Str} {pos:Pos} (hN:X.N[i]?=À x:=by rfl) (hv:xu X.env.scope x:=by first | exact SV rfl | exact R9 (SV rfl) | exact R9 (R9 rfl)) (hd:(x==("__debug__":Str))=Â:=by decide)
  (hcd:(x==("__classdict__":Str))=Â:=by decide):PE X (.Name x pos) (G4 i):=sR hN hv hd hcd
end
def HH (H H':Hp):Prop:=∀ b o,H b=À o→H' b=À o
theorem HH.free (e:HH H H') {l:Addr} (h:H' l=Option.none):H l=Option.none:=by
 cases q:H l with
 | none=>rfl
 | some o=>rw [e l o q] at h;cases h
section
variable {κ:Type} [DecidableEq κ]
def Ei (kvs:List (κ×V)) (k:κ):Option V:=(kvs.find? λkv=>decide (kv.1=k)).map (·.2)
def putK (kvs:List (κ×V)) (k:κ) (v:V):List (κ×V):=
 if (kvs.any λkv=>decide (kv.1=k))=Á then kvs.map (λkv=>if kv.1=k then (kv.1,v) else kv) else kvs++[(k,v)]
theorem AI.getD {o:Option V} {d:V} (r:AI o u) (rd:RelV d d'):RelV (o.getD d) (u.getD d'):=by
 cases o with
 | none=>cases u with
  | none=>exact rd
  | some _=>exact (show False from r).elim
 | some _=>cases u with
  | none=>exact (show False from r).elim
  | some _=>exact r
end
abbrev KT (H:Hp):List (List Key×V)→List (List Key×Addr×Ã)→Prop:=Paired λp q=>p.1=q.1∧H q.2.1=À (.tup (p.1.map kV))∧RelV p.2 q.2.2
theorem KT.keeps (r:KT H kvs xs) (ht:∀ b ys,H b=À (.tup ys)→H' b=À (.tup ys)):KT H' kvs xs:=
 Paired.DB r λ_ _ z=>⟨z.1,ht _ _ z.2.1,z.2.2⟩
def HJ (H:Hp) (a:Addr) (y:V) (r:Option V):Prop:=
 (∃ kvs k,Rd H a (.dK kvs)∧y=kV k∧r=Ei kvs k)∨∃ kvs k b,Rd H a (.dT kvs)∧y=.ref b∧H b=À (.tup (k.map kV))∧r=Ei kvs k
def Ej (H:Hp) (a:Addr) (y v:V) (H':Hp):Prop:=
 (∃ kvs k,H a=À (.dK kvs)∧y=kV k∧kvs.length<Ä∧H'=upd H a (.dK (putK kvs k v))) ∨
 ∃ kvs k b,H a=À (.dT kvs)∧y=.ref b∧H b=À (.tup (k.map kV))∧kvs.length<Ä∧H'=upd H a (.dT (putK kvs k v))
theorem HJ.k {H:Hp} {a:Addr} {kvs:List (Key×V)} {k:Key} (e:H a=À (.dK kvs)):HJ H a (kV k) (Ei kvs k):=.inl ⟨kvs,k,.inl e,rfl,rfl⟩
theorem Ej.k {H:Hp} {a:Addr} {kvs:List (Key×V)} {k:Key} {v:V} (e:H a=À (.dK kvs)) (hl:kvs.length<Ä):Ej H a (kV k) v (upd H a (.dK (putK kvs k v))):=.inl ⟨kvs,k,e,rfl,hl,rfl⟩
section
variable {X:Cx} {pins:List (Addr×Obj)} {σ:St} {H:Hp} {s:Ç} {a:Addr} {y v:V} {u r:Ã} {o:Option V} {A:Around} {E:Ã→Ç→Prop}
theorem Inv.big (I:Inv X pins σ H s):sysModules<s.heap.objs.size:=by have h:mainGlobals<s.heap.objs.size:=(I.mod.glob.keeps I.bk).lt;exact Nat.lt_trans (by decide) h
end
def Lk (i:Expr):Prop:=∀ ov iv,subscripted i Â ov iv=operate [ov,iv] (getItem ov iv)
def xU (td ty tv:TE):TS:=λD σ H=>tv σ H λv H1=>td σ H1 λx H2=>ty σ H2 λy H3=>∃ a H4,x=.ref a∧Ej H3 a y v H4∧D.nx σ H4
theorem xV (h:Heap) (hb:sysModules<h.objs.size):ef P w H (h.push {cls:=.type "dict",data:=.dict #[]}) h.objs.size (.dK []):=
 ⟨ŀ _,beq_eq_false_iff_ne.mpr (Ě (ã hb)),[],.nil,Heap.DictOf.new h⟩
def Ek:TE:=λ_ H Q=>∀ p,H p=Æ→Q (.ref p) (upd H p (.dK []))
section
variable {X:Cx} {pos:Pos}
theorem xW:PE X (.Dict [] [] pos) Ek:=λpins s σ H Q I h=>
 wpAny_Dict_empty ⟨.ref s.heap.objs.size,_,I.laid (a:=s.heap.objs.size) (o:=.dK []) (t':=s.toks) (λ_ _ q=>Î _ q) (Ó _) (xV s.heap I.big),rfl,h _ (I.hok.fresh (Ó _))⟩
end
structure M1 (X:Cx) (o:Expr) (m:Str) (apos:Pos) (e:Expr) (cpos:Pos):Prop where
 base:attributeBase o m X.env (eval o X.env)=eval o X.env
 few:((backTo cpos (Ô [e] X.env)).all (λx=>!x.1)&&(backToKw cpos (keywordEach [] X.env)).all (λx=>x.1.isSome)
  && decide (([e]:List Expr).length+([]:List Keyword).length+(if ([]:List Keyword).isEmpty then 0 else 1)<30))=Á
 line:(apos.endLine==cpos.line)=Á
 trees:backTo cpos (Ô [e] X.env)=[(Â,eval e X.env)]
structure M2 (X:Cx) (o:Expr) (m:Str) (apos:Pos) (e f:Expr) (cpos:Pos):Prop where
 base:attributeBase o m X.env (eval o X.env)=eval o X.env
 few:((backTo cpos (Ô [e,f] X.env)).all (λx=>!x.1)&&(backToKw cpos (keywordEach [] X.env)).all (λx=>x.1.isSome)
  && decide (([e,f]:List Expr).length+([]:List Keyword).length+(if ([]:List Keyword).isEmpty then 0 else 1)<30))=Á
 line:(apos.endLine==cpos.line)=Á
 trees:backTo cpos (Ô [e,f] X.env)=[(Â,eval e X.env),(Â,eval f X.env)]
end
end L2
set_option genInjectivity true
namespace L3
noncomputable section
open PySem PySem.Spec L2
variable {mg:Str→Option Ã} {K:Å} {ρ fp ρ0 ρ' as:List Addr} {H H0 H':Hp} {pins pn dm:List (Addr×Obj)} {e tg:Expr} {σ σ0:L2.St} {x y qual n0 c name z:Str} {xs vs ys:List V} {E E':Ã→Ç→Prop} {es:List Expr} {Q:Bool→Hp→Prop} {n i nn ep:Nat} {a C p gl bi:Addr} {cl:List (Str×Addr)} {body suite orelse els:List Stmt} {Dd D':Ends} {T:String} {sl:Array (Option Ã)} {XP:(Str→Option Ã)→Heap→Prop} {X:Cx} {P:ó} {s0 s1:Ç} {ks:List Bool} {h h' B base:Heap} {fd:FuncData} {cv u a0 oc fl code cls cdv c0:Ã} {N loose ps:List Str} {w:Đ} {gens:List Comprehension} {sc scope J9:Scope} {q:Str→Option Bool} {gv:Int→Int→V} {A A':Around} {op:CmpOp} {qs:List PyData} {od func:Option Addr} {v:V} {b0 b:Bool} {pos py px spos p2 pc p1 np cpos:Pos} {env env':Env} {YP:Đ→Heap→Prop} {hs:List ExceptHandler} {kwd:List (Str×Expr)} {own:List (Option V)} {oe:Obj} {j:Int} {h0:ExceptHandler} {t':TT} {ws its:Array Ã} {lo hi:Option Expr} {args:List Ã} {outer:List Env} {ns:List Int} {cur:List Nat} {M':Model} {α:Type}
structure lV where
 name:Str
 qual:Str
 params:Arguments
 body:FuncBody
 scope:Scope
 pos:Pos
 names:List Str
def freeNames (sc:Scope):List Str:=((sc.names.filter λq=>q.2==.free).map (·.1)).reverse
def jC (q:Str):List Stmt→Option lV
 | .FunctionDef name params body _ _ _ scope _ _ pos::_=>À ⟨name,q++".<locals>."++name,params,.stmts body,scope,pos,freeNames scope⟩
 | .Assign [_] (.Call _ es _ _) _::r=>match es.getLast? with
  | some (.Lambda params body scope pos)=>À ⟨"<lambda>",q++".<locals>."++"<lambda>",params,.expr body,scope,pos,freeNames scope⟩
  | _=>jC q r
 | .Return (À (.Call _ es _ _)) _::r=>match es.getLast? with
  | some (.Lambda params body scope pos)=>À ⟨"<lambda>",q++".<locals>."++"<lambda>",params,.expr body,scope,pos,freeNames scope⟩
  | _=>jC q r
 | _::r=>jC q r
 | []=>Æ
def xX (K:Å) (mg:Str→Option Ã) (y:Str):Option lV:=match mg y with
 | some (.ref f)=>(match K.lookup f with
  | some ⟨_,_,.func fd,_⟩=>(match fd.body with
   | .stmts b=>jC fd.qualname b
   | _=>Æ)
  | _=>Æ)
 | _=>Æ
inductive D where
 | dR | bl (b:Bool) | int (i:Int) | str (x:Str) | tup (xs:List D) | con (xs:List D) | obj (n:Nat) | fn (x:Str) | lW (cls:Str) (args:List D) | sM (y:Str) (caps:List D)
variable {ds os acc:List D} {d:D} {gO:D→Option (List D)} {g:Int→Int→D} {kvs:List (List Key×D)}
inductive DO where
 | lst (xs:List D)
 | dead
 | dct (kvs:List (Key×D))
 | tab (y:Str)
 | GI (fz:Bool) (kvs:List (List Key×D))
 | J5 (kvs:List (Key×D))
 | ins (c:Str) (fs:List (Str×D))
abbrev DH:=List DO
variable {G:DH}
abbrev DS:=List (Option D)
variable {τ:DS}
inductive XD where
 | mk (cls:Str) (args:List D)
inductive Out (α:Type) where
 | stuck
 | ok (a:α) (G:DH)
 | bw (c:XD) (G:DH)
abbrev M (α:Type):=DH→Out α
variable {m r:DS→M (List D)} {f:D→D→M D} {mo te me:DS→M D} {tt:DS→M Bool} {l:List (Str×(List D→M D))} {ml:DS→M (Option Int)} {mf:List D→M D}
def M.bind {α β:Type} (m:M α) (k:α→M β):M β:=λG=>match m G with
 | .stuck=>.stuck
 | .ok a G'=>k a G'
 | .bw c G'=>.bw c G'
def M.ret {α:Type} (a:α):M α:=λG=>.ok a G
def M.stop {α:Type}:M α:=λ_=>.stuck
def tE (H:Hp) (a:Addr) (xs:List V):Prop:=H a=À (.tup xs)
theorem tE.of (h:H a=À (.tup xs)):tE H a xs:=h
theorem tE.t (h:tE H a xs):kZ K H a xs:=.inl (.inl h)
instance {K:Å} {H:Hp} {a:Addr} {xs:List V}:Coe (tE H a xs) (kZ K H a xs):=⟨tE.t⟩
def GJ (K:Å) (H:Hp) (a:Addr) (xs:List V):Prop:=
 (∃ o,H a=À (.di o (.lst xs))) ∨
  ∃ (o:Obj) (its:Array Ã) (n:Nat),K.lookup a=À o∧o.cls=.type "list"∧o.dict=Æ∧o.data=.seq its n∧its.size≤Ä∧Vals xs its.toList
theorem GJ.seq (h:GJ K H a xs):kD K H a xs:=by
 rcases h with ⟨o,h⟩ | h
 ·exact .inl (.inr ⟨o,h⟩)
 ·exact .inr h
def uG (a:Addr) (cv:Ã):Heap→Prop:=λh=>∃ o vs,h.get? a=À o∧o.cls=cv∧o.data=.fields vs∧o.dict=Æ
abbrev HK (k:lV) (cs:List Addr) (doc pm:Ã) (c:Addr) (ctv:Ã):FuncData:=
 {name:=k.name,qualname:=k.qual,params:=k.params,body:=k.body,scope:=k.scope,globals:=mainGlobals,closure:=k.names.zip cs,defaults:=.none,kwdefaults:=.none,doc,pyModule:=pm,annotations:=Æ,code:=.ref c,closureTuple:=ctv,builtins:=builtinsNs}
abbrev El (k:lV) (cs:List Addr) (doc pm:Ã) (c:Addr) (ctv:Ã):Obj:={cls:=.type "function",data:=.func (HK k cs doc pm c ctv)}
def Em (H:Hp) (a:Addr) (o:Obj):Prop:=H a=À (.di o (.own 0))
def lX (H:Hp) (c:Addr) (qual:Str):Prop:=∃ (oc:Obj) (vs:Array Ã) (t:Tok),Em H c oc∧oc.data=.fields vs∧vs[1]?=À (.str qual t)
def uH (H:Hp) (k:lV) (a:Addr) (cs:List Addr):Prop:=cs.length=k.names.length∧cs.Nodup∧∃ (doc pm ctv:Ã) (c:Addr),Em H a (El k cs doc pm c ctv)∧lX H c k.qual
def jD (H:Hp):List Addr→List V→Prop
 | [],xs=>xs=[]
 | c::cs,xs=>∃ (x:V) (r:List V) (o:Obj) (u:Ã),xs=x::r∧Em H c o∧o.data=.cell (À u)∧RelV x u∧jD H cs r
mutual
def Rep (K:Å) (mg:Str→Option Ã) (ρ:List Addr) (H:Hp):D→V→Prop
 | .dR,v=>v=.dR
 | .bl b,v=>v=.bl b
 | .int i,v=>v=.int i
 | .str x,v=>v=.str x
 | .tup ds,v=>∃ a xs,v=.ref a∧tE H a xs∧aq K mg ρ H ds xs
 | .con ds,v=>∃ a xs,v=.ref a∧GJ K H a xs∧aq K mg ρ H ds xs
 | .obj n,v=>∃ a,v=.ref a∧ρ[n]?=À a
 | .fn x,v=>∃ a,v=.ref a∧mg x=À (.ref a)
 | .lW c _,v=>∃ a cv,v=.ref a∧mg c=À cv∧H a=À (.ext (uG a cv))
 | .sM y ds,v=>∃ k a cs xs,v=.ref a∧xX K mg y=À k∧uH H k a cs∧jD H cs xs∧aq K mg ρ H ds xs
def aq (K:Å) (mg:Str→Option Ã) (ρ:List Addr) (H:Hp):List D→List V→Prop
 | [],vs=>vs=[]
 | d::ds,vs=>∃ v r,vs=v::r∧Rep K mg ρ H d v∧aq K mg ρ H ds r
end
theorem lX.mono {c:Addr} {q:Str} (h:lX H c q) (f:∀ a o u,H a=À (.di o u)→H' a=À (.di o u)):lX H' c q:=by obtain ⟨oc,vs,t,e,r⟩:=h;exact ⟨oc,vs,t,f _ _ _ e,r⟩
theorem uH.mono {k:lV} {cs:List Addr} (h:uH H k a cs) (f:∀ a o u,H a=À (.di o u)→H' a=À (.di o u)):uH H' k a cs:=by obtain ⟨l,n,doc,pm,ctv,c,e,r⟩:=h;exact ⟨l,n,doc,pm,ctv,c,f _ _ _ e,r.mono f⟩
theorem jD.mono (f:∀ a o u,H a=À (.di o u)→H' a=À (.di o u)):∀ {cs:List Addr} {xs:List V},jD H cs xs→jD H' cs xs
 | [],xs,h=>h
 | c::cs,xs,⟨x,r,o,u,e,h1,h2,h3,h4⟩=>⟨x,r,o,u,e,f _ _ _ h1,h2,h3,h4.mono f⟩
structure cK (K:Å) (H H':Hp) (ρ ρ':List Addr):Prop where
 tup:∀ a xs,tE H a xs→tE H' a xs
 di:∀ a o u,H a=À (.di o u)→H' a=À (.di o u)
 pre:∃ r,ρ'=ρ++r
 ext:∀ a φ,H a=À (.ext φ)→H' a=À (.ext φ)
section
variable {K:Å} {mg:Str→Option Ã} {H H' H1 H2:Hp} {ρ ρ' ρ1 ρ2:List Addr}
theorem cK.con (f:cK K H H' ρ ρ') (a:Addr) (xs:List V) (h:GJ K H a xs):GJ K H' a xs:=by
 rcases h with ⟨o,h⟩ | h
 ·exact .inl ⟨o,f.di _ _ _ h⟩
 ·exact .inr h
theorem cK.refl:cK K H H ρ ρ:=⟨λ_ _ h=>h,λ_ _ _ h=>h,⟨[],by simp⟩,λ_ _ h=>h⟩
theorem cK.trans (a:cK K H H1 ρ ρ1) (b:cK K H1 H2 ρ1 ρ2):cK K H H2 ρ ρ2:=by obtain ⟨r1,e1⟩:=a.pre;obtain ⟨r2,e2⟩:=b.pre;exact ⟨λx xs h=>b.tup x xs (a.tup x xs h),λx o u h=>b.di x o u (a.di x o u h),⟨r1++r2,by rw [e2,e1,Ü]⟩,λx φ h=>b.ext x φ (a.ext x φ h)⟩
theorem cK.get (f:cK K H H' ρ ρ') {n:Nat} {a:Addr} (h:ρ[n]?=À a):ρ'[n]?=À a:=by obtain ⟨r,e⟩:=f.pre;rw [e,Ñ (É.mp h).1];exact h
mutual
theorem Rep.mono (f:cK K H H' ρ ρ'):∀ (d:D) (v:V),Rep K mg ρ H d v→Rep K mg ρ' H' d v
 | .dR,v,h=>by unfold Rep at h ⊢;exact h
 | .bl b,v,h=>by unfold Rep at h ⊢;exact h
 | .int i,v,h=>by unfold Rep at h ⊢;exact h
 | .str x,v,h=>by unfold Rep at h ⊢;exact h
 | .tup ds,v,h=>by unfold Rep at h ⊢;obtain ⟨a,xs,e,s,r⟩:=h;exact ⟨a,xs,e,f.tup _ _ s,aq.mono f ds xs r⟩
 | .con ds,v,h=>by unfold Rep at h ⊢;obtain ⟨a,xs,e,s,r⟩:=h;exact ⟨a,xs,e,f.con _ _ s,aq.mono f ds xs r⟩
 | .obj n,v,h=>by unfold Rep at h ⊢;obtain ⟨a,e,r⟩:=h;exact ⟨a,e,f.get r⟩
 | .fn x,v,h=>by unfold Rep at h ⊢;exact h
 | .lW c as,v,h=>by unfold Rep at h ⊢;obtain ⟨a,cv,e,m,r⟩:=h;exact ⟨a,cv,e,m,f.ext _ _ r⟩
 | .sM k ds,v,h=>by unfold Rep at h ⊢;obtain ⟨k,a,cs,xs,e,h0,h1,h2,h3⟩:=h;exact ⟨k,a,cs,xs,e,h0,h1.mono f.di,h2.mono f.di,aq.mono f ds xs h3⟩
theorem aq.mono (f:cK K H H' ρ ρ'):∀ (ds:List D) (vs:List V),aq K mg ρ H ds vs→aq K mg ρ' H' ds vs
 | [],vs,h=>by unfold aq at h ⊢;exact h
 | d::ds,vs,h=>by unfold aq at h ⊢;obtain ⟨v,r,e,h1,h2⟩:=h;exact ⟨v,r,e,Rep.mono f d v h1,aq.mono f ds r h2⟩
end
theorem aq.length:∀ {ds:List D} {vs:List V},aq K mg ρ H ds vs→ds.length=vs.length
 | [],vs,h=>by unfold aq at h;subst h;rfl
 | d::ds,vs,h=>by unfold aq at h;obtain ⟨v,r,rfl,_,h2⟩:=h;simp [aq.length h2]
theorem aq.nil:aq K mg ρ H [] []:=by unfold aq;rfl
theorem aq.cons {d:D} {v:V} {ds:List D} {vs:List V} (h:Rep K mg ρ H d v) (t:aq K mg ρ H ds vs):aq K mg ρ H (d::ds) (v::vs):=by unfold aq;exact ⟨v,vs,rfl,h,t⟩
theorem aq.get:∀ {ds:List D} {vs:List V} {i:Nat} {d:D},aq K mg ρ H ds vs→ds[i]?=À d→∃ v,vs[i]?=À v∧Rep K mg ρ H d v
 | [],vs,i,d,h,e=>by simp at e
 | x::ds,vs,0,d,h,e=>by unfold aq at h;obtain ⟨v,r,rfl,h1,_⟩:=h;simp at e;subst e;exact ⟨v,rfl,h1⟩
 | x::ds,vs,i+1,d,h,e=>by unfold aq at h;obtain ⟨v,r,rfl,_,h2⟩:=h;obtain ⟨u,e1,e2⟩:=aq.get (i:=i) (d:=d) h2 (by simpa using e);exact ⟨u,by simpa using e1,e2⟩
theorem aq.append:∀ {ds es:List D} {vs us:List V},aq K mg ρ H ds vs→aq K mg ρ H es us→aq K mg ρ H (ds++es) (vs++us)
 | [],es,vs,us,h,h'=>by unfold aq at h;subst h;exact h'
 | d::ds,es,vs,us,h,h'=>by unfold aq at h;obtain ⟨v,r,rfl,h1,h2⟩:=h;exact .cons h1 (aq.append h2 h')
theorem aq.take:∀ (n:Nat) {ds:List D} {vs:List V},aq K mg ρ H ds vs→aq K mg ρ H (ds.take n) (vs.take n)
 | 0,_,_,_=>by simpa using aq.nil
 | n+1,[],vs,h=>by unfold aq at h;subst h;simpa using aq.nil
 | n+1,d::ds,vs,h=>by unfold aq at h;obtain ⟨v,r,rfl,h1,h2⟩:=h;exact .cons h1 (aq.take n h2)
theorem aq.drop:∀ (n:Nat) {ds:List D} {vs:List V},aq K mg ρ H ds vs→aq K mg ρ H (ds.drop n) (vs.drop n)
 | 0,_,_,h=>by simpa using h
 | n+1,[],vs,h=>by unfold aq at h;subst h;simpa using aq.nil
 | n+1,d::ds,vs,h=>by unfold aq at h;obtain ⟨v,r,rfl,h1,h2⟩:=h;simpa using aq.drop n h2
theorem aq.ints:∀ (ns:List Int),aq K mg ρ H (ns.map D.int) (ns.map V.int)
 | []=>.nil
 | n::ns=>.cons (by unfold Rep;rfl) (aq.ints ns)
end
def A9 (K:Å) (mg:Str→Option Ã) (ρ:List Addr) (H:Hp) (a:Addr):DO→Prop
 | .lst ds=>∃ xs,H a=À (.lst xs)∧aq K mg ρ H ds xs
 | .dead=>∃ o,H a=À o
 | .dct kvs=>∃ xs,H a=À (.dK ((kvs.map (·.1)).zip xs))∧aq K mg ρ H (kvs.map (·.2)) xs
 | .tab y=>∃ (ps:Array Ã) (c:Addr) (k:lV),H a=À (.iy ps)∧PySem.W.tabIn K y=À (c,a)∧xX K mg y=À k∧(ps=#[]∨∃ c',ps=#[PySem.rawInt k.pos.line,PySem.rawInt k.pos.col,.ref c']∧lX H c' k.qual)
 | .GI fz kvs=>∃ xs,(if fz=Á then ∃ o,H a=À (.di o (.dT ((kvs.map (·.1)).zip xs))) else H a=À (.dT ((kvs.map (·.1)).zip xs)))∧aq K mg ρ H (kvs.map (·.2)) xs
 | .J5 kvs=>∃ xs,(∃ o,H a=À (.di o (.dK ((kvs.map (·.1)).zip xs))))∧aq K mg ρ H (kvs.map (·.2)) xs
 | .ins c fs=>∃ C dx xs,mg c=À (.ref C)∧H a=À (.ins C dx ((fs.map (·.1)).zip xs))∧aq K mg ρ H (fs.map (·.2)) xs
structure fO (K:Å) (mg:Str→Option Ã) (H:Hp) (ρ:List Addr) (G:DH):Prop where
 hl:ρ.length=G.length
 nd:ρ.Nodup
 ob:∀ (n:Nat) (o:DO),G[n]?=À o→∃ a,ρ[n]?=À a∧A9 K mg ρ H a o
def kN (K:Å) (mg:Str→Option Ã) (H:Hp) (ρ:List Addr) (σ:St) (τ:DS):Prop:=
 σ.length=τ.length∧∀ (i:Nat) (d:D),τ[i]?=À (À d)→∃ v,σ[i]?=À (À v)∧Rep K mg ρ H d v
structure Ab (K:Å) (mg:Str→Option Ã) (σ:St) (H:Hp) (τ:DS) (ρ:List Addr) (G:DH):Prop where
 st:kN K mg H ρ σ τ
 hp:fO K mg H ρ G
section
variable {K:Å} {mg:Str→Option Ã} {H H' H1 H2:Hp} {ρ ρ' ρ1 ρ2:List Addr} {G G':DH} {σ:L2.St} {τ:DS}
theorem kN.mono (f:cK K H H' ρ ρ') (h:kN K mg H ρ σ τ):kN K mg H' ρ' σ τ:=⟨h.1,λi d e=>by obtain ⟨v,e1,r⟩:=h.2 i d e;exact ⟨v,e1,r.mono f⟩⟩
theorem kN.set (h:kN K mg H ρ σ τ) (r:Rep K mg ρ H d v):kN K mg H ρ (σ.set i (À v)) (τ.set i (À d)):=by
 refine ⟨by simp [h.1],λj e he=>?_⟩;by_cases hj:i=j
 ·subst hj;rw [ù] at he;by_cases hi:i<τ.length
  ·rw [if_pos rfl,if_pos hi] at he;cases he;exact ⟨v,by rw [ù,if_pos rfl,if_pos (by rw [h.1];exact hi)],r⟩
  ·rw [if_pos rfl,if_neg hi] at he;cases he
 ·rw [ß hj] at he;obtain ⟨u,e1,r1⟩:=h.2 j e he;exact ⟨u,by rw [ß hj];exact e1,r1⟩
theorem Ab.fut (ab:Ab K mg σ H τ ρ G) (f:cK K H H' ρ ρ') (hp:fO K mg H' ρ' G'):Ab K mg σ H' τ ρ' G':=⟨ab.st.mono f,hp⟩
theorem fO.lst (h:fO K mg H ρ G) (e:G[n]?=À (.lst ds)):∃ a xs,ρ[n]?=À a∧H a=À (.lst xs)∧aq K mg ρ H ds xs:=by obtain ⟨a,e1,xs,e2,r⟩:=h.ob n _ e;exact ⟨a,xs,e1,e2,r⟩
theorem fO.there (h:fO K mg H ρ G) (e:ρ[n]?=À a):∃ o,H a=À o:=by
 have hn:n<G.length:=by rw [← h.hl];exact (É.mp e).1
 obtain ⟨a',e1,r⟩:=h.ob n G[n] (Ð hn);rw [e] at e1;cases e1;cases hg:G[n] with
 | lst xs=>rw [hg] at r;obtain ⟨ys,e2,_⟩:=r;exact ⟨_,e2⟩
 | dead=>rw [hg] at r;exact r
 | dct kv=>rw [hg] at r;obtain ⟨ys,e2,_⟩:=r;exact ⟨_,e2⟩
 | tab t=>rw [hg] at r;obtain ⟨ps,c,k,e2,_⟩:=r;exact ⟨_,e2⟩
 | GI fz kv=>
  rw [hg] at r;obtain ⟨ys,e2,_⟩:=r;cases fz
  ·exact ⟨_,e2⟩
  ·obtain ⟨o,e2⟩:=e2;exact ⟨_,e2⟩
 | J5 kv=>rw [hg] at r;obtain ⟨ys,⟨o,e2⟩,_⟩:=r;exact ⟨_,e2⟩
 | ins c fs=>rw [hg] at r;obtain ⟨C,dx,xs,_,e2,_⟩:=r;exact ⟨_,e2⟩
theorem fO.not_mem (h:fO K mg H ρ G) (hp:H p=Æ):p∉ρ:=λhm=>by obtain ⟨n,hn,e⟩:=Ŕ hm;obtain ⟨o,q⟩:=h.there (n:=n) (a:=p) (by rw [Ð hn,e]);rw [hp] at q;cases q
theorem A9.mono {o:DO} (f:cK K H H' ρ ρ') (he:∀ u,H a=À u→H' a=À u) (h:A9 K mg ρ H a o):A9 K mg ρ' H' a o:=by
 cases o with
 | lst ds=>obtain ⟨xs,e,r⟩:=h;exact ⟨xs,he _ e,r.mono f⟩
 | dead=>obtain ⟨o,e⟩:=h;exact ⟨o,he _ e⟩
 | dct kv=>obtain ⟨xs,e,r⟩:=h;exact ⟨xs,he _ e,r.mono f⟩
 | tab t=>obtain ⟨ps,c,k,e,q,q2,r⟩:=h;exact ⟨ps,c,k,he _ e,q,q2,r.imp id λzz=>by obtain ⟨c',e,z⟩:=zz;exact ⟨c',e,z.mono f.di⟩⟩
 | GI fz kv=>
  obtain ⟨xs,e,r⟩:=h;refine ⟨xs,?_,r.mono f⟩;cases fz
  ·exact he _ e
  ·obtain ⟨o,e⟩:=e;exact ⟨o,he _ e⟩
 | J5 kv=>obtain ⟨xs,⟨o,e⟩,r⟩:=h;exact ⟨xs,⟨o,he _ e⟩,r.mono f⟩
 | ins c fs=>obtain ⟨C,dx,xs,m,e,r⟩:=h;exact ⟨C,dx,xs,m,he _ e,r.mono f⟩
theorem eX {o:HO} (hp:H p=Æ) (ρ:List Addr):cK K H (upd H p o) ρ ρ:=by
 refine ⟨λa xs h=>?_,λa q u h=>by rw [aD (aS h hp)];exact h,⟨[],by simp⟩,λa φ h=>by rw [aD (aS h hp)];exact h⟩
 ·rw [tE] at h ⊢;rw [aD (aS h hp)];exact h
theorem pG (hp:H p=À (.lst xs)) (ρ:List Addr):cK K H (upd H p (.lst ys)) ρ ρ:=by
 refine ⟨λa zs h=>?_,λa q u h=>by rw [aD (iz h hp (by intro z;cases z))];exact h,⟨[],by simp⟩,λa φ h=>by rw [aD (iz h hp (by intro z;cases z))];exact h⟩
 ·rw [tE] at h ⊢;rw [aD (iz h hp (by intro z;cases z))];exact h
theorem fO.new {o:HO} (h:fO K mg H ρ G) (hp:H p=Æ):fO K mg (upd H p o) ρ G:=
 ⟨h.hl,h.nd,λn ob e=>by obtain ⟨a,e1,r⟩:=h.ob n ob e;exact ⟨a,e1,r.mono (eX hp ρ) λu q=>by rw [aD (aS q hp)];exact q⟩⟩
theorem aH (l:List α) (a:α):(l++[a])[l.length]?=À a:=by simp
theorem fP (ρ:List Addr) (p:Addr):cK K H H ρ (ρ++[p]):=⟨λ_ _ h=>h,λ_ _ _ h=>h,⟨[p],rfl⟩,λ_ _ h=>h⟩
theorem fO.more (h:fO K mg H ρ G) (hp:H p=Æ) (r:aq K mg ρ H ds xs):fO K mg (upd H p (.lst xs)) (ρ++[p]) (G++[.lst ds]):=by
 have f:cK K H (upd H p (.lst xs)) ρ (ρ++[p]):=(eX hp ρ).trans (fP ρ p);refine ⟨by simp [h.hl],?_,λn ob e=>?_⟩
 ·rw [Sl];refine ⟨h.nd,by simp,λa ha b hb=>?_⟩;have e:b=p:=by simpa using hb
  subst e;rintro rfl;exact h.not_mem hp ha
 ·by_cases hn:n<G.length
  ·rw [Ñ hn] at e;obtain ⟨a,e1,r'⟩:=h.ob n ob e;exact ⟨a,f.get e1,r'.mono f λu q=>by rw [aD (aS q hp)];exact q⟩
  ·have hl:n<(G++[DO.lst ds]).length:=(É.mp e).1;have hn':n=G.length:=by simp at hl;nofun
   subst hn';rw [aH] at e;cases e;refine ⟨p,by rw [← h.hl,aH],xs,cB,r.mono f⟩
theorem fO.put {ds es:List D} (h:fO K mg H ρ G) (hn:ρ[n]?=À a) (ha:H a=À (.lst xs)) (r:aq K mg ρ H es ys):fO K mg (upd H a (.lst ys)) ρ (G.set n (.lst es)):=by
 have f:cK K H (upd H a (.lst ys)) ρ ρ:=pG ha ρ;refine ⟨by simp [h.hl],h.nd,λm ob e=>?_⟩;by_cases hm:n=m
 ·subst hm;rw [ù,if_pos rfl] at e;split at e
  ·cases e;exact ⟨a,hn,ys,cB,r.mono f⟩
  ·cases e
 ·rw [ß hm] at e;obtain ⟨b,e1,r'⟩:=h.ob m ob e;have hb:b≠a:=by rintro rfl;obtain ⟨h1,AD⟩:=É.mp hn;obtain ⟨h2,AE⟩:=É.mp e1;exact hm ((Ō h.nd).mp (AD.trans AE.symm))
  exact ⟨b,e1,r'.mono f λu q=>by rw [aD hb];exact q⟩
end
abbrev bz:=XD→St→Hp→Prop
variable {EE yy:bz}
section
variable (K:Å) (mg:Str→Option Ã) (EE:bz)
def gR (H:Hp) (σ:St) (τ:DS) (ρ:List Addr):Out D→VK→Prop
 | .stuck,_=>False
 | .ok d G',Q=>∀ v H' ρ',cK K H H' ρ ρ'→Ab K mg σ H' τ ρ' G'→Rep K mg ρ' H' d v→Q v H'
 | .bw c G',_=>∀ H' ρ',cK K H H' ρ ρ'→Ab K mg σ H' τ ρ' G'→EE c σ H'
def GK (H:Hp) (σ:St) (τ:DS) (ρ:List Addr):Out Bool→(Bool→Hp→Prop)→Prop
 | .stuck,_=>False
 | .ok b G',Q=>∀ H' ρ',cK K H H' ρ ρ'→Ab K mg σ H' τ ρ' G'→Q b H'
 | .bw c G',_=>∀ H' ρ',cK K H H' ρ ρ'→Ab K mg σ H' τ ρ' G'→EE c σ H'
def HL (H:Hp) (σ:St) (τ:DS) (ρ:List Addr):Out (List D)→(List V→Hp→Prop)→Prop
 | .stuck,_=>False
 | .ok ds G',Q=>∀ vs H' ρ',cK K H H' ρ ρ'→Ab K mg σ H' τ ρ' G'→aq K mg ρ' H' ds vs→Q vs H'
 | .bw c G',_=>∀ H' ρ',cK K H H' ρ ρ'→Ab K mg σ H' τ ρ' G'→EE c σ H'
def cC (m:DS→M D):TE:=λσ H Q=>∃ τ ρ G,Ab K mg σ H τ ρ G∧gR K mg EE H σ τ ρ (m τ G) Q
def liftT (m:DS→M Bool):TT:=λσ H Q=>∃ τ ρ G,Ab K mg σ H τ ρ G∧GK K mg EE H σ τ ρ (m τ G) Q
def oi (m:DS→M (List D)):TA:=λσ H Q=>∃ τ ρ G,Ab K mg σ H τ ρ G∧HL K mg EE H σ τ ρ (m τ G) Q
inductive Res where
 | stuck
 | nx (τ:DS) (G:DH)
 | rt (d:D) (G:DH)
 | bk (τ:DS) (G:DH)
 | ct (τ:DS) (G:DH)
 | xn (c:XD) (τ:DS) (G:DH)
def qS (H:Hp) (ρ:List Addr) (Dd:Ends):Res→Prop
 | .stuck=>False
 | .nx τ G=>∀ σ' H' ρ',cK K H H' ρ ρ'→Ab K mg σ' H' τ ρ' G→Dd.nx σ' H'
 | .bk τ G=>∀ σ' H' ρ',cK K H H' ρ ρ'→Ab K mg σ' H' τ ρ' G→Dd.bk σ' H'
 | .ct τ G=>∀ σ' H' ρ',cK K H H' ρ ρ'→Ab K mg σ' H' τ ρ' G→Dd.ct σ' H'
 | .rt d G=>∀ v H' ρ',cK K H H' ρ ρ'→fO K mg H' ρ' G→Rep K mg ρ' H' d v→Dd.rt v H'
 | .xn c τ G=>∀ σ' H' ρ',cK K H H' ρ ρ'→Ab K mg σ' H' τ ρ' G→EE c σ' H'
abbrev MS:=DS→DH→Res
def gi (m:MS):TS:=λDd σ H=>∃ τ ρ G,Ab K mg σ H τ ρ G∧qS K mg EE H ρ Dd (m τ G)
end
variable {mh mr:XD→MS} {ms:MS}
section
variable {K:Å} {mg:Str→Option Ã} {EE:bz} {H H1:Hp} {σ:L2.St} {τ:DS} {ρ ρ1:List Addr}
theorem gR.fut {r:Out D} {Q:VK} (f:cK K H H1 ρ ρ1) (h:gR K mg EE H σ τ ρ r Q):gR K mg EE H1 σ τ ρ1 r Q:=by
 cases r with
 | stuck=>exact h
 | ok d G'=>exact λv H' ρ' f'=>h v H' ρ' (f.trans f')
 | bw c G'=>exact λH' ρ' f'=>h H' ρ' (f.trans f')
theorem GK.fut {r:Out Bool} (f:cK K H H1 ρ ρ1) (h:GK K mg EE H σ τ ρ r Q):GK K mg EE H1 σ τ ρ1 r Q:=by
 cases r with
 | stuck=>exact h
 | ok d G'=>exact λH' ρ' f'=>h H' ρ' (f.trans f')
 | bw c G'=>exact λH' ρ' f'=>h H' ρ' (f.trans f')
theorem HL.fut {r:Out (List D)} {Q:List V→Hp→Prop} (f:cK K H H1 ρ ρ1) (h:HL K mg EE H σ τ ρ r Q):HL K mg EE H1 σ τ ρ1 r Q:=by
 cases r with
 | stuck=>exact h
 | ok d G'=>exact λv H' ρ' f'=>h v H' ρ' (f.trans f')
 | bw c G'=>exact λH' ρ' f'=>h H' ρ' (f.trans f')
theorem qS.fut {r:Res} (f:cK K H H1 ρ ρ1) (h:qS K mg EE H ρ Dd r):qS K mg EE H1 ρ1 Dd r:=by
 cases r with
 | stuck=>exact h
 | nx τ G=>exact λs H' ρ' f'=>h s H' ρ' (f.trans f')
 | bk τ G=>exact λs H' ρ' f'=>h s H' ρ' (f.trans f')
 | ct τ G=>exact λs H' ρ' f'=>h s H' ρ' (f.trans f')
 | rt d G=>exact λs H' ρ' f'=>h s H' ρ' (f.trans f')
 | xn c τ G=>exact λs H' ρ' f'=>h s H' ρ' (f.trans f')
theorem fj {m:DS→M D} {k:DS→D→M D} {Q:VK} (h:cC K mg EE (λτ=>(m τ).bind (k τ)) σ H Q) :
  cC K mg EE m σ H λx H1=>∃ τ ρ G d,Ab K mg σ H1 τ ρ G∧Rep K mg ρ H1 d x∧gR K mg EE H1 σ τ ρ (k τ d G) Q:=by
 obtain ⟨τ,ρ,G,ab,ok⟩:=h;refine ⟨τ,ρ,G,ab,?_⟩;dsimp only [M.bind] at ok;cases e:m τ G with
 | stuck=>rw [e] at ok;exact ok
 | bw c G'=>rw [e] at ok;exact ok
 | ok d G'=>rw [e] at ok;exact λv H' ρ' f bF r=>⟨τ,ρ',G',d,bF,r,ok.fut f⟩
theorem xY {m:DS→M D} {k:DS→D→M Bool} (h:liftT K mg EE (λτ=>(m τ).bind (k τ)) σ H Q) :
  cC K mg EE m σ H λx H1=>∃ τ ρ G d,Ab K mg σ H1 τ ρ G∧Rep K mg ρ H1 d x∧GK K mg EE H1 σ τ ρ (k τ d G) Q:=by
 obtain ⟨τ,ρ,G,ab,ok⟩:=h;refine ⟨τ,ρ,G,ab,?_⟩;dsimp only [M.bind] at ok;cases e:m τ G with
 | stuck=>rw [e] at ok;exact ok
 | bw c G'=>rw [e] at ok;exact ok
 | ok d G'=>rw [e] at ok;exact λv H' ρ' f bF r=>⟨τ,ρ',G',d,bF,r,ok.fut f⟩
theorem tF {m:DS→M Bool} {k:DS→Bool→M Bool} (h:liftT K mg EE (λτ=>(m τ).bind (k τ)) σ H Q) :
  liftT K mg EE m σ H λb H1=>∃ τ ρ G,Ab K mg σ H1 τ ρ G∧GK K mg EE H1 σ τ ρ (k τ b G) Q:=by
 obtain ⟨τ,ρ,G,ab,ok⟩:=h;refine ⟨τ,ρ,G,ab,?_⟩;dsimp only [M.bind] at ok;cases e:m τ G with
 | stuck=>rw [e] at ok;exact ok
 | bw c G'=>rw [e] at ok;exact ok
 | ok d G'=>rw [e] at ok;exact λH' ρ' f bF=>⟨τ,ρ',G',bF,ok.fut f⟩
theorem En {m:DS→M D} {k:DS→D→M (List D)} {Q:List V→Hp→Prop} (h:oi K mg EE (λτ=>(m τ).bind (k τ)) σ H Q) :
  cC K mg EE m σ H λx H1=>∃ τ ρ G d,Ab K mg σ H1 τ ρ G∧Rep K mg ρ H1 d x∧HL K mg EE H1 σ τ ρ (k τ d G) Q:=by
 obtain ⟨τ,ρ,G,ab,ok⟩:=h;refine ⟨τ,ρ,G,ab,?_⟩;dsimp only [M.bind] at ok;cases e:m τ G with
 | stuck=>rw [e] at ok;exact ok
 | bw c G'=>rw [e] at ok;exact ok
 | ok d G'=>rw [e] at ok;exact λv H' ρ' f bF r=>⟨τ,ρ',G',d,bF,r,ok.fut f⟩
theorem lY {k:DS→List D→M D} {Q:VK} (h:cC K mg EE (λτ=>(m τ).bind (k τ)) σ H Q) :
  oi K mg EE m σ H λx H1=>∃ τ ρ G d,Ab K mg σ H1 τ ρ G∧aq K mg ρ H1 d x∧gR K mg EE H1 σ τ ρ (k τ d G) Q:=by
 obtain ⟨τ,ρ,G,ab,ok⟩:=h;refine ⟨τ,ρ,G,ab,?_⟩;dsimp only [M.bind] at ok;cases e:m τ G with
 | stuck=>rw [e] at ok;exact ok
 | bw c G'=>rw [e] at ok;exact ok
 | ok d G'=>rw [e] at ok;exact λv H' ρ' f bF r=>⟨τ,ρ',G',d,bF,r,ok.fut f⟩
def bP {α:Type} (m:M α) (k:α→DH→Res) (x:XD→DH→Res):DH→Res:=λG=>match m G with
 | .stuck=>.stuck
 | .ok a G'=>k a G'
 | .bw c G'=>x c G'
theorem pH {m:DS→M D} {k:DS→D→DH→Res} (h:gi K mg EE (λτ=>bP (m τ) (k τ) λc G=>.xn c τ G) Dd σ H) :
  cC K mg EE m σ H λx H1=>∃ τ ρ G d,Ab K mg σ H1 τ ρ G∧Rep K mg ρ H1 d x∧qS K mg EE H1 ρ Dd (k τ d G):=by
 obtain ⟨τ,ρ,G,ab,ok⟩:=h;refine ⟨τ,ρ,G,ab,?_⟩;dsimp only [bP] at ok;cases e:m τ G with
 | stuck=>rw [e] at ok;exact ok
 | bw c G'=>rw [e] at ok;exact λH' ρ' f bF=>ok σ H' ρ' f bF
 | ok d G'=>rw [e] at ok;exact λv H' ρ' f bF r=>⟨τ,ρ',G',d,bF,r,ok.fut f⟩
theorem Eo {m:DS→M Bool} {k:DS→Bool→DH→Res} (h:gi K mg EE (λτ=>bP (m τ) (k τ) λc G=>.xn c τ G) Dd σ H) :
  liftT K mg EE m σ H λb H1=>∃ τ ρ G,Ab K mg σ H1 τ ρ G∧qS K mg EE H1 ρ Dd (k τ b G):=by
 obtain ⟨τ,ρ,G,ab,ok⟩:=h;refine ⟨τ,ρ,G,ab,?_⟩;dsimp only [bP] at ok;cases e:m τ G with
 | stuck=>rw [e] at ok;exact ok
 | bw c G'=>rw [e] at ok;exact λH' ρ' f bF=>ok σ H' ρ' f bF
 | ok d G'=>rw [e] at ok;exact λH' ρ' f bF=>⟨τ,ρ',G',bF,ok.fut f⟩
end
def QE (X:Cx) (EE:bz) (e:Expr) (m:DS→M D):Prop:=PE X e (cC X.K X.mg EE m)
def QT (X:Cx) (EE:bz) (e:Expr) (m:DS→M Bool):Prop:=PT X e (liftT X.K X.mg EE m)
def QW (X:Cx) (EE:bz) (e:Expr) (m:DS→M Bool):Prop:=PW X e (liftT X.K X.mg EE m)
def QA (X:Cx) (EE:bz) (es:List Expr) (m:DS→M (List D)):Prop:=PA X es (oi X.K X.mg EE m)
def QS (X:Cx) (EE:bz) (st:Stmt) (m:MS):Prop:=PS X st (gi X.K X.mg EE m)
def lq (X:Cx) (EE:bz) (st:List Stmt) (m:MS):Prop:=uB X st (gi X.K X.mg EE m)
section
variable {X:Cx}
theorem PE.mono {t t':TE} (h:PE X e t) (i:∀ σ H Q,t' σ H Q→t σ H Q):PE X e t':=λpins s σ H Q I q=>h pins s σ H Q I (i _ _ _ q)
theorem PT.mono {t:TT} (h:PT X e t) (i:∀ σ H Q,t' σ H Q→t σ H Q):PT X e t':=λpins s σ H Q I q=>h pins s σ H Q I (i _ _ _ q)
theorem PA.mono {e:List Expr} {t t':TA} (h:PA X e t) (i:∀ σ H Q,t' σ H Q→t σ H Q):PA X e t':=λpos pins s σ H Q I q=>h pos pins s σ H Q I (i _ _ _ q)
theorem PS.mono {e:Stmt} {t t':TS} (h:PS X e t) (i:∀ D σ H,t' D σ H→t D σ H):PS X e t':=λpins s σ H D I q=>h pins s σ H D I (i _ _ _ q)
theorem uB.mono {e:List Stmt} {t t':TS} (h:uB X e t) (i:∀ D σ H,t' D σ H→t D σ H):uB X e t':=λpins s σ H D I q=>h pins s σ H D I (i _ _ _ q)
end
section
variable {X:Cx} {EE:bz} {a b c:Expr} {ma mb mc:DS→M D} {pos:Pos}
def af (i:Nat):DS→M D:=λτ G=>match τ[i]? with
 | some (À d)=>.ok d G
 | _=>.stuck
def eC (d:D):DS→M D:=λ_=>M.ret d
theorem Ep (i:Nat) {x:Str} {pos:Pos} (hN:X.N[i]?=À x:=by rfl) (hv:xu X.env.scope x:=by first | exact SV rfl | exact R9 (SV rfl) | exact R9 (R9 rfl)) (hd:(x==("__debug__":Str))=Â:=by decide)
  (hcd:(x==("__classdict__":Str))=Â:=by decide):QE X EE (.Name x pos) (af i):=PE.mono (sR hN hv hd hcd) λσ H Q ⟨τ,ρ,G,ab,ok⟩=>by
 unfold af at ok;cases e:τ[i]? with
 | none=>rw [e] at ok;exact ok.elim
 | some o=>
  cases o with
  | none=>rw [e] at ok;exact ok.elim
  | some d=>rw [e] at ok;obtain ⟨v,e1,r⟩:=ab.st.2 i d e;exact ⟨v,e1,ok v H ρ .refl ab r⟩
theorem vI (h:PE X e (tC v)) (r:∀ ρ H,Rep X.K X.mg ρ H d v):QE X EE e (eC d):=PE.mono h λσ H Q zz=>by obtain ⟨τ,ρ,G,ab,ok⟩:=zz;exact ok v H ρ .refl ab (r ρ H)
theorem Er {i:Int} {j pos}:QE X EE (.Constant (.int i) j pos) (eC (.int i)):=vI DC λ_ _=>by unfold Rep;rfl
theorem HM {i:Bool} {j pos}:QE X EE (.Constant (.bool i) j pos) (eC (.bl i)):=vI G5 λ_ _=>by unfold Rep;rfl
theorem Es {j pos}:QE X EE (.Constant .none j pos) (eC .dR):=vI DE λ_ _=>by unfold Rep;rfl
theorem Et {x j pos}:QE X EE (.Constant (.str x) j pos) (eC (.str x)):=vI DF λ_ _=>by unfold Rep;rfl
def gC (K:Å) (mg:Str→Option Ã) (x:Str) (d:D):Prop:=∃ u v,mg x=À u∧RelV v u∧∀ ρ H,Rep K mg ρ H d v
theorem Ba {pos:Pos} (h:gC X.K X.mg x d) (hg:Gl X x:=by rfl) (hd:(x==("__debug__":Str))=Â:=by decide):QE X EE (.Name x pos) (eC d):=by obtain ⟨u,v,hm,r,hr⟩:=h;exact vI (uC hg hm r hd) hr
def aj (f:D→D→M D) (ma mb:DS→M D):DS→M D:=λτ=>(ma τ).bind λx=>(mb τ).bind λy=>f x y
def xZ (X:Cx) (EE:bz) (r:R2) (f:D→D→M D):Prop:=∀ (σ:L2.St) (H:Hp) (τ:DS) (ρ:List Addr) (G:DH) (x y:V) (d e:D) (Q:VK),
 Ab X.K X.mg σ H τ ρ G→Rep X.K X.mg ρ H d x→Rep X.K X.mg ρ H e y→gR X.K X.mg EE H σ τ ρ (f d e G) Q→r x y H Q
theorem ly {r:R2} (hd:xZ X EE r f) {σ:L2.St} {H:Hp} {Q:VK} (h:cC X.K X.mg EE (aj f ma mb) σ H Q) :
  Hi r (cC X.K X.mg EE ma) (cC X.K X.mg EE mb) σ H Q:=by
 obtain ⟨τ,ρ,G,ab,ok⟩:=fj (k:=λτ x=>(mb τ).bind λy=>f x y) h;refine ⟨τ,ρ,G,ab,?_⟩;cases e:ma τ G with
 | stuck=>rw [e] at ok;exact ok
 | bw c G'=>rw [e] at ok;exact ok
 | ok d G'=>
  rw [e] at ok;intro v H' ρ' f' bF r';obtain ⟨τ2,ρ2,G2,d2,cG,r2,aO⟩:=ok v H' ρ' f' bF r';refine ⟨τ2,ρ2,G2,cG,?_⟩;dsimp only [M.bind] at aO;cases e2:mb τ2 G2 with
  | stuck=>rw [e2] at aO;exact aO
  | bw c G'=>rw [e2] at aO;exact aO
  | ok d3 G3=>rw [e2] at aO;exact λv3 H3 ρ3 f3 x6 r3=>hd σ H3 τ2 ρ3 G3 v v3 d2 d3 Q x6 (r2.mono f3) r3 (aO.fut f3)
theorem oj {op:Operator} {r:R2} (ho:gB X (binaryOp op) r) (hd:xZ X EE r f) (ha:QE X EE a ma) (hb:QE X EE b mb):QE X EE (.BinOp a op b pos) (aj f ma mb):=
 PE.mono (Hj ho ha hb) λ_ _ _ h=>ly hd h
theorem x8 {r:R2} (ho:gB X (compareOp op) r) (hd:xZ X EE r f) (ha:QE X EE a ma) (hb:QE X EE b mb) (hm:behindInMarks op b=Â):QE X EE (.Compare a [op] [b] pos) (aj f ma mb):=
 PE.mono (AW ho ha hb hm) λ_ _ _ h=>ly hd h
theorem HN {r:R2} (ho:AB X r) (hd:xZ X EE r f) (ha:QE X EE a ma) (hb:QE X EE b mb) (hs:lg b:=by intro _ _;rfl):QE X EE (.Subscript a b pos) (aj f ma mb):=
 PE.mono (HB ho ha hb hs) λ_ _ _ h=>ly hd h
theorem xZ.or {r r':R2} (h:∀ (σ:L2.St) (H:Hp) (τ:DS) (ρ:List Addr) (G:DH) (x y:V) (d e:D) (Q:VK),
 Ab X.K X.mg σ H τ ρ G→Rep X.K X.mg ρ H d x→Rep X.K X.mg ρ H e y→gR X.K X.mg EE H σ τ ρ (f d e G) Q→r x y H Q∨r' x y H Q):xZ X EE (λx y H Q=>r x y H Q∨r' x y H Q) f:=h
def cY (C:Int→Int→Bool) (g:Int→Int→D):D→D→M D
 | .int i,.int j=>if C i j then M.ret (g i j) else M.stop
 | _,_=>M.stop
theorem uI {C:Int→Int→Bool} {e:D} {Q:VK} (ok:gR X.K X.mg EE H σ τ ρ (cY C g d e G) Q) :
  ∃ i j,d=.int i∧e=.int j∧C i j=Á∧gR X.K X.mg EE H σ τ ρ (.ok (g i j) G) Q:=by
 cases d<;>cases e<;>try exact ok.elim
 rename_i i j;dsimp only [cY] at ok;cases hc:C i j with
 | false=>rw [hc] at ok;exact ok.elim
 | true=>rw [hc] at ok;exact ⟨i,j,rfl,rfl,hc,ok⟩
theorem lA {C:Int→Int→Bool} {P:Int→Int→Prop} (hC:∀ i j,C i j=Á→P i j) (hg:∀ i j ρ H,Rep X.K X.mg ρ H (g i j) (gv i j)):xZ X EE (rI P gv) (cY C g):=
 λσ H τ ρ G x y d e Q ab r1 r2 ok=>by obtain ⟨i,j,rfl,rfl,hc,ok⟩:=uI ok;unfold Rep at r1 r2;exact ⟨i,j,r1,r2,hC i j hc,ok _ H ρ .refl ab (hg i j ρ H)⟩
theorem qT (hg:∀ i j ρ H,Rep X.K X.mg ρ H (g i j) (gv i j)):xZ X EE (GH gv) (cY (λ_ _=>Á) g):=
 λσ H τ ρ G x y d e Q ab r1 r2 ok=>by obtain ⟨i,j,rfl,rfl,hc,ok⟩:=uI ok;unfold Rep at r1 r2;exact ⟨i,j,r1,r2,ok _ H ρ .refl ab (hg i j ρ H)⟩
abbrev x9:=cY (λi j=>(decide (-(2^64)<i)&&decide (i<2^64))||(decide (-(2^64)<j)&&decide (j<2^64))) λi j=>.int (i*j)
abbrev eu:=cY (λ_ j=>decide (0<j)&&decide (j<1073741824)) λi j=>.int (i / j)
abbrev cI:=cY (λ_ j=>decide (0<j)) λi j=>.int (i % j)
abbrev HP:=cY (λi j=>decide (0≤j)&&(decide (j≤1000000)&&decide (i.natAbs<2^64))) λi j=>.int (i^j.toNat)
abbrev om:=cY (λ_ _=>Á) λi j=>.bl (decide (i<j))
abbrev ya:=cY (λ_ _=>Á) λi j=>.bl (decide (j<i))
theorem Eu (ha:QE X EE a ma) (hb:QE X EE b mb):QE X EE (.BinOp a .Mult b pos) (aj x9 ma mb):=oj DW (lA (λi j h=>by simp only [ž,ā,decide_eq_true_eq] at h;exact h) λ_ _ _ _=>by unfold Rep;rfl) ha hb
theorem Bb (ha:QE X EE a ma) (hb:QE X EE b mb):QE X EE (.BinOp a .FloorDiv b pos) (aj eu ma mb):=oj AV (lA (λi j h=>by simp only [ā,decide_eq_true_eq] at h;exact h) λ_ _ _ _=>by unfold Rep;rfl) ha hb
theorem Ew (ha:QE X EE a ma) (hb:QE X EE b mb):QE X EE (.BinOp a .Mod b pos) (aj cI ma mb):=oj DX (lA (λi j h=>of_decide_eq_true h) λ_ _ _ _=>by unfold Rep;rfl) ha hb
theorem Ex (ha:QE X EE a ma) (hb:QE X EE b mb):QE X EE (.BinOp a .Pow b pos) (aj HP ma mb):=oj DY (lA (λi j h=>by simp only [ā,decide_eq_true_eq] at h;exact h) λ_ _ _ _=>by unfold Rep;rfl) ha hb
def aI (ds:List D):M D:=λG=>if ds.length≤Ä then .ok (.obj G.length) (G++[.lst ds]) else .stuck
def dJ (ds:List D):M D:=λG=>if ds.length≤Ä then .ok (.tup ds) G else .stuck
theorem lZ {Q:VK} (ab:Ab X.K X.mg σ H τ ρ G) (r:aq X.K X.mg ρ H ds vs) (ok:gR X.K X.mg EE H σ τ ρ (aI ds G) Q) :
  vs.length≤Ä∧∀ p,H p=Æ→Q (.ref p) (upd H p (.lst vs)):=by
 unfold aI at ok;split at ok
 ·rename_i hl;rw [r.length] at hl;refine ⟨hl,λp hp=>?_⟩;have f:cK X.K H (upd H p (.lst vs)) ρ (ρ++[p]):=(eX hp ρ).trans (fP ρ p);refine ok (.ref p) _ (ρ++[p]) f (ab.fut f (ab.hp.more hp r)) ?_;unfold Rep;exact ⟨p,rfl,by rw [← ab.hp.hl,aH]⟩
 ·exact ok.elim
theorem pI {Q:VK} (ab:Ab X.K X.mg σ H τ ρ G) (r:aq X.K X.mg ρ H ds vs) (ok:gR X.K X.mg EE H σ τ ρ (dJ ds G) Q) :
  vs.length≤Ä∧∀ p,H p=Æ→Q (.ref p) (upd H p (.tup vs)):=by
 unfold dJ at ok;split at ok
 ·rename_i hl;rw [r.length] at hl;refine ⟨hl,λp hp=>?_⟩;have f:cK X.K H (upd H p (.tup vs)) ρ ρ:=eX hp ρ;refine ok (.ref p) _ ρ f (ab.fut f (ab.hp.new hp)) ?_;unfold Rep;exact ⟨p,vs,rfl,.of cB,r.mono f⟩
 ·exact ok.elim
def ah:DS→M (List D):=λ_=>M.ret []
def aa (m:DS→M D) (r:DS→M (List D)):DS→M (List D):=λτ=>(m τ).bind λx=>(r τ).bind λxs=>M.ret (x::xs)
theorem Ey:QA X EE [] ah:=PA.mono xN λσ H Q zz=>by obtain ⟨τ,ρ,G,ab,ok⟩:=zz;exact ok [] H ρ .refl ab .nil
theorem Bc {m:DS→M D} (ha:QE X EE e m) (hr:QA X EE es r) (hs:Ô (e::es) X.env=(Â,eval e X.env)::Ô es X.env:=by rfl):QA X EE (e::es) (aa m r):=
 PA.mono (pq ha hr hs) λσ H Q h=>by
  obtain ⟨τ,ρ,G,ab,ok⟩:=En (k:=λτ x=>(r τ).bind λxs=>M.ret (x::xs)) h;refine ⟨τ,ρ,G,ab,?_⟩;cases e:m τ G with
  | stuck=>rw [e] at ok;exact ok
  | bw c G'=>rw [e] at ok;exact ok
  | ok d G'=>
   rw [e] at ok;intro v H' ρ' f' bF r';obtain ⟨τ2,ρ2,G2,d2,cG,r2,aO⟩:=ok v H' ρ' f' bF r';refine ⟨τ2,ρ2,G2,cG,?_⟩;dsimp only [M.bind] at aO;cases e2:r τ2 G2 with
   | stuck=>rw [e2] at aO;exact aO
   | bw c G'=>rw [e2] at aO;exact aO
   | ok d3 G3=>rw [e2] at aO;exact λv3 H3 ρ3 f3 x6 r3=>aO (v::v3) H3 ρ3 f3 x6 (.cons (r2.mono f3) r3)
def ai (f:List D→M D) (m:DS→M (List D)):DS→M D:=λτ=>(m τ).bind f
theorem iT {m:DS→M (List D)} {f:List D→M D} {r:List V→Hp→VK→Prop} {σ:L2.St} {H:Hp} {Q:VK}
  (hd:∀ (H:Hp) (τ:DS) (ρ:List Addr) (G:DH) (xs:List V) (ds:List D),Ab X.K X.mg σ H τ ρ G→aq X.K X.mg ρ H ds xs→gR X.K X.mg EE H σ τ ρ (f ds G) Q→r xs H Q)
  (h:cC X.K X.mg EE (ai f m) σ H Q):oi X.K X.mg EE m σ H λxs H1=>r xs H1 Q:=by
 obtain ⟨τ,ρ,G,ab,ok⟩:=lY (k:=λ_=>f) h;refine ⟨τ,ρ,G,ab,?_⟩;cases e:m τ G with
 | stuck=>rw [e] at ok;exact ok
 | bw c G'=>rw [e] at ok;exact ok
 | ok d G'=>rw [e] at ok;intro v H' ρ' f' bF r';obtain ⟨τ2,ρ2,G2,d2,cG,r2,aO⟩:=ok v H' ρ' f' bF r';exact hd H' τ2 ρ2 G2 v d2 cG r2 aO
theorem Ez {x1} (h:QA X EE es m):QE X EE (.Tuple es x1 pos) (ai dJ m):=
 PE.mono (D5 h) λσ H Q h=>iT (r:=λxs H1 Q=>xs.length≤Ä∧∀ p,H1 p=Æ→Q (.ref p) (upd H1 p (.tup xs))) (λH τ ρ G xs ds ab r ok=>pI ab r ok) h
theorem EA (h:QA X EE es m):QE X EE (.List es pos) (ai aI m):=
 PE.mono (D6 h) λσ H Q h=>iT (r:=λxs H1 Q=>xs.length≤Ä∧∀ p,H1 p=Æ→Q (.ref p) (upd H1 p (.lst xs))) (λH τ ρ G xs ds ab r ok=>lZ ab r ok) h
def CallD (X:Cx) (EE:bz) (r:List V→Hp→VK→Prop) (f:List D→M D):Prop:=∀ (σ:L2.St) (H:Hp) (τ:DS) (ρ:List Addr) (G:DH) (xs:List V) (ds:List D) (Q:VK),
 Ab X.K X.mg σ H τ ρ G→aq X.K X.mg ρ H ds xs→gR X.K X.mg EE H σ τ ρ (f ds G) Q→r xs H Q
theorem yb {p:Pos} {id:String} {r:List V→Hp→VK→Prop} {f:List D→M D} (hc:cX X (.builtin id) r) (hd:CallD X EE r f) (hm:X.mg x=Æ) (ha:QA X EE (e::es) m)
  (hg:Gl X x:=by rfl) (hv:bootBuiltins x=À (.builtin id):=by first | rfl | decide) (hn:x≠"__name__":=by decide) (hdb:(x==("__debug__":Str))=Â:=by decide)
  (he:Ô (e::es) X.env=(Â,eval e X.env)::Ô es X.env:=by rfl) (hpl:(backTo pos (Ô es X.env)).any (·.1)=Â:=by rfl):QE X EE (.Call (.Name x p) (e::es) [] pos) (ai f m):=
 PE.mono (xO hc hg hm hv ha hn hdb he hpl) λσ H Q h=>iT (r:=r) (λH τ ρ G xs ds ab r ok=>hd σ H τ ρ G xs ds Q ab r ok) h
theorem vJ {p:Pos} {r:List V→Hp→VK→Prop} {f:List D→M D} (hc:cX X (.type T) r) (hd:CallD X EE r f) (hm:X.mg x=Æ) (ha:QA X EE (e::es) m)
  (hg:Gl X x:=by rfl) (hv:bootBuiltins x=À (.type T):=by first | rfl | decide) (hn:x≠"__name__":=by decide) (hdb:(x==("__debug__":Str))=Â:=by decide)
  (he:Ô (e::es) X.env=(Â,eval e X.env)::Ô es X.env:=by rfl) (hpl:(backTo pos (Ô es X.env)).any (·.1)=Â:=by rfl):QE X EE (.Call (.Name x p) (e::es) [] pos) (ai f m):=
 PE.mono (vF hc hg hm hv ha hn hdb he hpl) λσ H Q h=>iT (r:=r) (λH τ ρ G xs ds ab r ok=>hd σ H τ ρ G xs ds Q ab r ok) h
def cO (f:D→M Bool) (m:DS→M D):DS→M Bool:=λτ=>(m τ).bind f
def dM:D→M Bool
 | .dR=>M.ret Â
 | .bl b=>M.ret b
 | .int i=>M.ret (i != 0)
 | .str y=>if y.length≤Ä then M.ret ((y.length:Int) != 0) else M.stop
 | .tup xs=>M.ret (!xs.isEmpty)
 | .con xs=>M.ret (!xs.isEmpty)
 | .obj n=>λG=>match G[n]? with
  | some (.lst xs)=>.ok (!xs.isEmpty) G
  | _=>.stuck
 | .fn _=>M.stop
 | .lW _ _=>M.stop
 | .sM _ _=>M.stop
theorem gS (r:aq K mg ρ H ds vs):(!vs.isEmpty)=!ds.isEmpty:=by have:=r.length;cases ds<;>cases vs<;>first | rfl | (simp at this)
theorem yc {m:DS→M D} (h:liftT X.K X.mg EE (cO dM m) σ H Q) :
  cC X.K X.mg EE m σ H λx H1=>∃ k,D3 X.K x H1 k∧Q k H1:=by
 obtain ⟨τ,ρ,G,ab,ok⟩:=xY (k:=λ_=>dM) h;refine ⟨τ,ρ,G,ab,?_⟩;cases e:m τ G with
 | stuck=>rw [e] at ok;exact ok
 | bw c G'=>rw [e] at ok;exact ok
 | ok d G'=>
  rw [e] at ok;intro v H' ρ' f' bF r';obtain ⟨τ2,ρ2,G2,d2,cG,r2,aO⟩:=ok v H' ρ' f' bF r';cases d2 with
  | dR=>unfold Rep at r2;subst r2;exact ⟨Â,rfl,aO H' ρ2 .refl cG⟩
  | bl b=>unfold Rep at r2;subst r2;exact ⟨b,rfl,aO H' ρ2 .refl cG⟩
  | int i=>unfold Rep at r2;subst r2;exact ⟨_,rfl,aO H' ρ2 .refl cG⟩
  | str y=>
   unfold Rep at r2;subst r2;dsimp only [dM] at aO;split at aO
   ·rename_i hl;exact ⟨_,⟨hl,rfl⟩,aO H' ρ2 .refl cG⟩
   ·exact aO.elim
  | tup xs=>unfold Rep at r2;obtain ⟨p,vs,rfl,sq,rs⟩:=r2;exact ⟨!vs.isEmpty,.inr (.inl ⟨vs,sq,rfl⟩),by rw [gS rs];exact aO H' ρ2 .refl cG⟩
  | con xs=>unfold Rep at r2;obtain ⟨p,vs,rfl,sq,rs⟩:=r2;exact ⟨!vs.isEmpty,.inl ⟨vs,sq.seq,rfl⟩,by rw [gS rs];exact aO H' ρ2 .refl cG⟩
  | obj n=>
   unfold Rep at r2;obtain ⟨p,rfl,e1⟩:=r2;dsimp only [dM] at aO;cases q:G2[n]? with
   | none=>rw [q] at aO;exact aO.elim
   | some o=>
    cases o with
    | lst xs=>rw [q] at aO;obtain ⟨p',vs,e2,hp,rs⟩:=cG.hp.lst q;rw [e1] at e2;cases e2;exact ⟨!vs.isEmpty,.inl ⟨vs,.of hp,rfl⟩,by rw [gS rs];exact aO H' ρ2 .refl cG⟩
    | _=>first | (rw [q] at ok;exact ok.elim) | (rw [q] at aO;exact aO.elim) | (rw [q] at e;cases e;done) | (rw [g] at ok;exact ok.elim) | (rw [g] at q;cases q;done) | (rw [g] at h;cases h;done) | (rw [g2] at ok;exact ok.elim) | (rw [g1,g2] at ok;exact ok.elim) | (rw [q1] at ok;exact ok.elim) | exact ok.elim
  | fn x=>exact aO.elim
  | lW c as=>exact aO.elim
  | sM y0 c0=>exact aO.elim
theorem EB (ha:QE X EE a ma) (he:∀ whole,isTrue a X.env whole=(do let v ← whole;standAt a.pos;holding [v] (truthy v)):=by intro _;rfl):QT X EE a (cO dM ma):=
 PT.mono (xK ha he) λσ H Q h=>yc h
end
def aQ {α β:Type} (f:α→Option β):List α→Option (List β)
 | []=>À []
 | a::r=>match f a,aQ f r with
  | some b,À bs=>À (b::bs)
  | _,_=>Æ
def dg (G:DH):Nat→D→Option PyData
 | 0,_=>Æ
 | _+1,.dR=>À .none
 | _+1,.bl b=>À (.bool b)
 | _+1,.int i=>À (.int i)
 | _+1,.str x=>À (.str x)
 | n+1,.tup ds=>(aQ (dg G n) ds).map .tuple
 | n+1,.con ds=>(aQ (dg G n) ds).map .list
 | n+1,.obj k=>match G[k]? with
  | some (.lst ds)=>(aQ (dg G n) ds).map .list
  | _=>Æ
 | _+1,.fn _=>Æ
 | _+1,.lW _ _=>Æ
 | _+1,.sM _ _=>Æ
section
variable {X:Cx} {EE:bz} {pins:List (Addr×Obj)} {σ:L2.St} {H:Hp} {s:Ç} {ρ:List Addr} {G:DH}
theorem readsAll {f:D→Option PyData} (hf:∀ (d:D) (x:V) (u:Ã) (p:PyData),Rep X.K X.mg ρ H d x→RelV x u→f d=À p→∃ as,Reads s.heap u p as) :
  ∀ (ds:List D) (xs:List V) (us:List Ã) (ps:List PyData),aq X.K X.mg ρ H ds xs→Vals xs us→aQ f ds=À ps→∃ as,ReadsAll s.heap us ps as
 | [],xs,us,ps,r,v,e=>by unfold aq at r;subst r;cases v;cases e;exact ⟨[],.nil⟩
 | d::ds,xs,us,ps,r,v,e=>by
  unfold aq at r;obtain ⟨x,r',rfl,h1,h2⟩:=r;cases v with
  | cons v1 v2=>
  unfold aQ at e;cases e1:f d with
  | none=>rw [e1] at e;cases e
  | some p=>
   cases e2:aQ f ds with
   | none=>rw [e1,e2] at e;cases e
   | some qs=>rw [e1,e2] at e;cases e;obtain ⟨as,a1⟩:=hf d x _ p h1 v1 e1;obtain ⟨bs,a2⟩:=readsAll hf ds r' _ qs h2 v2 e2;exact ⟨as++bs,.cons a1 a2⟩
theorem bY (I:Inv X pins σ H s) (hp:fO X.K X.mg H ρ G):∀ (n:Nat) (d:D) (x:V) (u:Ã) (p:PyData),Rep X.K X.mg ρ H d x→RelV x u→dg G n d=À p→∃ as,Reads s.heap u p as
 | 0,_,_,_,_,_,_,e=>nomatch e
 | n+1,.dR,x,u,p,r,v,e=>by unfold Rep at r;subst r;cases v;cases e;exact ⟨_,.none⟩
 | n+1,.bl b,x,u,p,r,v,e=>by unfold Rep at r;subst r;cases v;cases e;exact ⟨_,.bool b⟩
 | n+1,.int i,x,u,p,r,v,e=>by unfold Rep at r;subst r;obtain ⟨t,rfl⟩:=v;cases e;exact ⟨_,.int i t⟩
 | n+1,.str y,x,u,p,r,v,e=>by unfold Rep at r;subst r;obtain ⟨t,rfl⟩:=v;cases e;exact ⟨_,.str y t⟩
 | n+1,.tup ds,x,u,p,r,v,e=>by
  unfold Rep at r;obtain ⟨a,xs,rfl,sq,rs⟩:=r;cases v;obtain ⟨its,vs,⟨o,e1,e2,k,e3⟩,_⟩:=I.tuple (tE.t sq);unfold dg at e;cases q:aQ (dg G n) ds with
  | none=>rw [q] at e;cases e
  | some ps=>rw [q] at e;cases e;obtain ⟨as,ra⟩:=readsAll (λd x u p=>bY I hp n d x u p) ds xs its ps rs vs q;exact ⟨as,.tuple e1 e2 e3 (by simpa using ra)⟩
 | n+1,.con ds,x,u,p,r,v,e=>by
  unfold Rep at r;obtain ⟨a,xs,rfl,sq,rs⟩:=r;cases v;obtain ⟨its,vs,⟨o,k,e1,e2,e3,e4⟩,_⟩:=I.list sq.seq;unfold dg at e;cases q:aQ (dg G n) ds with
  | none=>rw [q] at e;cases e
  | some ps=>rw [q] at e;cases e;obtain ⟨as,ra⟩:=readsAll (λd x u p=>bY I hp n d x u p) ds xs its ps rs vs q;exact ⟨_,.list e1 e2 e4 (by simpa using ra)⟩
 | n+1,.obj k,x,u,p,r,v,e=>by
  unfold Rep at r;obtain ⟨a,rfl,e0⟩:=r;cases v;dsimp only [dg] at e;cases q:G[k]? with
  | none=>rw [q] at e;cases e
  | some o=>
   cases o with
   | lst ds=>
    rw [q] at e;obtain ⟨a',xs,e1,e2,rs⟩:=hp.lst q;rw [e0] at e1;cases e1;obtain ⟨its,vs,⟨o,k,e1,e2,e3,e4⟩,_⟩:=I.list (.of e2);dsimp only at e;cases q:aQ (dg G n) ds with
    | none=>rw [q] at e;cases e
    | some ps=>rw [q] at e;cases e;obtain ⟨as,ra⟩:=readsAll (λd x u p=>bY I hp n d x u p) ds xs its ps rs vs q;exact ⟨_,.list e1 e2 e4 (by simpa using ra)⟩
   | _=>first | (rw [q] at ok;exact ok.elim) | (rw [q] at aO;exact aO.elim) | (rw [q] at e;cases e;done) | (rw [g] at ok;exact ok.elim) | (rw [g] at q;cases q;done) | (rw [g] at h;cases h;done) | (rw [g2] at ok;exact ok.elim) | (rw [g1,g2] at ok;exact ok.elim) | (rw [q1] at ok;exact ok.elim) | exact ok.elim
 | n+1,.fn y,x,u,p,r,v,e=>nomatch e
 | n+1,.lW y _,x,u,p,r,v,e=>nomatch e
 | n+1,.sM y _,x,u,p,r,v,e=>nomatch e
end
section
variable {X:Cx} {EE:bz} {a b c:Expr} {ma mb mc:DS→M D} {pos:Pos}
def rD (X:Cx) (EE:bz) (f:D→D→M D):R2:=λx y H Q=>∃ σ τ ρ G d e,Ab X.K X.mg σ H τ ρ G∧Rep X.K X.mg ρ H d x∧Rep X.K X.mg ρ H e y∧gR X.K X.mg EE H σ τ ρ (f d e G) Q
theorem gD:xZ X EE (rD X EE f) f:=λσ H τ ρ G x y d e Q ab r1 r2 ok=>⟨σ,τ,ρ,G,d,e,ab,r1,r2,ok⟩
theorem HQ {r:R2} (h:xZ X EE r f) {x y:V} {H:Hp} {Q:VK} (q:rD X EE f x y H Q):r x y H Q:=by obtain ⟨σ,τ,ρ,G,d,e,ab,r1,r2,ok⟩:=q;exact h σ H τ ρ G x y d e Q ab r1 r2 ok
abbrev deep:Nat:=600
def qU (d e:D) (G:DH):Option Bool:=match dg G deep d,dg G deep e with
 | some p,À q=>if p.canLay0&&(q.canLay0&&decide (min p.depth q.depth≤580)) then À (õ p q) else Æ
 | _,_=>Æ
def eF (neg:Bool) (d e:D):M D:=λG=>match qU d e G with
 | some b=>.ok (.bl (neg ^^ b)) G
 | none=>.stuck
theorem yd (hu:X.A.units+600<cLine):gB X (compareOp .Eq) (rD X EE (eF Â)):=by
 intro pins s σ0 H x y v u Q I rx ry zu;obtain ⟨σ,τ,ρ,G,d,e,ab,r1,r2,ok⟩:=zu;dsimp only [eF,qU] at ok;cases e1:dg G deep d with
 | none=>rw [e1] at ok;exact ok.elim
 | some p=>
  cases e2:dg G deep e with
  | none=>rw [e1,e2] at ok;exact ok.elim
  | some q=>
   rw [e1,e2] at ok;dsimp only at ok;by_cases hc:(p.canLay0&&(q.canLay0&&decide (min p.depth q.depth≤580)))=Á
   ·rw [if_pos hc] at ok;simp only [ā,decide_eq_true_eq] at hc;obtain ⟨as,ra⟩:=bY I ab.hp deep d x v p r1 rx e1;obtain ⟨bs,rb⟩:=bY I ab.hp deep e y u q r2 ry e2;refine SeqAt.compareEq_reads ra rb hc.1 hc.2.1 (by nofun) ⟨.bl _,H,I,rfl,?_⟩;have:=ok (.bl _) H ρ .refl ab (by unfold Rep;rfl);simpa using this
   ·rw [if_neg hc] at ok;exact ok.elim
theorem EC (hu:X.A.units+600<cLine):gB X (compareOp .NotEq) (rD X EE (eF Á)):=by
 intro pins s σ0 H x y v u Q I rx ry zu;obtain ⟨σ,τ,ρ,G,d,e,ab,r1,r2,ok⟩:=zu;dsimp only [eF,qU] at ok;cases e1:dg G deep d with
 | none=>rw [e1] at ok;exact ok.elim
 | some p=>
  cases e2:dg G deep e with
  | none=>rw [e1,e2] at ok;exact ok.elim
  | some q=>
   rw [e1,e2] at ok;dsimp only at ok;by_cases hc:(p.canLay0&&(q.canLay0&&decide (min p.depth q.depth≤580)))=Á
   ·rw [if_pos hc] at ok;simp only [ā,decide_eq_true_eq] at hc;obtain ⟨as,ra⟩:=bY I ab.hp deep d x v p r1 rx e1;obtain ⟨bs,rb⟩:=bY I ab.hp deep e y u q r2 ry e2;refine SeqAt.compareNe_reads ra rb hc.1 hc.2.1 (by nofun) ⟨.bl _,H,I,rfl,?_⟩;have:=ok (.bl _) H ρ .refl ab (by unfold Rep;rfl);simpa using this
   ·rw [if_neg hc] at ok;exact ok.elim
theorem HR (hu:X.A.units+600<cLine) (ha:QE X EE a ma) (hb:QE X EE b mb):QE X EE (.Compare a [.Eq] [b] pos) (aj (eF Â) ma mb):=x8 (yd hu) gD ha hb (D0 _)
inductive Ll where
 | lst (xs:List D) | tup (xs:List D) | str (x:Str)
def aG (G:DH):D→Option Ll
 | .tup xs=>À (.tup xs)
 | .con xs=>À (.lst xs)
 | .obj n=>match G[n]? with
  | some (.lst xs)=>À (.lst xs)
  | _=>Æ
 | .str x=>À (.str x)
 | _=>Æ
def tG (d:D) (ds:List D) (G:DH):Option Bool:=match dg G deep d,aQ (dg G deep) ds with
 | some p,À qs=>if p.canLay0&&(á qs&&decide (min (ë qs) p.depth≤580)) then À (qs.any λy=>õ y p) else Æ
 | _,_=>Æ
def ja (neg:Bool) (d e:D):M D:=λG=>match aG G e with
 | some (.lst ds)=>match tG d ds G with
  | some b=>.ok (.bl (neg ^^ b)) G
  | none=>.stuck
 | some (.tup ds)=>match tG d ds G with
  | some b=>.ok (.bl (neg ^^ b)) G
  | none=>.stuck
 | some (.str j)=>match d with
  | .str i=>.ok (.bl (neg ^^ !(à j i 0 j.length 1).isEmpty)) G
  | _=>.stuck
 | none=>.stuck
theorem cT {pins:List (Addr×Obj)} {σ0:L2.St} {s:Ç} {x:V} (h:fO X.K X.mg H ρ G) (r:Rep X.K X.mg ρ H d x) (e:aG G d=À (.lst ds)) :
  ∃ p xs,x=.ref p∧kD X.K H p xs∧aq X.K X.mg ρ H ds xs:=by
 cases d with
 | con xs=>cases e;unfold Rep at r;obtain ⟨a,xs,rfl,sq,rs⟩:=r;exact ⟨a,xs,rfl,sq.seq,rs⟩
 | obj n=>
  unfold Rep at r;obtain ⟨a,rfl,e0⟩:=r;dsimp only [aG] at e;cases q:G[n]? with
  | none=>rw [q] at e;cases e
  | some o=>
   cases o with
   | lst ys=>rw [q] at e;cases e;obtain ⟨a',xs,e1,e2,rs⟩:=h.lst q;rw [e0] at e1;cases e1;exact ⟨a,xs,rfl,.of e2,rs⟩
   | _=>first | (rw [q] at ok;exact ok.elim) | (rw [q] at aO;exact aO.elim) | (rw [q] at e;cases e;done) | (rw [g] at ok;exact ok.elim) | (rw [g] at q;cases q;done) | (rw [g] at h;cases h;done) | (rw [g2] at ok;exact ok.elim) | (rw [g1,g2] at ok;exact ok.elim) | (rw [q1] at ok;exact ok.elim) | exact ok.elim
 | _=>cases e
theorem tH {x:V} (r:Rep X.K X.mg ρ H d x) (e:aG G d=À (.tup ds)) :
  ∃ p xs,x=.ref p∧tE H p xs∧aq X.K X.mg ρ H ds xs:=by
 cases d with
 | tup xs=>cases e;unfold Rep at r;obtain ⟨a,xs,rfl,sq,rs⟩:=r;exact ⟨a,xs,rfl,sq,rs⟩
 | obj n=>
  dsimp only [aG] at e;cases q:G[n]? with
  | none=>rw [q] at e;cases e
  | some o=>cases o<;>(rw [q] at e;cases e)
 | _=>cases e
theorem fH {x:V} (r:Rep X.K X.mg ρ H d x) (e:aG G d=À (.tup ds)) :
  ∃ p xs,x=.ref p∧kZ X.K H p xs∧aq X.K X.mg ρ H ds xs:=let ⟨p,xs,h1,h2,h3⟩:=tH r e;⟨p,xs,h1,h2.t,h3⟩
theorem gE {x:V} (r:Rep X.K X.mg ρ H d x) (e:aG G d=À (.str y)):d=.str y∧x=.str y:=by
 cases d with
 | str z=>cases e;unfold Rep at r;exact ⟨rfl,r⟩
 | obj n=>
  dsimp only [aG] at e;cases q:G[n]? with
  | none=>rw [q] at e;cases e
  | some o=>cases o<;>(rw [q] at e;cases e)
 | _=>cases e
theorem ye {s:Ç} (I:Inv X pins σ0 H s) (hp:fO X.K X.mg H ρ G) (sq:kD X.K H p xs) (rs:aq X.K X.mg ρ H ds xs)
  (e:aQ (dg G deep) ds=À qs):∃ as,Reads s.heap (.ref p) (.list qs) as:=by
 obtain ⟨its,vs,⟨o,k,e1,e2,e3,e4⟩,_⟩:=I.list sq;obtain ⟨as,ra⟩:=readsAll (λd x u p=>bY I hp deep d x u p) ds xs its qs rs vs e;exact ⟨_,.list e1 e2 e4 (by simpa using ra)⟩
theorem tK {s:Ç} (I:Inv X pins σ0 H s) (hp:fO X.K X.mg H ρ G) (sq:kZ X.K H p xs) (rs:aq X.K X.mg ρ H ds xs)
  (e:aQ (dg G deep) ds=À qs):∃ as,Reads s.heap (.ref p) (.tuple qs) as:=by
 obtain ⟨its,vs,⟨o,e1,e2,k,e3⟩,_⟩:=I.tuple sq;obtain ⟨as,ra⟩:=readsAll (λd x u p=>bY I hp deep d x u p) ds xs its qs rs vs e;exact ⟨_,.tuple e1 e2 e3 (by simpa using ra)⟩
theorem iC {b:Bool} (h:tG d ds G=À b):∃ p qs,dg G deep d=À p∧aQ (dg G deep) ds=À qs∧p.canLay0=Á∧á qs=Á∧min (ë qs) p.depth≤580∧b=qs.any λy=>õ y p:=by
 unfold tG at h;cases e1:dg G deep d with
 | none=>rw [e1] at h;cases h
 | some p=>
  cases e2:aQ (dg G deep) ds with
  | none=>rw [e1,e2] at h;cases h
  | some qs=>
   rw [e1,e2] at h;dsimp only at h;by_cases hc:(p.canLay0&&(á qs&&decide (min (ë qs) p.depth≤580)))=Á
   ·rw [if_pos hc] at h;simp only [ā,decide_eq_true_eq] at hc;exact ⟨p,qs,rfl,rfl,hc.1,hc.2.1,hc.2.2,(ą h).symm⟩
   ·rw [if_neg hc] at h;cases h
theorem yf (hu:X.A.units+600<cLine):gB X (compareOp .In) (rD X EE (ja Â)):=by
 intro pins s σ0 H x y v u Q I rx ry zu;obtain ⟨σ,τ,ρ,G,d,e,ab,r1,r2,ok⟩:=zu;dsimp only [ja] at ok;cases q:aG G e with
 | none=>rw [q] at ok;exact ok.elim
 | some sk=>
  rw [q] at ok;cases sk with
  | lst ds=>
   dsimp only at ok;cases qb:tG d ds G with
   | none=>rw [qb] at ok;exact ok.elim
   | some b=>rw [qb] at ok;obtain ⟨p,qs,e1,e2,h1,h2,h3,rfl⟩:=iC qb;obtain ⟨l,xs,rfl,sq,rs⟩:=cT (pins:=pins) (σ0:=σ0) (s:=s) ab.hp r2 q;cases ry;obtain ⟨as,ra⟩:=bY I ab.hp deep d x v p r1 rx e1;obtain ⟨bs,rb⟩:=ye I ab.hp sq rs e2;refine SeqAt.in_list_reads rb ra h2 h1 (by nofun) ⟨.bl _,H,I,rfl,?_⟩;have:=ok (.bl _) H ρ .refl ab (by unfold Rep;rfl);simpa using this
  | tup ds=>
   dsimp only at ok;cases qb:tG d ds G with
   | none=>rw [qb] at ok;exact ok.elim
   | some b=>rw [qb] at ok;obtain ⟨p,qs,e1,e2,h1,h2,h3,rfl⟩:=iC qb;obtain ⟨l,xs,rfl,sq,rs⟩:=fH r2 q;cases ry;obtain ⟨as,ra⟩:=bY I ab.hp deep d x v p r1 rx e1;obtain ⟨bs,rb⟩:=tK I ab.hp sq rs e2;refine RQ rb ra h2 h1 (by nofun) ⟨.bl _,H,I,rfl,?_⟩;have:=ok (.bl _) H ρ .refl ab (by unfold Rep;rfl);simpa using this
  | str j=>
   obtain ⟨rfl,rfl⟩:=gE r2 q;cases d with
   | str i=>unfold Rep at r1;subst r1;refine vD pins s σ0 H _ _ v u Q I rx ry ⟨i,j,rfl,rfl,?_⟩;have:=ok (.bl _) H ρ .refl ab (by unfold Rep;rfl);simpa using this
   | _=>exact ok.elim
theorem vK (hu:X.A.units+600<cLine):gB X (compareOp .NotIn) (rD X EE (ja Á)):=by
 intro pins s σ0 H x y v u Q I rx ry zu;obtain ⟨σ,τ,ρ,G,d,e,ab,r1,r2,ok⟩:=zu;dsimp only [ja] at ok;cases q:aG G e with
 | none=>rw [q] at ok;exact ok.elim
 | some sk=>
  rw [q] at ok;cases sk with
  | lst ds=>
   dsimp only at ok;cases qb:tG d ds G with
   | none=>rw [qb] at ok;exact ok.elim
   | some b=>rw [qb] at ok;obtain ⟨p,qs,e1,e2,h1,h2,h3,rfl⟩:=iC qb;obtain ⟨l,xs,rfl,sq,rs⟩:=cT (pins:=pins) (σ0:=σ0) (s:=s) ab.hp r2 q;cases ry;obtain ⟨as,ra⟩:=bY I ab.hp deep d x v p r1 rx e1;obtain ⟨bs,rb⟩:=ye I ab.hp sq rs e2;refine SeqAt.notIn_list_reads rb ra h2 h1 (by nofun) ⟨.bl _,H,I,rfl,?_⟩;have:=ok (.bl _) H ρ .refl ab (by unfold Rep;rfl);simpa using this
  | tup ds=>
   dsimp only at ok;cases qb:tG d ds G with
   | none=>rw [qb] at ok;exact ok.elim
   | some b=>rw [qb] at ok;obtain ⟨p,qs,e1,e2,h1,h2,h3,rfl⟩:=iC qb;obtain ⟨l,xs,rfl,sq,rs⟩:=fH r2 q;cases ry;obtain ⟨as,ra⟩:=bY I ab.hp deep d x v p r1 rx e1;obtain ⟨bs,rb⟩:=tK I ab.hp sq rs e2;refine Ű rb ra h2 h1 (by nofun) ⟨.bl _,H,I,rfl,?_⟩;have:=ok (.bl _) H ρ .refl ab (by unfold Rep;rfl);simpa using this
  | str j=>
   obtain ⟨rfl,rfl⟩:=gE r2 q;cases d with
   | str i=>unfold Rep at r1;subst r1;refine o9 pins s σ0 H _ _ v u Q I rx ry ⟨i,j,rfl,rfl,?_⟩;have:=ok (.bl _) H ρ .refl ab (by unfold Rep;rfl);simpa using this
   | _=>exact ok.elim
theorem HS (hu:X.A.units+600<cLine) (ha:QE X EE a ma) (hb:QE X EE b mb) (hm:behindInMarks .In b=Â:=by first | rfl | (with_unfolding_all rfl)):QE X EE (.Compare a [.In] [b] pos) (aj (ja Â) ma mb):=x8 (yf hu) gD ha hb hm
end
section
variable {X:Cx} {EE:bz} {a b c:Expr} {ma mb mc:DS→M D} {pos:Pos}
def bO (d e:D):M D:=λG=>match e with
 | .int i=>match aG G d with
  | some (.lst xs)=>match cS xs i with
   | some v=>.ok v G
   | none=>.stuck
  | some (.tup xs)=>match cS xs i with
   | some v=>.ok v G
   | none=>.stuck
  | some (.str z)=>if z.length≤Ä then (match cS z.cps.toList i with
   | some c=>.ok (.str ⟨#[c]⟩) G
   | none=>.stuck) else .stuck
  | none=>.stuck
 | _=>.stuck
theorem qV {i:Int} (r:aq K mg ρ H ds vs) (h:cS ds i=À d):∃ v,cS vs i=À v∧Rep K mg ρ H d v:=by
 unfold cS at h ⊢;rw [← r.length];cases e:CN ds.length i with
 | none=>rw [e] at h;cases h
 | some j=>rw [e] at h;obtain ⟨v,e1,e2⟩:=r.get (show ds[j]?=À d from h);exact ⟨v,e1,e2⟩
theorem Lm:AB X (rD X EE bO):=by
 intro value slice pins s σ0 H x y v u Q I rx ry zu hs;obtain ⟨σ,τ,ρ,G,d,e,ab,r1,r2,ok⟩:=zu;cases e<;>try exact ok.elim
 rename_i i;unfold Rep at r2;subst r2;dsimp only [bO] at ok;cases q:aG G d with
 | none=>rw [q] at ok;exact ok.elim
 | some sk=>
  rw [q] at ok;cases sk with
  | lst ds=>
   dsimp only at ok;cases qa:cS ds i with
   | none=>rw [qa] at ok;exact ok.elim
   | some z=>rw [qa] at ok;obtain ⟨l,xs,rfl,sq,rs⟩:=cT (pins:=pins) (σ0:=σ0) (s:=s) ab.hp r1 q;obtain ⟨w,e1,e2⟩:=qV rs qa;exact A4 value slice pins s σ0 H _ _ v u Q I rx ry ⟨l,xs,i,w,rfl,rfl,sq,e1,ok w H ρ .refl ab e2⟩ hs
  | tup ds=>
   dsimp only at ok;cases qa:cS ds i with
   | none=>rw [qa] at ok;exact ok.elim
   | some z=>rw [qa] at ok;obtain ⟨l,xs,rfl,sq,rs⟩:=fH r1 q;obtain ⟨w,e1,e2⟩:=qV rs qa;exact Ea value slice pins s σ0 H _ _ v u Q I rx ry ⟨l,xs,i,w,rfl,rfl,sq,e1,ok w H ρ .refl ab e2⟩ hs
  | str z=>
   dsimp only at ok;obtain ⟨rfl,rfl⟩:=gE r1 q;by_cases hz:z.length≤Ä
   ·rw [if_pos hz] at ok;cases qa:cS z.cps.toList i with
    | none=>rw [qa] at ok;exact ok.elim
    | some c=>rw [qa] at ok;exact Eb value slice pins s σ0 H _ _ v u Q I rx ry ⟨z,i,c,rfl,rfl,hz,qa,ok _ H ρ .refl ab (by unfold Rep;rfl)⟩ hs
   ·rw [if_neg hz] at ok;exact ok.elim
theorem yg (ha:QE X EE a ma) (hb:QE X EE b mb) (hs:lg b:=by intro _ _;rfl):QE X EE (.Subscript a b pos) (aj bO ma mb):=HN Lm gD ha hb hs
def e7:DS→M (Option Int):=λ_=>M.ret Æ
def dU (m:DS→M D):DS→M (Option Int):=λτ=>(m τ).bind λd=>match d with
 | .int i=>M.ret (À i)
 | _=>M.stop
def NV (K:Å) (mg:Str→Option Ã) (EE:bz) (H:Hp) (σ:L2.St) (τ:DS) (ρ:List Addr):Out (Option Int)→(Option Int→Hp→Prop)→Prop
 | .stuck,_=>False
 | .ok b G',Q=>∀ H' ρ',cK K H H' ρ ρ'→Ab K mg σ H' τ ρ' G'→Q b H'
 | .bw c G',_=>∀ H' ρ',cK K H H' ρ ρ'→Ab K mg σ H' τ ρ' G'→EE c σ H'
def HU (K:Å) (mg:Str→Option Ã) (EE:bz) (m:DS→M (Option Int)):TO:=λσ H Q=>∃ τ ρ G,Ab K mg σ H τ ρ G∧NV K mg EE H σ τ ρ (m τ G) Q
def QO (X:Cx) (EE:bz) (e:Option Expr) (m:DS→M (Option Int)):Prop:=PO X e (HU X.K X.mg EE m)
theorem PO.mono {e:Option Expr} {t t':TO} (h:PO X e t) (i:∀ σ H Q,t' σ H Q→t σ H Q):PO X e t':=λpins s σ H Q I q=>h pins s σ H Q I (i _ _ _ q)
theorem Bd:QO X EE Æ e7:=PO.mono A0 λσ H Q zz=>by obtain ⟨τ,ρ,G,ab,ok⟩:=zz;exact ok H ρ .refl ab
theorem Be (ha:QE X EE a ma):QO X EE (À a) (dU ma):=PO.mono (A1 ha) λσ H Q zz=>by
 obtain ⟨τ,ρ,G,ab,ok⟩:=zz;refine ⟨τ,ρ,G,ab,?_⟩;dsimp only [dU,M.bind] at ok;cases e:ma τ G with
 | stuck=>rw [e] at ok;exact ok
 | bw c G'=>rw [e] at ok;exact ok
 | ok d G'=>
  rw [e] at ok;intro v H' ρ' f bF r;cases d<;>try exact ok.elim
  rename_i i;unfold Rep at r;exact ⟨i,r,ok H' ρ' f bF⟩
def cutD (xs:List D) (lo hi:Option Int):List D:=(xs.drop (HT.dI xs.length 0 lo)).take (HT.dI xs.length xs.length hi - HT.dI xs.length 0 lo)
def jW (d:D) (lo hi:Option Int):M D:=λG=>match aG G d with
 | some (.lst xs)=>aI (cutD xs lo hi) G
 | some (.tup xs)=>if HT.dI xs.length 0 lo=0∧HT.dI xs.length xs.length hi=xs.length then .stuck else dJ (cutD xs lo hi) G
 | some (.str z)=>if z.length≤Ä then .ok (.str (S0 z lo hi)) G else .stuck
 | none=>.stuck
def qK (m:DS→M D) (ml mh:DS→M (Option Int)):DS→M D:=λτ=>(m τ).bind λd=>(ml τ).bind λlo=>(mh τ).bind λhi=>jW d lo hi
def Ln (X:Cx) (EE:bz):V→Option Int→Option Int→Hp→VK→Prop:=λx lo hi H Q=>∃ σ τ ρ G d,Ab X.K X.mg σ H τ ρ G∧Rep X.K X.mg ρ H d x∧gR X.K X.mg EE H σ τ ρ (jW d lo hi G) Q
theorem qW (r:aq K mg ρ H ds vs) (lo hi:Option Int):aq K mg ρ H (cutD ds lo hi) (qQ vs lo hi):=by unfold cutD qQ;rw [r.length];exact (r.drop _).take _
theorem iU (x:Str) (l u:Option (Int×Tok)) (lo hi:Option Int) (hl:l.map (·.1)=lo) (hu:u.map (·.1)=hi) (t:Tok) (s:Ç) (Q:Ã→Ç→Prop) (hz:x.length≤Ä)
  (h:∀ t' k,Q (.str (S0 x lo hi) t') {s with toks:=k}):(sliceMade x t l u Æ).post Q s:=by
 subst hl hu;cases l<;>cases u<;>exact post_val_or_str ⟨Ć (Txt.slice_le x _ _) hz,λt' k=>h t' k⟩
theorem Lo:CM X (Ln X EE):=by
 intro pins s σ0 H x v vl vu lo hi sl Q I rx hs pl pu zu;obtain ⟨σ,τ,ρ,G,d,ab,r1,ok⟩:=zu;dsimp only [jW] at ok;cases q:aG G d with
 | none=>rw [q] at ok;exact ok.elim
 | some sk=>
  rw [q] at ok;cases sk with
  | lst ds=>obtain ⟨l,xs,rfl,sq,rs⟩:=cT (pins:=pins) (σ0:=σ0) (s:=s) ab.hp r1 q;exact A5 pins s σ0 H _ v vl vu lo hi sl Q I rx hs pl pu ⟨l,xs,rfl,sq,(lZ ab (qW rs lo hi) ok).2⟩
  | tup ds=>
   obtain ⟨l,xs,rfl,sq,rs⟩:=fH r1 q;dsimp only at ok;by_cases hw:HT.dI ds.length 0 lo=0∧HT.dI ds.length ds.length hi=ds.length
   ·rw [if_pos hw] at ok;exact ok.elim
   ·rw [if_neg hw] at ok;refine D9 pins s σ0 H _ v vl vu lo hi sl Q I rx hs pl pu ⟨l,xs,rfl,sq,?_,(pI ab (qW rs lo hi) ok).2⟩;rw [← rs.length];exact hw
  | str z=>
   obtain ⟨rfl,rfl⟩:=gE r1 q;dsimp only at ok;by_cases hz:z.length≤Ä
   ·rw [if_pos hz] at ok;obtain ⟨t,rfl⟩:=rx;refine ⟨"str",_,F.slot_str_getitem.lookup,typeIs_str _ _ _,?_⟩;obtain ⟨o,e1,e2,e3⟩:=hs;refine ic I.os.2 ?_;have fin:∀ t' k,0<k→EP X pins σ0 Q (.str (S0 z lo hi) t') {s with toks:=k}:=λt' k ht=>⟨.str _,H,I.tok k,⟨t',rfl⟩,ok _ H ρ .refl ab (by unfold Rep;rfl)⟩;cases pl with
    | none=>
     cases pu with
     | none=>exact ģ (l:=Æ) (u:=Æ) (st:=Æ) ⟨o,e1,e2,e3⟩ rfl (iU z Æ Æ Æ Æ rfl rfl t s _ hz fin)
     | int j tj=>exact ģ (l:=Æ) (u:=À (j,tj)) (st:=Æ) ⟨o,e1,e2,e3⟩ rfl (iU z Æ (À (j,tj)) Æ (À j) rfl rfl t s _ hz fin)
    | int i ti=>
     cases pu with
     | none=>exact ģ (l:=À (i,ti)) (u:=Æ) (st:=Æ) ⟨o,e1,e2,e3⟩ rfl (iU z (À (i,ti)) Æ (À i) Æ rfl rfl t s _ hz fin)
     | int j tj=>exact ģ (l:=À (i,ti)) (u:=À (j,tj)) (st:=Æ) ⟨o,e1,e2,e3⟩ rfl (iU z (À (i,ti)) (À (j,tj)) (À i) (À j) rfl rfl t s _ hz fin)
   ·rw [if_neg hz] at ok;exact ok.elim
theorem yh {mh:DS→M (Option Int)} (ha:QE X EE a ma) (hl:QO X EE lo ml) (hh:QO X EE hi mh):QE X EE (.Subscript a (.Slice lo hi Æ p2) pos) (qK ma ml mh):=
 PE.mono (xQ Lo ha hl hh) λσ H Q zz=>by
  obtain ⟨τ,ρ,G,ab,ok⟩:=zz;refine ⟨τ,ρ,G,ab,?_⟩;dsimp only [qK,M.bind] at ok;cases e1:ma τ G with
  | stuck=>rw [e1] at ok;exact ok
  | bw c G'=>rw [e1] at ok;exact ok
  | ok d G1=>
   rw [e1] at ok;dsimp only at ok;intro v H1 ρ1 f1 sN r1;refine ⟨τ,ρ1,G1,sN,?_⟩;cases e2:ml τ G1 with
   | stuck=>rw [e2] at ok;exact ok
   | bw c G'=>rw [e2] at ok;exact λH' ρ' f'=>ok H' ρ' (f1.trans f')
   | ok l G2=>
    rw [e2] at ok;dsimp only at ok;intro H2 ρ2 f2 cG;refine ⟨τ,ρ2,G2,cG,?_⟩;cases e3:mh τ G2 with
    | stuck=>rw [e3] at ok;exact ok
    | bw c G'=>rw [e3] at ok;exact λH' ρ' f'=>ok H' ρ' ((f1.trans f2).trans f')
    | ok u G3=>rw [e3] at ok;dsimp only at ok;intro H3 ρ3 f3 x6;exact ⟨σ,τ,ρ3,G3,d,x6,r1.mono (f2.trans f3),ok.fut ((f1.trans f2).trans f3)⟩
def gj (ma mb:DS→M Bool):DS→M Bool:=λτ=>(ma τ).bind λc=>if c then mb τ else M.ret Â
def j4 (ma mb:DS→M Bool):DS→M Bool:=λτ=>(ma τ).bind λc=>if c then M.ret Á else mb τ
def uJ (ma:DS→M Bool):DS→M Bool:=λτ=>(ma τ).bind λc=>M.ret (!c)
variable {ta tb tc:DS→M Bool} {rest:List Expr}
theorem yi (h:liftT X.K X.mg EE (gj ta tb) σ H Q):G6 (liftT X.K X.mg EE ta) (liftT X.K X.mg EE tb) σ H Q:=by
 obtain ⟨τ,ρ,G,ab,ok⟩:=tF (k:=λτ c=>if c then tb τ else M.ret Â) h;refine ⟨τ,ρ,G,ab,?_⟩;cases e:ta τ G with
 | stuck=>rw [e] at ok;exact ok
 | bw c G'=>rw [e] at ok;exact ok
 | ok k G'=>
  rw [e] at ok;intro H' ρ' f' bF;obtain ⟨τ2,ρ2,G2,cG,aO⟩:=ok H' ρ' f' bF;cases k with
  | true=>exact ⟨τ2,ρ2,G2,cG,aO⟩
  | false=>exact aO H' ρ2 .refl cG
theorem Bf (h:liftT X.K X.mg EE (j4 ta tb) σ H Q):ML (liftT X.K X.mg EE ta) (liftT X.K X.mg EE tb) σ H Q:=by
 obtain ⟨τ,ρ,G,ab,ok⟩:=tF (k:=λτ c=>if c then M.ret Á else tb τ) h;refine ⟨τ,ρ,G,ab,?_⟩;cases e:ta τ G with
 | stuck=>rw [e] at ok;exact ok
 | bw c G'=>rw [e] at ok;exact ok
 | ok k G'=>
  rw [e] at ok;intro H' ρ' f' bF;obtain ⟨τ2,ρ2,G2,cG,aO⟩:=ok H' ρ' f' bF;cases k with
  | false=>exact ⟨τ2,ρ2,G2,cG,aO⟩
  | true=>exact aO H' ρ2 .refl cG
theorem PW.mono {t:TT} (h:PW X e t) (i:∀ σ H Q,t' σ H Q→t σ H Q):PW X e t':=λwh pins s σ H Q I q=>h wh pins s σ H Q I (i _ _ _ q)
theorem Bg (ha:QT X EE a ta):QW X EE (.BoolOp .And [a] pos) ta:=AN ha
theorem ED (ha:QT X EE a ta):QW X EE (.BoolOp .Or [a] pos) ta:=DG ha
theorem EF (ha:QT X EE a ta) (hb:QW X EE (.BoolOp .And (b::rest) pos) tb):QW X EE (.BoolOp .And (a::b::rest) pos) (gj ta tb):=PW.mono (DI ha hb) λ_ _ _ h=>yi h
theorem HV (ha:QT X EE a ta) (hb:QW X EE (.BoolOp .Or (b::rest) pos) tb):QW X EE (.BoolOp .Or (a::b::rest) pos) (j4 ta tb):=PW.mono (G7 ha hb) λ_ _ _ h=>Bf h
theorem Lq (h:QW X EE e ta):QT X EE e ta:=h.pt
theorem EG (ha:QT X EE a ta):QT X EE (.UnaryOp .Not a pos) (uJ ta):=PT.mono (DJ ha) λσ H Q h=>by
 obtain ⟨τ,ρ,G,ab,ok⟩:=tF (k:=λτ c=>M.ret (!c)) h;refine ⟨τ,ρ,G,ab,?_⟩;cases e:ta τ G with
 | stuck=>rw [e] at ok;exact ok
 | bw c G'=>rw [e] at ok;exact ok
 | ok k G'=>rw [e] at ok;intro H' ρ' f' bF;obtain ⟨τ2,ρ2,G2,cG,aO⟩:=ok H' ρ' f' bF;exact aO H' ρ2 .refl cG
def dh (m:DS→M D):DS→M Bool:=λτ=>(m τ).bind λd=>match d with
 | .bl b=>M.ret b
 | _=>M.stop
theorem Bh {m:DS→M D} (h:liftT X.K X.mg EE (dh m) σ H Q):cC X.K X.mg EE m σ H λx H1=>∃ c,x=.bl c∧Q c H1:=by
 obtain ⟨τ,ρ,G,ab,ok⟩:=xY (k:=λ_ d=>match d with | .bl b=>M.ret b | _=>M.stop) h;refine ⟨τ,ρ,G,ab,?_⟩;cases e:m τ G with
 | stuck=>rw [e] at ok;exact ok
 | bw c G'=>rw [e] at ok;exact ok
 | ok d G'=>
  rw [e] at ok;intro v H' ρ' f' bF r';obtain ⟨τ2,ρ2,G2,d2,cG,r2,aO⟩:=ok v H' ρ' f' bF r';cases d2<;>try exact aO.elim
  rename_i k;unfold Rep at r2;exact ⟨k,r2,aO H' ρ2 .refl cG⟩
theorem EH (ho:gB X (compareOp op) (rD X EE f)) (ha:QE X EE a ma) (hb:QE X EE b mb) (hm:behindInMarks op b=Â):QT X EE (.Compare a [op] [b] pos) (dh (aj f ma mb)):=
 PT.mono (AX ho ha hb hm) λσ H Q h=>by have h1:=Bh h;exact ly gD h1
theorem CO {g:Ã→Ã→Sem Ã} {r:R2} (ho:gB X g r) (hd:xZ X EE r f):gB X g (rD X EE f):=λpins s σ H x y v u Q I rx ry q=>ho pins s σ H x y v u Q I rx ry (HQ hd q)
theorem EI:gB X (compareOp .Lt) (rD X EE om):=CO Hr (qT λ_ _ _ _=>by unfold Rep;rfl)
theorem EJ:gB X (compareOp .Gt) (rD X EE ya):=CO Hs (qT λ_ _ _ _=>by unfold Rep;rfl)
def NW (t:DS→M Bool) (ma mb:DS→M D):DS→M D:=λτ=>(t τ).bind λc=>if c then ma τ else mb τ
def EK (ma mb:DS→M D):DS→M D:=λτ=>(ma τ).bind λd=>match d with
 | .bl Á=>mb τ
 | .bl Â=>M.ret (.bl Â)
 | _=>M.stop
def NX (ma mb:DS→M D):DS→M D:=λτ=>(ma τ).bind λd=>match d with
 | .bl Â=>mb τ
 | .bl Á=>M.ret (.bl Á)
 | _=>M.stop
theorem EL {op} (h:QE X EE a ma):QE X EE (.BoolOp op [a] pos) ma:=DK h
theorem EM (ha:QE X EE a ma) (hb:QE X EE (.BoolOp .And (b::rest) pos) mb):QE X EE (.BoolOp .And (a::b::rest) pos) (EK ma mb):=PE.mono (DL ha hb) λσ H Q h=>by
 obtain ⟨τ,ρ,G,ab,ok⟩:=fj (k:=λτ d=>match d with | .bl Á=>mb τ | .bl Â=>M.ret (.bl Â) | _=>M.stop) h;refine ⟨τ,ρ,G,ab,?_⟩;cases e:ma τ G with
 | stuck=>rw [e] at ok;exact ok
 | bw c G'=>rw [e] at ok;exact ok
 | ok k G'=>
  rw [e] at ok;intro v H' ρ' f' bF r';obtain ⟨τ2,ρ2,G2,d2,cG,r2,aO⟩:=ok v H' ρ' f' bF r';cases d2<;>try exact aO.elim
  rename_i k;unfold Rep at r2;refine ⟨k,r2,?_⟩;cases k with
  | true=>exact ⟨τ2,ρ2,G2,cG,aO⟩
  | false=>exact aO _ H' ρ2 .refl cG (by unfold Rep;rfl)
def tL (ma:DS→M D):DS→M D:=λτ=>(ma τ).bind λd=>match d with
 | .int i=>M.ret (.int (-i))
 | _=>M.stop
theorem EN (ha:QE X EE a ma):QE X EE (.UnaryOp .USub a pos) (tL ma):=PE.mono (Ho DZ ha) λσ H Q h=>by
 obtain ⟨τ,ρ,G,ab,ok⟩:=fj (k:=λτ d=>match d with | .int i=>M.ret (.int (-i)) | _=>M.stop) h;refine ⟨τ,ρ,G,ab,?_⟩;cases e:ma τ G with
 | stuck=>rw [e] at ok;exact ok
 | bw c G'=>rw [e] at ok;exact ok
 | ok k G'=>
  rw [e] at ok;intro v H' ρ' f' bF r';obtain ⟨τ2,ρ2,G2,d2,cG,r2,aO⟩:=ok v H' ρ' f' bF r';cases d2<;>try exact aO.elim
  rename_i k;unfold Rep at r2;exact ⟨k,r2,aO _ H' ρ2 .refl cG (by unfold Rep;rfl)⟩
end
section
variable {X:Cx} {EE:bz} {a b c:Expr} {ma mb mc:DS→M D} {pos:Pos} {ta tb tc:DS→M Bool} {ms mt:MS}
def aL:MS:=λτ G=>.nx τ G
def aC (m k:MS):MS:=λτ G=>match m τ G with
 | .nx τ' G'=>k τ' G'
 | r=>r
theorem Bj:lq X EE [] aL:=uB.mono AO λD σ H zz=>by obtain ⟨τ,ρ,G,ab,ok⟩:=zz;exact ok σ H ρ .refl ab
theorem yj (h:gi X.K X.mg EE (aC ms mt) Dd σ H):Hf (gi X.K X.mg EE ms) (gi X.K X.mg EE mt) Dd σ H:=by
 obtain ⟨τ,ρ,G,ab,ok⟩:=h;refine ⟨τ,ρ,G,ab,?_⟩;dsimp only [aC] at ok;cases e:ms τ G with
 | nx τ' G'=>rw [e] at ok;exact λσ' H' ρ' f bF=>⟨τ',ρ',G',bF,ok.fut f⟩
 | stuck=>rw [e] at ok;exact ok
 | rt d G=>rw [e] at ok;exact ok
 | bk τ G=>rw [e] at ok;exact ok
 | ct τ G=>rw [e] at ok;exact ok
 | xn c τ G=>rw [e] at ok;exact ok
theorem yk {st:Stmt} {rest:List Stmt} (h1:QS X EE st ms) (h2:lq X EE rest mt):lq X EE (st::rest) (aC ms mt):=uB.mono (xF h1 h2) λ_ _ _ h=>yj h
theorem Bk {st:Stmt} (h1:QS X EE st ms):lq X EE [st] ms:=AQ h1
def iD (m:DS→M D):MS:=λτ=>bP (m τ) (λ_ G=>.nx τ G) λc G=>.xn c τ G
def bg (m:DS→M D):MS:=λτ=>bP (m τ) (λd G=>.rt d G) λc G=>.xn c τ G
def HW:MS:=λ_ G=>.rt .dR G
def aY (i:Nat) (m:DS→M D):MS:=λτ=>bP (m τ) (λd G=>.nx (τ.set i (À d)) G) λc G=>.xn c τ G
def fJ (t:DS→M Bool) (ma mb:MS):MS:=λτ=>bP (t τ) (λc G=>if c then ma τ G else mb τ G) λc G=>.xn c τ G
theorem Bl (he:QE X EE a ma) (hs:swapsWith a Æ pos.line X.env=pure Â:=by rfl):QS X EE (.Expr a pos) (iD ma):=PS.mono (AR he hs) λD σ H h=>by
 obtain ⟨τ,ρ,G,ab,ok⟩:=pH (k:=λτ d G=>.nx τ G) h;refine ⟨τ,ρ,G,ab,?_⟩;cases e:ma τ G with
 | stuck=>rw [e] at ok;exact ok
 | bw c G'=>rw [e] at ok;exact ok
 | ok d G'=>rw [e] at ok;intro v H' ρ' f' bF r';obtain ⟨τ2,ρ2,G2,d2,cG,r2,aO⟩:=ok v H' ρ' f' bF r';exact aO σ H' ρ2 .refl cG
theorem EO (he:QE X EE a ma):QS X EE (.Return (À a) pos) (bg ma):=PS.mono (DM he) λD σ H h=>by
 obtain ⟨τ,ρ,G,ab,ok⟩:=pH (k:=λτ d G=>.rt d G) h;refine ⟨τ,ρ,G,ab,?_⟩;cases e:ma τ G with
 | stuck=>rw [e] at ok;exact ok
 | bw c G'=>rw [e] at ok;exact ok
 | ok d G'=>rw [e] at ok;intro v H' ρ' f' bF r';obtain ⟨τ2,ρ2,G2,d2,cG,r2,aO⟩:=ok v H' ρ' f' bF r';exact aO v H' ρ2 .refl cG.hp r2
theorem Ab.set (ab:Ab K mg σ H τ ρ G) (r:Rep K mg ρ H d v):Ab K mg (σ.set i (À v)) H (τ.set i (À d)) ρ G:=⟨ab.st.set r,ab.hp⟩
theorem ER {pos':Pos} (hN:X.N.Nodup) (he:QE X EE a ma) (hi:X.N[i]?=À x:=by rfl) (hx:Loc X.env.scope x:=by first | exact SV rfl | exact R9 rfl)
  (hs:swapsWith a (À (.Name x pos')) pos.line X.env=pure Â:=by rfl) (hf:X.fn x=Á∨X.env.scope.names.lookup x=À .local:=by first | exact .inl rfl | exact .inr rfl | assumption) :
  QS X EE (.Assign [.Name x pos'] a pos) (aY i ma):=PS.mono (DQ hN hi hx he hs hf) λD σ H h=>by
 obtain ⟨τ,ρ,G,ab,ok⟩:=pH (k:=λτ d G=>.nx (τ.set i (À d)) G) h;refine ⟨τ,ρ,G,ab,?_⟩;cases e:ma τ G with
 | stuck=>rw [e] at ok;exact ok
 | bw c G'=>rw [e] at ok;exact ok
 | ok d G'=>rw [e] at ok;intro v H' ρ' f' bF r';obtain ⟨τ2,ρ2,G2,d2,cG,r2,aO⟩:=ok v H' ρ' f' bF r';exact aO _ H' ρ2 .refl (cG.set r2)
theorem HX (hc:QT X EE c tc) (ha:lq X EE body ms) (hb:lq X EE els mt):QS X EE (.If c body els pos) (fJ tc ms mt):=PS.mono (Hh hc ha hb) λD σ H h=>by
 obtain ⟨τ,ρ,G,ab,ok⟩:=Eo (k:=λτ c G=>if c then ms τ G else mt τ G) h;refine ⟨τ,ρ,G,ab,?_⟩;cases e:tc τ G with
 | stuck=>rw [e] at ok;exact ok
 | bw c G'=>rw [e] at ok;exact ok
 | ok k G'=>
  rw [e] at ok;intro H' ρ' f' bF;obtain ⟨τ2,ρ2,G2,cG,aO⟩:=ok H' ρ' f' bF;cases k with
  | true=>exact ⟨τ2,ρ2,G2,cG,aO⟩
  | false=>exact ⟨τ2,ρ2,G2,cG,aO⟩
abbrev kF:=D→DS→Option DS
def uK (K:Å) (mg:Str→Option Ã) (g:kF):TG:=λv σ H Q=>∃ τ ρ G d τ',Ab K mg σ H τ ρ G∧Rep K mg ρ H d v∧g d τ=À τ'∧∀ σ',Ab K mg σ' H τ' ρ G→Q σ' H
def QG (X:Cx) (e:Expr) (g:kF):Prop:=PG X e (uK X.K X.mg g)
def gN (i:Nat):kF:=λd τ=>À (τ.set i (À d))
theorem Bm (hN:X.N.Nodup) (hi:X.N[i]?=À x:=by rfl) (hx:Loc X.env.scope x:=by first | exact SV rfl | exact R9 rfl) (hf:X.fn x=Á∨X.env.scope.names.lookup x=À .local:=by first | exact .inl rfl | exact .inr rfl | assumption) :
  QG X (.Name x pos) (gN i):=λpins s σ H v u Q I r ⟨τ,ρ,G,d,τ',ab,rd,e,q⟩=>AS hN hi hx hf pins s σ H v u Q I r (by
 cases e;exact q _ (ab.set rd))
def bZ (g:kF) (body:MS):List D→MS
 | [],τ,G=>.nx τ G
 | d::r,τ,G=>match g d τ with
  | none=>.stuck
  | some τ1=>match body τ1 G with
   | .nx τ' G'=>bZ g body r τ' G'
   | .ct τ' G'=>bZ g body r τ' G'
   | .bk τ' G'=>.nx τ' G'
   | x=>x
def pJ (g:kF) (body:MS) (n:Nat):Nat→Nat→MS
 | 0,_,_,_=>.stuck
 | f+1,k,τ,G=>match G[n]? with
  | some (.lst xs)=>match xs[k]? with
   | none=>.nx τ G
   | some d=>match g d τ with
    | none=>.stuck
    | some τ1=>match body τ1 G with
     | .nx τ' G'=>pJ g body n f (k+1) τ' G'
     | .ct τ' G'=>pJ g body n f (k+1) τ' G'
     | .bk τ' G'=>.nx τ' G'
     | x=>x
  | _=>.stuck
end
def Bo (z:Str):It:=⟨λi _=>i<z.cps.size,λi H x H'=>H'=H∧∃ c,z.cps[i]?=À c∧x=.str ⟨#[c]⟩,λi _=>z.cps.size≤i⟩
theorem yl (z:Str) (t:Tok) (it:Addr):Turn P w K tg (Bo z) [it] it (λi h=>h.IsStrIter it (strIterType z) z t i) where
 mem:=by simp
 obj:=λi h st b hb=>by
  have e:b=it:=by simpa using hb
  subst e;obtain ⟨o,e,c,d⟩:=st;exact ⟨o,e,λv z=>by rw [d] at z;cases z⟩
 keep:=λi h h' st k=>by obtain ⟨o,e,r⟩:=st;exact ⟨o,k it (by simp) o e,r⟩
 item:=by
  intro X hP hw hK hc i pins s σ H E I hf st hg;subst hP hw hK;obtain ⟨f0,f1,f2,f3,f4,f5⟩:=hf it (by simp);have hx:z.cps[i]?=À z.cps[i]:=Š hg
  have fin:∀ h',h'.IsStrIter it (strIterType z) z t (i+1)→Ĵ it s.heap h'→∃ u,À (Value.str ⟨#[z.cps[i]]⟩ s.toks)=À u ∧
   Û (model X.prog X.w) X.A (letOwnedTupleGo tg (.ref it) u) (λ_ s2=>∃ x H',Inv X pins σ H' s2∧RelV x u∧(Bo z).qN i H x H'∧s2.heap.IsStrIter it (strIterType z) z t (i+1)∧∀ b∈[it],H' b=Æ) E {s with heap:=h',toks:=s.toks+1}:=λh' st' sb=>by
   have I1:Inv X pins σ H {s with heap:=h',toks:=s.toks+1}:=I.turned (t':=s.toks+1) (λb o hb e=>(sb.2 b hb).trans e) f0 f1 f3 f4 f5;obtain ⟨o,e,c,d⟩:=id st';refine ⟨_,rfl,uD (s:={s with heap:=h',toks:=s.toks+1}) e c d ?_ ⟨.str ⟨#[z.cps[i]]⟩,H,I1,⟨_,rfl⟩,⟨rfl,_,hx,rfl⟩,st',λb hb=>(hf b hb).1⟩⟩;unfold strIterType;split<;>decide
  cases ha:z.cps.all (·<128) with
  | true=>
   have e:strIterType z="str_ascii_iterator":=by unfold strIterType;rw [ha];rfl
   rw [e] at st fin;exact wpAny_pyNext_ascii_item st hx λh' st' sb=>by rw [e];exact fin h' st' sb
  | false=>
   have e:strIterType z="str_iterator":=by unfold strIterType;rw [ha];rfl
   rw [e] at st fin;exact wpAny_pyNext_wide_item st hx λh' st' sb=>by rw [e];exact fin h' st' sb
 done:=by
  intro X hP hw hK hc i pins s σ H E I hf st hg;subst hP hw hK;obtain ⟨f0,f1,f2,f3,f4,f5⟩:=hf it (by simp);have hx:z.cps[i]?=Æ:=Array.getElem?_eq_none hg;have fin:∀ h',Heap.ExtBut it s.heap h'→(Æ:Option Ã)=Æ∧Inv X pins σ H {s with heap:=h'}:=λh' eb=>⟨rfl,I.turned (t':=s.toks) (λb o hb e=>eb b o hb e) f0 f1 f3 f4 f5⟩;cases ha:z.cps.all (·<128) with
  | true=>
   have e:strIterType z="str_ascii_iterator":=by unfold strIterType;rw [ha];rfl
   rw [e] at st;exact wpAny_pyNext_ascii_end (I.ok.hd hc) st hx fin
  | false=>
   have e:strIterType z="str_iterator":=by unfold strIterType;rw [ha];rfl
   rw [e] at st;exact wpAny_pyNext_wide_end (I.ok.hd hc) st hx fin
 self:=λA i s Q E st h=>by
  cases ha:z.cps.all (·<128) with
  | true=>
   have e:strIterType z="str_ascii_iterator":=by unfold strIterType;rw [ha];rfl
   rw [e] at st;exact wpAny_pyIter_striter_ascii st h
  | false=>
   have e:strIterType z="str_iterator":=by unfold strIterType;rw [ha];rfl
   rw [e] at st;exact wpAny_pyIter_striter_wide st h
section
variable {X:Cx} {EE:bz} {a b c tg:Expr} {ma mb mc:DS→M D} {pos:Pos} {ms mt:MS}
def j5 (g:kF) (m:DS→M D) (body:MS):MS:=λτ=>bP (m τ) (λd G=>match d with
 | .obj n=>match G[n]? with
  | some (.lst xs)=>pJ g body n (xs.length+1) 0 τ G
  | _=>.stuck
 | .tup xs=>bZ g body xs τ G
 | .con xs=>bZ g body xs τ G
 | .str z=>bZ g body (z.cps.toList.map λc=>.str ⟨#[c]⟩) τ G
 | _=>.stuck) λc G=>.xn c τ G
theorem iV {g:kF} {body:MS} {Dd:Ends} {J:It} {H0:Hp} {σ0:L2.St} {ρ0:List Addr} {G0:DH} {τ0:DS} (ds:List D)
  (go:∀ i H ρ,i<ds.length→cK X.K H0 H ρ0 ρ→J.go i H) (stop:∀ i H ρ,ds.length≤i→cK X.K H0 H ρ0 ρ→J.stop i H)
  (qN:∀ i d H ρ x H',ds[i]?=À d→cK X.K H0 H ρ0 ρ→J.qN i H x H'→H'=H∧Rep X.K X.mg ρ H d x)
  (ab:Ab X.K X.mg σ0 H0 τ0 ρ0 G0) (ok:qS X.K X.mg EE H0 ρ0 Dd (bZ g body ds τ0 G0)) :
  ∃ W:Nat→Nat→L2.St→Hp→Prop,(∃ m,W 0 m σ0 H0)∧∀ i m σ H,W i m σ H →
   (J.stop i H∧Dd.nx σ H)∨(J.go i H∧∃ N:L2.St→Hp→Prop,(∀ σ' H',N σ' H'→∃ m',m'<m∧W (i+1) m' σ' H')∧∀ x H',J.qN i H x H'→uK X.K X.mg g x σ H' λσ2 H2=>gi X.K X.mg EE body {Dd with nx:=N,ct:=N,bk:=Dd.nx} σ2 H2):=by
 refine ⟨λi m σ H=>i≤ds.length∧m=ds.length - i∧∃ τ ρ G,Ab X.K X.mg σ H τ ρ G∧cK X.K H0 H ρ0 ρ∧qS X.K X.mg EE H ρ Dd (bZ g body (ds.drop i) τ G),⟨ds.length,ŀ _,rfl,τ0,ρ0,G0,ab,.refl,by simpa using ok⟩,?_⟩;rintro i m σ H ⟨hi,rfl,τ,ρ,G,ab,f,ok⟩;by_cases hlt:i<ds.length
 ·refine .inr ⟨go i H ρ hlt f,λσ' H'=>∃ τ' ρ' G',Ab X.K X.mg σ' H' τ' ρ' G'∧cK X.K H0 H' ρ0 ρ'∧qS X.K X.mg EE H' ρ' Dd (bZ g body (ds.drop (i+1)) τ' G'),λσ' H' n=>⟨ds.length - (i+1),by nofun,hlt,rfl,n⟩,λx H' y=>?_⟩;obtain ⟨rfl,rx⟩:=qN i ds[i] H ρ x H' (Ð hlt) f y;rw [š hlt] at ok;unfold bZ at ok;cases e:g ds[i] τ with
  | none=>rw [e] at ok;exact ok.elim
  | some τ1=>
   rw [e] at ok;dsimp only at ok;refine ⟨τ,ρ,G,ds[i],τ1,ab,rx,e,λσ' bF=>⟨τ1,ρ,G,bF,?_⟩⟩;cases eb:body τ1 G with
   | stuck=>rw [eb] at ok;exact ok
   | nx τ2 G2=>rw [eb] at ok;exact λσ2 H2 ρ2 f2 cG=>⟨τ2,ρ2,G2,cG,f.trans f2,ok.fut f2⟩
   | ct τ2 G2=>rw [eb] at ok;exact λσ2 H2 ρ2 f2 cG=>⟨τ2,ρ2,G2,cG,f.trans f2,ok.fut f2⟩
   | bk τ2 G2=>rw [eb] at ok;exact ok
   | rt d G2=>rw [eb] at ok;exact ok
   | xn c τ2 G2=>rw [eb] at ok;exact ok
 ·have e:i=ds.length:=by nofun
  subst e;refine .inl ⟨stop _ H ρ (Ó _) f,?_⟩;rw [Ÿ (Ó _)] at ok;exact ok σ H ρ .refl ab
theorem Bp {g:kF} {body:MS} {Dd:Ends} {H0:Hp} {σ0:L2.St} {G0:DH} {τ0:DS} {fuel:Nat} (hn:ρ0[n]?=À p)
  (ab:Ab X.K X.mg σ0 H0 τ0 ρ0 G0) (ok:qS X.K X.mg EE H0 ρ0 Dd (pJ g body n fuel 0 τ0 G0)) :
  ∃ W:Nat→Nat→L2.St→Hp→Prop,(∃ m,W 0 m σ0 H0)∧∀ i m σ H,W i m σ H →
   ((AA X.K p).stop i H∧Dd.nx σ H)∨((AA X.K p).go i H∧∃ N:L2.St→Hp→Prop,(∀ σ' H',N σ' H'→∃ m',m'<m∧W (i+1) m' σ' H')∧∀ x H',(AA X.K p).qN i H x H'→uK X.K X.mg g x σ H' λσ2 H2=>gi X.K X.mg EE body {Dd with nx:=N,ct:=N,bk:=Dd.nx} σ2 H2):=by
 refine ⟨λi m σ H=>∃ τ ρ G,Ab X.K X.mg σ H τ ρ G∧cK X.K H0 H ρ0 ρ∧qS X.K X.mg EE H ρ Dd (pJ g body n m i τ G),⟨fuel,τ0,ρ0,G0,ab,.refl,ok⟩,?_⟩;rintro i m σ H ⟨τ,ρ,G,ab,f,ok⟩;cases m with
 | zero=>exact ok.elim
 | succ m=>
  unfold pJ at ok;cases q:G[n]? with
  | none=>rw [q] at ok;exact ok.elim
  | some o=>
   cases o with
   | lst ds=>
    rw [q] at ok;dsimp only at ok;obtain ⟨p',xs,e1,e2,rs⟩:=ab.hp.lst q;rw [f.get hn] at e1;cases e1;cases qd:ds[i]? with
    | none=>
     rw [qd] at ok;have hl:xs.length≤i:=by rw [← rs.length];exact Ţ.mp qd
     exact .inl ⟨⟨xs,.of e2,hl⟩,ok σ H ρ .refl ab⟩
    | some d=>
     rw [qd] at ok;dsimp only at ok;obtain ⟨x0,ex,rx⟩:=rs.get qd;refine .inr ⟨⟨xs,x0,.of e2,ex⟩,λσ' H'=>∃ τ' ρ' G',Ab X.K X.mg σ' H' τ' ρ' G'∧cK X.K H0 H' ρ0 ρ'∧qS X.K X.mg EE H' ρ' Dd (pJ g body n m (i+1) τ' G'),λσ' H' z=>⟨m,ű _,z⟩,λx H' y=>?_⟩;obtain ⟨rfl,y⟩:=y;have e3:=y xs (.of e2);rw [ex] at e3;cases e3;cases e:g d τ with
     | none=>rw [e] at ok;exact ok.elim
     | some τ1=>
      rw [e] at ok;dsimp only at ok;refine ⟨τ,ρ,G,d,τ1,ab,rx,e,λσ' bF=>⟨τ1,ρ,G,bF,?_⟩⟩;cases eb:body τ1 G with
      | stuck=>rw [eb] at ok;exact ok
      | nx τ2 G2=>rw [eb] at ok;exact λσ2 H2 ρ2 f2 cG=>⟨τ2,ρ2,G2,cG,f.trans f2,ok.fut f2⟩
      | ct τ2 G2=>rw [eb] at ok;exact λσ2 H2 ρ2 f2 cG=>⟨τ2,ρ2,G2,cG,f.trans f2,ok.fut f2⟩
      | bk τ2 G2=>rw [eb] at ok;exact ok
      | rt d G2=>rw [eb] at ok;exact ok
      | xn c τ2 G2=>rw [eb] at ok;exact ok
   | _=>first | (rw [q] at ok;exact ok.elim) | (rw [q] at aO;exact aO.elim) | (rw [q] at e;cases e;done) | (rw [g] at ok;exact ok.elim) | (rw [g] at q;cases q;done) | (rw [g] at h;cases h;done) | (rw [g2] at ok;exact ok.elim) | (rw [g1,g2] at ok;exact ok.elim) | (rw [q1] at ok;exact ok.elim) | exact ok.elim
theorem PI.any {l:Expr} {tl:TE} (hl:PE X l tl):PI X tg l (λσ H R=>tl σ H λx H1=>(∃ p,x=.ref p∧(∃ xs,kD X.K H1 p xs)∧R (AA X.K p) H1)∨(∃ p,x=.ref p∧(∃ xs,kZ X.K H1 p xs)∧R (JY X.K p) H1)∨∃ z,x=.str z∧R (Bo z) H1):=by
 intro pins s σ H R I h;refine eE (hl pins s σ H _ I h) λu s1 zz=>?_;obtain ⟨x,H1,I1,r1,q⟩:=zz;rcases q with ⟨p,rfl,⟨xs,sq⟩,q⟩ | ⟨p,rfl,⟨xs,sq⟩,q⟩ | ⟨z,rfl,q⟩
 ·cases r1;obtain ⟨its,rv,pl,hz⟩:=I1.list sq;refine Sm pl.isList ?_;have I2:Inv X pins σ H1 {s1 with heap:=s1.heap.push {cls:=.type "list_iterator",data:=.fields #[.ref p,.int 0 0]}}:=I1.kept (t':=s1.toks) λb o e=>Î _ e;refine ⟨s1.heap.objs.size,[s1.heap.objs.size],_,AA X.K p,H1,rfl,I2,vB p _,⟨_,ç _ rfl,rfl,rfl⟩,λb hb=>?_,q⟩;have e:b=s1.heap.objs.size:=by simpa using hb
  subst e;exact I1.AU (Ó _) (I1.hok.fresh (Ó _))
 ·cases r1;obtain ⟨its,rv,pl,hz⟩:=I1.tuple sq;refine wpAny_pyIter_tuple pl ?_;have I2:Inv X pins σ H1 {s1 with heap:=s1.heap.push {cls:=.type "tuple_iterator",data:=.fields #[.ref p,.int 0 0]}}:=I1.kept (t':=s1.toks) λb o e=>Î _ e;refine ⟨s1.heap.objs.size,[s1.heap.objs.size],_,JY X.K p,H1,rfl,I2,sU p _,⟨_,ç _ rfl,rfl,rfl⟩,λb hb=>?_,q⟩;have e:b=s1.heap.objs.size:=by simpa using hb
  subst e;exact I1.AU (Ó _) (I1.hok.fresh (Ó _))
 ·obtain ⟨t,rfl⟩:=r1;refine wpAny_pyIter_strU ?_;have I2:Inv X pins σ H1 {s1 with heap:=s1.heap.push {cls:=.type (strIterType z),data:=.fields #[.str z t,.int 0 0]}}:=I1.kept (t':=s1.toks) λb o e=>Î _ e;refine ⟨s1.heap.objs.size,[s1.heap.objs.size],_,Bo z,H1,rfl,I2,yl z t _,⟨_,ç _ rfl,rfl,rfl⟩,λb hb=>?_,q⟩;have e:b=s1.heap.objs.size:=by simpa using hb
  subst e;exact I1.AU (Ó _) (I1.hok.fresh (Ó _))
theorem ES {g:kF} (hp:PassesOwn (model X.prog X.w) X.A X.env X.xe) (hc:X.calm=Á) (ha:QE X EE a ma) (hg:QG X tg g) (hb:lq X EE body ms) (hs:∀ x,foldedSetIterable a X.env x=pure x:=by intro _;rfl) :
  QS X EE (.For tg a body [] pos) (j5 g ma ms):=PS.mono (xH hp hc (PI.any ha) hg hb hs) λDd σ H h=>by
 obtain ⟨τ,ρ,G,ab,ok⟩:=pH (k:=λτ d G=>match d with
  | .obj n=>match G[n]? with
   | some (.lst xs)=>pJ g ms n (xs.length+1) 0 τ G
   | _=>.stuck
  | .tup xs=>bZ g ms xs τ G
  | .con xs=>bZ g ms xs τ G
  | .str z=>bZ g ms (z.cps.toList.map λc=>.str ⟨#[c]⟩) τ G
  | _=>.stuck) h
 refine ⟨τ,ρ,G,ab,?_⟩;cases e:ma τ G with
 | stuck=>rw [e] at ok;exact ok
 | bw c G'=>rw [e] at ok;exact ok
 | ok d G'=>
  rw [e] at ok;intro v H1 ρ1 f1 sN r1;obtain ⟨τ2,ρ2,G2,d2,cG,r2,aO⟩:=ok v H1 ρ1 f1 sN r1;cases d2<;>try exact aO.elim
  case obj n=>
   dsimp only at aO;unfold Rep at r2;obtain ⟨p,rfl,e1⟩:=r2;cases q:G2[n]? with
   | none=>rw [q] at aO;exact aO.elim
   | some o=>
    cases o with
    | lst xs=>rw [q] at aO;obtain ⟨p',vs,e2,h2,rs⟩:=cG.hp.lst q;rw [e1] at e2;cases e2;exact .inl ⟨p,rfl,⟨vs,.of h2⟩,Bp e1 cG aO⟩
    | _=>first | (rw [q] at ok;exact ok.elim) | (rw [q] at aO;exact aO.elim) | (rw [q] at e;cases e;done) | (rw [g] at ok;exact ok.elim) | (rw [g] at q;cases q;done) | (rw [g] at h;cases h;done) | (rw [g2] at ok;exact ok.elim) | (rw [g1,g2] at ok;exact ok.elim) | (rw [q1] at ok;exact ok.elim) | exact ok.elim
  case tup xs=>
   unfold Rep at r2;obtain ⟨p,vs,rfl,sq,rs⟩:=r2;refine .inr (.inl ⟨p,rfl,⟨vs,sq⟩,iV xs (λi H' ρ' hi f=>?_) (λi H' ρ' hi f=>?_) (λi d' H' ρ' x HY hd f y=>?_) cG aO⟩)
   ·rw [rs.length] at hi;exact ⟨vs,vs[i],f.tup _ _ sq,Ð hi⟩
   ·exact ⟨vs,f.tup _ _ sq,by rw [← rs.length];exact hi⟩
   ·obtain ⟨rfl,y⟩:=y;obtain ⟨w',ew,rw'⟩:=rs.get hd;have:=y vs (f.tup _ _ sq);rw [ew] at this;cases this;exact ⟨rfl,rw'.mono f⟩
  case con xs=>
   unfold Rep at r2;obtain ⟨p,vs,rfl,sq,rs⟩:=r2;refine .inl ⟨p,rfl,⟨vs,sq.seq⟩,iV xs (λi H' ρ' hi f=>?_) (λi H' ρ' hi f=>?_) (λi d' H' ρ' x HY hd f y=>?_) cG aO⟩
   ·rw [rs.length] at hi;exact ⟨vs,vs[i],(f.con _ _ sq).seq,Ð hi⟩
   ·exact ⟨vs,(f.con _ _ sq).seq,by rw [← rs.length];exact hi⟩
   ·obtain ⟨rfl,y⟩:=y;obtain ⟨w',ew,rw'⟩:=rs.get hd;have:=y vs (f.con _ _ sq).seq;rw [ew] at this;cases this;exact ⟨rfl,rw'.mono f⟩
  case str z=>
   unfold Rep at r2;subst r2;refine .inr (.inr ⟨z,rfl,iV (z.cps.toList.map λc=>.str ⟨#[c]⟩) (λi H' ρ' hi f=>?_) (λi H' ρ' hi f=>?_) (λi d' H' ρ' x HY hd f y=>?_) cG aO⟩)
   ·simpa [Bo] using hi
   ·simpa [Bo] using hi
   ·obtain ⟨rfl,c,hc,rfl⟩:=y;rw [å] at hd;have:z.cps.toList[i]?=À c:=by simpa using hc
    rw [this] at hd;cases hd;exact ⟨rfl,by unfold Rep;rfl⟩
def fk:List D→Option (List D)
 | [.int j]=>if -(2^62)≤j∧j<2^62 then À ((ĥ j.toNat).map λ(k:Nat)=>.int (0+(k:Int))) else Æ
 | _=>Æ
def eY (uA:List D→Option (List D)) (g:kF) (m:DS→M (List D)) (body:MS):MS:=λτ=>bP (m τ) (λds G=>match uA ds with
 | some xs=>bZ g body xs τ G
 | none=>.stuck) λc G=>.xn c τ G
theorem ym {k:DS→List D→DH→Res} (h:gi K mg EE (λτ=>bP (m τ) (k τ) λc G=>.xn c τ G) Dd σ H) :
  oi K mg EE m σ H λx H1=>∃ τ ρ G d,Ab K mg σ H1 τ ρ G∧aq K mg ρ H1 d x∧qS K mg EE H1 ρ Dd (k τ d G):=by
 obtain ⟨τ,ρ,G,ab,ok⟩:=h;refine ⟨τ,ρ,G,ab,?_⟩;dsimp only [bP] at ok;cases e:m τ G with
 | stuck=>rw [e] at ok;exact ok
 | bw c G'=>rw [e] at ok;exact λH' ρ' f bF=>ok σ H' ρ' f bF
 | ok d G'=>rw [e] at ok;exact λv H' ρ' f bF r=>⟨τ,ρ',G',d,bF,r,ok.fut f⟩
theorem vL {g:kF} {body:MS} {G0:DH} {τ0:DS} (lo:Int) (n:Nat) (ab:Ab X.K X.mg σ0 H0 τ0 ρ0 G0) (ok:qS X.K X.mg EE H0 ρ0 Dd (bZ g body ((ĥ n).map λ(k:Nat)=>.int (lo+(k:Int))) τ0 G0)) :
  ∃ W:Nat→Nat→L2.St→Hp→Prop,(∃ m,W 0 m σ0 H0)∧∀ i m σ H,W i m σ H →
   ((sS lo n).stop i H∧Dd.nx σ H)∨((sS lo n).go i H∧∃ N:L2.St→Hp→Prop,(∀ σ' H',N σ' H'→∃ m',m'<m∧W (i+1) m' σ' H')∧∀ x H',(sS lo n).qN i H x H'→uK X.K X.mg g x σ H' λσ2 H2=>gi X.K X.mg EE body {Dd with nx:=N,ct:=N,bk:=Dd.nx} σ2 H2):=
 iV (J:=sS lo n) _ (λi H ρ hi f=>by simpa [sS] using hi) (λi H ρ hi f=>by simpa [sS] using hi) (λi d H ρ x H' hd f y=>by
  obtain ⟨rfl,rfl⟩:=y;rw [å] at hd;cases q:(ĥ n)[i]? with
  | none=>rw [q] at hd;cases hd
  | some k=>rw [q] at hd;obtain ⟨hk,e⟩:=É.mp q;rw [Sa] at e;subst e;cases hd;exact ⟨rfl,by unfold Rep;rfl⟩) ab ok
theorem yo {g:kF} {p pc:Pos} (hp:PassesOwn (model X.prog X.w) X.A X.env X.xe) (hc:X.calm=Á) (hm:X.mg "range"=Æ) (ha:QA X EE [a] m) (hg:QG X tg g) (hb:lq X EE body ms)
  (ET:Gl X "range":=by rfl) (hst:Ô [a] X.env=[(Â,eval a X.env)]:=by rfl) (hs:∀ x,foldedSetIterable (.Call (.Name "range" p) [a] [] pc) X.env x=pure x:=by intro _;rfl) :
  QS X EE (.For tg (.Call (.Name "range" p) [a] [] pc) body [] pos) (eY fk g m ms):=PS.mono (xH hp hc (nV ET hm ha hst) hg hb hs) λDd σ H h=>by
 obtain ⟨τ,ρ,G,ab,ok⟩:=ym (k:=λτ ds G=>match fk ds with | some xs=>bZ g ms xs τ G | none=>.stuck) h;refine ⟨τ,ρ,G,ab,?_⟩;cases e:m τ G with
 | stuck=>rw [e] at ok;exact ok
 | bw c G'=>rw [e] at ok;exact ok
 | ok ds G'=>
  rw [e] at ok;intro vs H1 ρ1 f1 sN r1;obtain ⟨τ2,ρ2,G2,d2,cG,r2,aO⟩:=ok vs H1 ρ1 f1 sN r1;cases q:fk d2 with
  | none=>rw [q] at aO;exact aO.elim
  | some xs=>
   rw [q] at aO;unfold fk at q;split at q
   ·rename_i j;split at q
    ·rename_i hj;cases q;unfold aq at r2;obtain ⟨v,r,rfl,h1,h2⟩:=r2;unfold aq at h2;subst h2;unfold Rep at h1;subst h1;exact ⟨j,rfl,hj.1,hj.2,vL 0 j.toNat cG aO⟩
    ·cases q
   ·cases q
end
def NY (K:Å) (mg:Str→Option Ã) (H:Hp) (ρ:List Addr):Out D→VK→XK→Prop
 | .stuck,_,_=>False
 | .ok d G',Q,_=>∀ v H' ρ',cK K H H' ρ ρ'→fO K mg H' ρ' G'→Rep K mg ρ' H' d v→Q v H'
 | .bw c G',_,E=>∀ cls H' ρ',(match c with | .mk n _=>mg n=À cls)→cK K H H' ρ ρ'→fO K mg H' ρ' G'→E cls Æ H'
def ir (K:Å) (mg:Str→Option Ã) (n:Nat) (m:List D→M D):Sp:=λvs H Q E=>∃ ds ρ G,ds.length=n∧fO K mg H ρ G∧aq K mg ρ H ds vs∧NY K mg H ρ (m ds G) Q E
theorem ir.len {m:List D→M D} {Q:VK} {E:XK} (h:ir K mg n m vs H Q E):vs.length=n:=by obtain ⟨ds,ρ,G,e,_,r,_⟩:=h;rw [← r.length,e]
def Lr (mg:Str→Option Ã) (EE:bz) (σ:L2.St):XK:=λcls _ H'=>∃ c,(match c with | .mk n _=>mg n=À cls)∧EE c σ H'
def HZ (CX:nX) (X:Cx) (EE:bz):Prop:=∀ (pins:List (Addr×Obj)) (σ:L2.St) (H:Hp) (s:Ç) (e:Ã) (s':Ç),Inv X pins σ H s→CX X.stack H s (Lr X.mg EE σ) e s'→X.xe e s'
section
variable {X:Cx} {CX:nX} {EE:bz} {k n:Nat} {f:Addr} {fd:FuncData} {ps:List Str} {mf:List D→M D} {x:Str} {p pos:Pos} {e:Expr} {es:List Expr} {m:DS→M (List D)}
theorem fO.ab {K:Å} {mg:Str→Option Ã} {σ:L2.St} {H H':Hp} {τ:DS} {ρ ρ':List Addr} {G G':DH} (ab:Ab K mg σ H τ ρ G) (f:cK K H H' ρ ρ') (h:fO K mg H' ρ' G'):Ab K mg σ H' τ ρ' G':=⟨ab.st.mono f,h⟩
theorem uL {pins:List (Addr×Obj)} {σ:L2.St} {H:Hp} {s:Ç} {Q:VK} {us:List Ã} {vs:List V} {τ:DS} {ρ:List Addr} {G:DH} {ds:List D} (F:j0 X.prog X.w X.K X.mg X.base CX k f fd ps (ir X.K X.mg n mf)) (hr:cZ k X.A) (hb:Binds X.K fd ps [])
  (hx:HZ CX X EE) (I:Inv X pins σ H s) (r:Vals vs us) (ab:Ab X.K X.mg σ H τ ρ G) (rs:aq X.K X.mg ρ H ds vs) (hn:ds.length=n) (ok:gR X.K X.mg EE H σ τ ρ (mf ds G) Q):Û (model X.prog X.w) X.A (call (.ref f) us) (EP X pins σ Q) X.xe s:=by
 have h:ir X.K X.mg n mf vs H Q (Lr X.mg EE σ):=by
  refine ⟨ds,ρ,G,hn,ab.hp,rs,?_⟩;cases q:mf ds G with
  | stuck=>rw [q] at ok;exact ok
  | ok d G'=>rw [q] at ok;exact λv H' ρ' f hp r=>ok v H' ρ' f (fO.ab ab f hp) r
  | bw c G'=>rw [q] at ok;exact λcls H' ρ' hc f hp=>⟨c,hc,ok H' ρ' f (fO.ab ab f hp)⟩
 have hl:(us++[]).length=ps.length:=by rw [ò,← r.length];exact F.len _ _ _ _ h
 have J2:=hb s us I.nD hl;rw [ò] at J2;refine SW (codeAny_mono (F.run X.A X.stack s H ⟨us,[]⟩ us vs Q (Lr X.mg EE σ) hr I.eZ I.os.2 J2 r h) λr s' hq=>?_);cases r with
 | error e=>exact hx pins σ H s e s' I hq
 | ok fl=>
  cases fl with
  | ret u=>exact I.after hq
  | next=>exact Ĉ hq
  | brk=>exact Ĉ hq
  | cont=>exact Ĉ hq
def aA (n:Nat) (mf:List D→M D) (m:DS→M (List D)):DS→M D:=ai (λds=>if ds.length=n then mf ds else M.stop) m
theorem Bq (F:j0 X.prog X.w X.K X.mg X.base CX k f fd ps (ir X.K X.mg n mf)) (hr:cZ k X.A) (hm:X.mg x=À (.ref f)) (hk:ö X.K (.ref f)=Á) (hb:Binds X.K fd ps []) (hx:HZ CX X EE)
  (ha:QA X EE (e::es) m) (hg:Gl X x:=by rfl) (hdb:(x==("__debug__":Str))=Â:=by decide) (he:Ô (e::es) X.env=(Â,eval e X.env)::Ô es X.env:=by rfl) (hpl:(backTo pos (Ô es X.env)).any (·.1)=Â:=by rfl) :
  QE X EE (.Call (.Name x p) (e::es) [] pos) (aA n mf m):=by
 intro pins s σ H Q I h;obtain ⟨τ,ρ,G,ab,ok⟩:=lY (k:=λ_ ds=>if ds.length=n then mf ds else M.stop) h;refine ĉ (gM I hg hm ?_ hdb);refine Sb (h₀:=X.base) I.ok.mod.GD hk (eE (ha pos pins s σ H _ I ⟨τ,ρ,G,ab,ok⟩) λus s1 ⟨vs,H1,I1,r,q⟩=>⟨I1.nD,?_⟩) he hpl;obtain ⟨τ1,ρ1,G1,ds,sN,rs,GL⟩:=q;by_cases hn:ds.length=n
 ·rw [if_pos hn] at GL;exact uL F hr hb hx I1 r sN rs hn GL
 ·rw [if_neg hn] at GL;exact GL.elim
end
def cD (N:Nat) (ms:MS) (ds:List D):M D:=λG=>match ms (ds.map À++Ì (N - ds.length) Æ) G with
 | .stuck=>.stuck
 | .nx _ G'=>.ok .dR G'
 | .rt d G'=>.ok d G'
 | .bk _ _=>.stuck
 | .ct _ _=>.stuck
 | .xn c _ G'=>.bw c G'
theorem l5 (r:aq K mg ρ H ds vs):kN K mg H ρ (L2.start N vs) (ds.map À++Ì (N.length - ds.length) Æ):=by
 have hl:=r.length;refine ⟨by unfold L2.start;simp [hl],λi d e=>?_⟩;have hi:i<ds.length:=by
  by_cases hi:i<ds.length
  ·exact hi
  ·rw [Ú (by simpa using hi),ľ] at e;split at e<;>cases e
 rw [Ñ (by simpa using hi),å] at e;cases q:ds[i]? with
 | none=>rw [q] at e;cases e
 | some d'=>rw [q] at e;cases e;obtain ⟨v,e1,r1⟩:=r.get q;refine ⟨v,?_,r1⟩;unfold L2.start;rw [Ñ (by simp;nofun),å,e1];rfl
abbrev J6:bz:=λ_ _ _=>False
section
variable {X:Cx} {EE:bz} {a b c:Expr} {ma mb mc:DS→M D} {pos:Pos}
def Br (X:Cx) (EE:bz) (f:List D→M D):List V→Hp→VK→Prop:=λxs H Q=>∃ σ τ ρ G ds,Ab X.K X.mg σ H τ ρ G∧aq X.K X.mg ρ H ds xs∧gR X.K X.mg EE H σ τ ρ (f ds G) Q
theorem l6 {f:List D→M D}:CallD X EE (Br X EE f) f:=λσ H τ ρ G xs ds Q ab r ok=>⟨σ,τ,ρ,G,ds,ab,r,ok⟩
theorem je (r:aq K mg ρ H [d] xs):∃ x,xs=[x]∧Rep K mg ρ H d x:=by unfold aq at r;obtain ⟨v,r',rfl,h1,h2⟩:=r;unfold aq at h2;subst h2;exact ⟨v,rfl,h1⟩
theorem H8 {e:D} (r:aq K mg ρ H [d,e] xs):∃ x y,xs=[x,y]∧Rep K mg ρ H d x∧Rep K mg ρ H e y:=by unfold aq at r;obtain ⟨v,r',rfl,h1,h2⟩:=r;obtain ⟨y,rfl,h3⟩:=je h2;exact ⟨v,y,rfl,h1,h3⟩
def c5:List D→M D
 | [d]=>λG=>match aG G d with
  | some (.lst xs)=>.ok (.int xs.length) G
  | some (.tup xs)=>.ok (.int xs.length) G
  | some (.str z)=>if z.length≤Ä then .ok (.int z.length) G else .stuck
  | none=>.stuck
 | _=>M.stop
theorem vM:cX X (.builtin "len") (Br X EE c5):=by
 intro pins s σ0 H xs us Q I r zu;obtain ⟨σ,τ,ρ,G,ds,ab,rs,ok⟩:=zu
 match ds,ok with
 | [],ok=>exact ok.elim
 | _::_::_,ok=>exact ok.elim
 | [d],ok=>
  obtain ⟨x,rfl,rx⟩:=je rs;dsimp only [c5] at ok;cases q:aG G d with
  | none=>rw [q] at ok;exact ok.elim
  | some sk=>
   rw [q] at ok;cases sk with
   | lst zs=>obtain ⟨p,vs,rfl,sq,rv⟩:=cT (pins:=pins) (σ0:=σ0) (s:=s) ab.hp rx q;exact jB pins s σ0 H _ us Q I r ⟨p,vs,rfl,.inl sq,ok _ H ρ .refl ab (by unfold Rep;rw [rv.length])⟩
   | tup zs=>obtain ⟨p,vs,rfl,sq,rv⟩:=fH rx q;exact jB pins s σ0 H _ us Q I r ⟨p,vs,rfl,.inr sq,ok _ H ρ .refl ab (by unfold Rep;rw [rv.length])⟩
   | str z=>
    obtain ⟨rfl,rfl⟩:=gE rx q;dsimp only at ok;by_cases hz:z.length≤Ä
    ·rw [if_pos hz] at ok;exact pF pins s σ0 H _ us Q I r ⟨z,rfl,hz,ok _ H ρ .refl ab (by unfold Rep;rfl)⟩
    ·rw [if_neg hz] at ok;exact ok.elim
inductive Ty where
 | dR | bl | int | str | tup | lst | dct
 deriving DecidableEq
def Ty.nm:Ty→String
 | .dR=>"NoneType" | .bl=>"bool" | .int=>"int" | .str=>"str" | .tup=>"tuple" | .lst=>"list" | .dct=>"dict"
def J7 (G:DH):D→Option Ty
 | .dR=>À .dR
 | .bl _=>À .bl
 | .int _=>À .int
 | .str _=>À .str
 | .tup _=>À .tup
 | .con _=>À .lst
 | .obj n=>match G[n]? with
  | some (.lst _)=>À .lst
  | _=>Æ
 | .fn _=>Æ
 | .lW _ _=>Æ
 | .sM _ _=>Æ
def Ty.is (t c:Ty):Bool:=decide (t=c)||(decide (t=.bl)&&decide (c=.int))
theorem iE (K:Å):∀ (t c:Ty),c≠.dR→Ĕ K (.type t.nm) (.type c.nm)=À (t.is c):=by intro t c h;cases t<;>cases c<;>first | exact absurd rfl h | rfl | (with_unfolding_all rfl) | symm
def nF (c:Ty) (d:D):M D:=λG=>match J7 G d with
 | some t=>.ok (.bl (t.is c)) G
 | none=>.stuck
def vN (c:Ty) (m:DS→M D):DS→M D:=λτ=>(m τ).bind (nF c)
theorem lB {c:Ty} (hc:c≠.dR) {pins:List (Addr×Obj)} {s:Ç} {σ0 σ:L2.St} {H:Hp} {τ:DS} {ρ:List Addr} {G:DH} {d:D} {x:V} {u:Ã} {Q:VK} (I:Inv X pins σ0 H s) (ab:Ab X.K X.mg σ H τ ρ G) (rx:Rep X.K X.mg ρ H d x) (ru:RelV x u)
  (ok:gR X.K X.mg EE H σ τ ρ (nF c d G) Q):Û (model X.prog X.w) X.A (call (.builtin "isinstance") [u,.type c.nm]) (EP X pins σ0 Q) X.xe s:=by
 dsimp only [nF] at ok;refine ic I.os.2 ?_;have fin:∀ {b:Bool},Q (.bl b) H→∀ tk,0<tk→EP X pins σ0 Q (.bool b) {s with toks:=tk}:=λq tk ht=>⟨.bl _,H,I.tok tk,rfl,q⟩;cases d with
 | dR=>have q:=ok (.bl _) H ρ .refl ab (by unfold Rep;rfl);unfold Rep at rx;subst rx;cases ru;exact ć PySem.W.kitx_none I.nD Sd (iE X.K .dR c hc) (λz=>nomatch z) (fin q)
 | bl y=>have q:=ok (.bl _) H ρ .refl ab (by unfold Rep;rfl);unfold Rep at rx;subst rx;cases ru;exact ć PySem.W.kitx_bool I.nD Sd (iE X.K .bl c hc) (λz=>nomatch z) (fin q)
 | int y=>have q:=ok (.bl _) H ρ .refl ab (by unfold Rep;rfl);unfold Rep at rx;subst rx;obtain ⟨t,rfl⟩:=ru;exact ć PySem.W.kitx_int I.nD Sd (iE X.K .int c hc) (λz=>nomatch z) (fin q)
 | str y=>have q:=ok (.bl _) H ρ .refl ab (by unfold Rep;rfl);unfold Rep at rx;subst rx;obtain ⟨t,rfl⟩:=ru;exact ć PySem.W.kitx_str I.nD Sd (iE X.K .str c hc) (λz=>nomatch z) (fin q)
 | tup ys=>have q:=ok (.bl _) H ρ .refl ab (by unfold Rep;rfl);unfold Rep at rx;obtain ⟨p,vs,rfl,sq,_⟩:=rx;cases ru;obtain ⟨its,_,⟨o,h1,h2,_⟩,_⟩:=I.tuple (tE.t sq);exact ć PySem.W.kitx_tuple I.nD ⟨o,h1,h2⟩ (iE X.K .tup c hc) (λz=>nomatch z) (fin q)
 | con ys=>have q:=ok (.bl _) H ρ .refl ab (by unfold Rep;rfl);unfold Rep at rx;obtain ⟨p,vs,rfl,sq,_⟩:=rx;cases ru;obtain ⟨its,_,⟨o,k,h1,h2,_⟩,_⟩:=I.list sq.seq;exact ć Sn I.nD ⟨o,h1,h2⟩ (iE X.K .lst c hc) (λz=>nomatch z) (fin q)
 | obj n=>
  unfold Rep at rx;obtain ⟨p,rfl,e1⟩:=rx;cases ru;dsimp only [J7] at ok;cases g:G[n]? with
  | none=>rw [g] at ok;exact ok.elim
  | some o=>
   cases o with
   | lst ys=>rw [g] at ok;have q:=ok (.bl _) H ρ .refl ab (by unfold Rep;rfl);obtain ⟨p',vs,e2,hp,_⟩:=ab.hp.lst g;rw [e1] at e2;cases e2;obtain ⟨its,_,⟨o,k,h1,h2,_⟩,_⟩:=I.list (.of hp);exact ć Sn I.nD ⟨o,h1,h2⟩ (iE X.K .lst c hc) (λz=>nomatch z) (fin q)
   | _=>first | (rw [q] at ok;exact ok.elim) | (rw [q] at aO;exact aO.elim) | (rw [q] at e;cases e;done) | (rw [g] at ok;exact ok.elim) | (rw [g] at q;cases q;done) | (rw [g] at h;cases h;done) | (rw [g2] at ok;exact ok.elim) | (rw [g1,g2] at ok;exact ok.elim) | (rw [q1] at ok;exact ok.elim) | exact ok.elim
 | lW _ _=>exact ok.elim
 | sM y0 c0=>exact ok.elim
 | fn x=>exact ok.elim
theorem EU (c:Ty) {p pt:Pos} {x:Str} (hc:c≠.dR) (hm:X.mg "isinstance"=Æ) (hmt:X.mg x=Æ) (ha:QE X EE a ma) (hb:bootBuiltins x=À (.type c.nm))
  (hg:Gl X "isinstance":=by rfl) (hgt:Gl X x:=by rfl) (hnt:x≠"__name__":=by decide) (hdt:(x==("__debug__":Str))=Â:=by decide)
  (he:Ô [a,.Name x pt] X.env=(Â,eval a X.env)::Ô [.Name x pt] X.env:=by rfl) (NZ:Ô [.Name x pt] X.env=(Â,eval (.Name x pt) X.env)::Ô [] X.env:=by rfl) (hpl:(backTo pos (Ô [.Name x pt] X.env)).any (·.1)=Â:=by rfl)
  (hbi:bootBuiltins "isinstance"=À (.builtin "isinstance"):=by first | exact Ė | symm) :
  QE X EE (.Call (.Name "isinstance" p) [a,.Name x pt] [] pos) (vN c ma):=by
 have hT:PE X (.Name x pt) (tC (.ty c.nm)):=AM hgt hmt hb rfl hnt hdt;have hA:PA X [a,.Name x pt] (xM (cC X.K X.mg EE ma) (xM (tC (.ty c.nm)) Hu)):=pq ha (pq hT xN NZ) he;intro pins s σ H Q I h;obtain ⟨τ,ρ,G,ab,ok⟩:=fj (k:=λ_ d=>nF c d) h;refine ĉ (gw I hg hm hbi ?_ (by decide) (by decide));refine Ā (eE (hA pos pins s σ H (λvs H1=>∃ x,vs=[x,.ty c.nm]∧∃ τ ρ G d,Ab X.K X.mg σ H1 τ ρ G∧Rep X.K X.mg ρ H1 d x∧gR X.K X.mg EE H1 σ τ ρ (nF c d G) Q) I ⟨τ,ρ,G,ab,?_⟩) λus s1 ⟨vs,H1,I1,r1,q1⟩=>?_) he hpl
 ·cases e:ma τ G with
  | stuck=>rw [e] at ok;exact ok
  | bw c G'=>rw [e] at ok;exact ok
  | ok d G'=>rw [e] at ok;exact λv H' ρ' f' bF r'=>⟨v,rfl,ok v H' ρ' f' bF r'⟩
 ·obtain ⟨y,rfl,τ2,ρ2,G2,d,cG,rd,aO⟩:=q1;cases r1 with
  | cons ry rr=>
   cases rr with
   | cons rt rr=>cases rr;cases rt;exact lB hc I1 cG rd ry aO
end
section
variable {X:Cx} {EE:bz} {a b c:Expr} {ma mb mc:DS→M D} {pos:Pos}
def jE:List D→Option (List Bool)
 | []=>À []
 | .bl b::r=>(jE r).map (b::·)
 | _::_=>Æ
def yp (any:Bool):List D→M D
 | [d]=>λG=>match aG G d with
  | some (.lst xs)=>match jE xs with
   | some bs=>.ok (.bl (if any then bs.any id else bs.all id)) G
   | none=>.stuck
  | _=>.stuck
 | _=>M.stop
theorem oq {K:Å} {mg:Str→Option Ã} {ρ:List Addr} {H:Hp}:∀ {ds:List D} {vs:List V} {us:List Ã} {bs:List Bool},aq K mg ρ H ds vs→Vals vs us→jE ds=À bs→us=bs.map Value.bool
 | [],vs,us,bs,r,v,e=>by unfold aq at r;subst r;cases v;cases e;rfl
 | d::ds,vs,us,bs,r,v,e=>by
  unfold aq at r;obtain ⟨x,r',rfl,h1,h2⟩:=r;cases v with
  | cons v1 v2=>
   cases d<;>try (cases e;done)
   rename_i b;dsimp only [jE] at e;cases q:jE ds with
   | none=>rw [q] at e;cases e
   | some bs'=>rw [q] at e;cases e;unfold Rep at h1;subst h1;cases v1;rw [oq h2 v2 q];rfl
theorem tM {s:Ç} {o:Obj} (hk:∀ b x,b∉[s.heap.objs.size]→(s.heap.push o).get? b=À x→h'.get? b=À x):∀ b x,s.heap.get? b=À x→h'.get? b=À x:=
 λb x e=>hk b x (λhm=>by rw [List.mem_singleton.mp hm] at e;exact Ą _ (Ï e)) (Î _ e)
theorem tN (bs:List Bool):((ĥ bs.length).all λi=>(bs[i]?).getD Á)=bs.all id:=by
 rw [ſ,Ĥ,Ĥ];constructor
 ·intro h b hb;obtain ⟨i,hi,rfl⟩:=Ŕ hb;have:=h i (RO.mpr hi);simpa [Ð hi] using this
 ·intro h i hi;have hi':=RO.mp hi;simp only [Ð hi',Option.getD_some];exact h _ (Sy hi')
theorem vO (hc:X.calm=Á):cX X (.builtin "all") (Br X EE (yp Â)):=by
 intro pins s σ0 H xs us Q I r zu;obtain ⟨σ,τ,ρ,G,ds,ab,rs,ok⟩:=zu
 match ds,ok with
 | [],ok=>exact ok.elim
 | _::_::_,ok=>exact ok.elim
 | [d],ok=>
  obtain ⟨x,rfl,rx⟩:=je rs;obtain ⟨u,rfl,ru⟩:=vals1 r;dsimp only [yp] at ok;cases q:aG G d with
  | none=>rw [q] at ok;exact ok.elim
  | some sk=>
   rw [q] at ok;cases sk with
   | tup zs=>exact ok.elim
   | str z=>exact ok.elim
   | lst zs=>
    dsimp only at ok;cases qb:jE zs with
    | none=>rw [qb] at ok;exact ok.elim
    | some bs=>
     rw [qb] at ok;obtain ⟨p,vs,rfl,sq,rv⟩:=cT (pins:=pins) (σ0:=σ0) (s:=s) ab.hp rx q;cases ru;obtain ⟨its,vv,pl,hz⟩:=I.list sq;have e:=oq rv vv qb;subst e;have hl:=pl.isList;have hlt:p<s.heap.objs.size:=by obtain ⟨_,e,_⟩:=hl;exact Ï e
     refine ic I.os.2 (call_all_walk (Sm hl ?_))
     refine ⟨s.heap.objs.size,[s.heap.objs.size,p],[s.heap.objs.size],(bs.map Value.bool).toArray.size,_,_,λi=>(bs[i]?).getD Á,rfl,Walks.list (A:=X.A.in1) (I.ok.hd hc) _ p (ã hlt) _,
      ⟨⟨_,ç _ rfl,rfl,rfl⟩,hl.push _⟩,λi v s' Q' E' hP hQ=>?_,λh' tk hk ht=>?_⟩
     ·have Ia:(bs.map Value.bool)[i]?=À v:=by simpa using hP
      rw [å] at Ia;cases qi:bs[i]? with
      | none=>rw [qi] at Ia;cases Ia
      | some k=>rw [qi] at Ia;cases Ia;simp only [qi,Option.getD_some] at hQ;exact Ń hQ
     ·rw [show (bs.map Value.bool).toArray.size=bs.length by simp,tN];exact ⟨.bl _,H,I.kept (t':=tk) (tM hk),rfl,ok _ H ρ .refl ab (by unfold Rep;rfl)⟩
def jj (g:Int→Int→Int):List D→M D
 | [.int i,.int j]=>M.ret (.int (g i j))
 | _=>M.stop
theorem yq {g:Int→Int→Int} {Q:VK} (ok:gR X.K X.mg EE H σ τ ρ (jj g ds G) Q):∃ i j,ds=[.int i,.int j]∧gR X.K X.mg EE H σ τ ρ (.ok (.int (g i j)) G) Q:=by
 unfold jj at ok;split at ok
 ·exact ⟨_,_,rfl,ok⟩
 ·exact ok.elim
theorem vP (hc:X.calm=Á):cX X (.builtin "max") (Br X EE (jj λi j=>if j > i then j else i)):=by intro pins s σ0 H xs us Q I r zu;obtain ⟨σ,τ,ρ,G,ds,ab,rs,ok⟩:=zu;obtain ⟨i,j,rfl,ok⟩:=yq ok;obtain ⟨x,y,rfl,r1,r2⟩:=H8 rs;unfold Rep at r1 r2;subst r1 r2;exact vE hc pins s σ0 H _ us Q I r ⟨i,j,rfl,ok _ H ρ .refl ab (by unfold Rep;rfl)⟩
def Ib (X:Cx) (EE:bz) (f:D→List D→M D):V→List V→Hp→VK→Prop:=λx xs H Q=>∃ σ τ ρ G d ds,Ab X.K X.mg σ H τ ρ G∧Rep X.K X.mg ρ H d x∧aq X.K X.mg ρ H ds xs∧gR X.K X.mg EE H σ τ ρ (f d ds G) Q
def fQ (T:String) (G:DH):D→Bool
 | .str _=>T=="str"
 | .int _=>T=="int"
 | .con _=>T=="list"
 | .obj n=>match G[n]? with
  | some (.lst _)=>T=="list"
  | _=>Â
 | _=>Â
theorem ou {x:V} (ab:Ab X.K X.mg σ H τ ρ G) (r:Rep X.K X.mg ρ H d x) (h:fQ T G d=Á):J1 X.K T x H:=by
 cases d with
 | str z=>unfold Rep at r;subst r;exact eq_of_beq h
 | int z=>unfold Rep at r;subst r;exact eq_of_beq h
 | con zs=>unfold Rep at r;obtain ⟨p,vs,rfl,sq,_⟩:=r;exact .inl ⟨eq_of_beq h,vs,sq.seq⟩
 | obj n=>
  unfold Rep at r;obtain ⟨p,rfl,e1⟩:=r;dsimp only [fQ] at h;cases g:G[n]? with
  | none=>rw [g] at h;cases h
  | some o=>
   cases o with
   | lst ys=>rw [g] at h;obtain ⟨p',vs,e2,hp,_⟩:=ab.hp.lst g;rw [e1] at e2;cases e2;exact .inl ⟨eq_of_beq h,vs,.of hp⟩
   | _=>first | (rw [q] at ok;exact ok.elim) | (rw [q] at aO;exact aO.elim) | (rw [q] at e;cases e;done) | (rw [g] at ok;exact ok.elim) | (rw [g] at q;cases q;done) | (rw [g] at h;cases h;done) | (rw [g2] at ok;exact ok.elim) | (rw [g1,g2] at ok;exact ok.elim) | (rw [q1] at ok;exact ok.elim) | exact ok.elim
 | _=>cases h
def cP (T:String) (f:D→List D→M D) (mo:DS→M D) (m:DS→M (List D)):DS→M D:=λτ=>(mo τ).bind λd G=>if fQ T G d then (m τ).bind (λds=>f d ds) G else .stuck
theorem CP {o:Expr} {apos cpos:Pos} {id:String} {f:D→List D→M D} (pa:PlainAttrs T) (slot:Slot T name id) (hty:typeOf (.builtin id)=pure (.type "method_descriptor")) (hm:xR X id (Ib X EE f)) (ho:QE X EE o mo) (ha:QA X EE (e::es) m)
  (hbase:attributeBase o name X.env (eval o X.env)=eval o X.env:=by rfl)
  (hfew:((backTo cpos (Ô (e::es) X.env)).all (λx=>!x.1)&&(backToKw cpos (keywordEach [] X.env)).all (λx=>x.1.isSome)
   && decide ((e::es).length+([]:List Keyword).length+(if ([]:List Keyword).isEmpty then 0 else 1)<30))=Á:=by rfl)
  (hline:(apos.endLine==cpos.line)=Á:=by rfl) (hs:Ô (e::es) X.env=(Â,eval e X.env)::Ô es X.env:=by rfl) (hplain:(backTo cpos (Ô es X.env)).any (·.1)=Â:=by rfl) :
  QE X EE (.Call (.Attribute o name apos) (e::es) [] cpos) (cP T f mo m):=PE.mono (HC pa slot hty hm ho ha hbase hfew hline hs hplain) λσ H Q h=>by
 obtain ⟨τ,ρ,G,ab,ok⟩:=fj (k:=λτ d G=>if fQ T G d then (m τ).bind (λds=>f d ds) G else .stuck) h;refine ⟨τ,ρ,G,ab,?_⟩;cases e:mo τ G with
 | stuck=>rw [e] at ok;exact ok
 | bw c G'=>rw [e] at ok;exact ok
 | ok d G'=>
  rw [e] at ok;intro v H' ρ' f' bF r';obtain ⟨τ2,ρ2,G2,d2,cG,r2,aO⟩:=ok v H' ρ' f' bF r';by_cases hk:fQ T G2 d2=Á
  ·rw [if_pos hk] at aO;refine ⟨ou cG r2 hk,τ2,ρ2,G2,cG,?_⟩;dsimp only [M.bind] at aO;cases e2:m τ2 G2 with
   | stuck=>rw [e2] at aO;exact aO
   | bw c G'=>rw [e2] at aO;exact aO
   | ok ds G3=>rw [e2] at aO;exact λvs H3 ρ3 f3 x6 r3=>⟨σ,τ2,ρ3,G3,d2,ds,x6,r2.mono f3,r3,aO.fut f3⟩
  ·rw [if_neg hk] at aO;exact aO.elim
theorem EV {o:Expr} {apos cpos:Pos} {id:String} {f:D→List D→M D} (pa:PlainAttrs T) (slot:Slot T name id) (hty:typeOf (.builtin id)=pure (.type "method_descriptor")) (hm:xR X id (Ib X EE f)) (ho:QE X EE o mo)
  (hbase:attributeBase o name X.env (eval o X.env)=eval o X.env:=by rfl) (hline:(apos.endLine==cpos.line)=Á:=by rfl) :
  QE X EE (.Call (.Attribute o name apos) [] [] cpos) (cP T f mo ah):=PE.mono (Ec pa slot hty hm ho hbase hline) λσ H Q h=>by
 obtain ⟨τ,ρ,G,ab,ok⟩:=fj (k:=λτ d G=>if fQ T G d then (ah τ).bind (λds=>f d ds) G else .stuck) h;refine ⟨τ,ρ,G,ab,?_⟩;cases e:mo τ G with
 | stuck=>rw [e] at ok;exact ok
 | bw c G'=>rw [e] at ok;exact ok
 | ok d G'=>
  rw [e] at ok;intro v H' ρ' f' bF r';obtain ⟨τ2,ρ2,G2,d2,cG,r2,aO⟩:=ok v H' ρ' f' bF r';by_cases hk:fQ T G2 d2=Á
  ·rw [if_pos hk] at aO;exact ⟨ou cG r2 hk,σ,τ2,ρ2,G2,d2,[],cG,r2,.nil,aO⟩
  ·rw [if_neg hk] at aO;exact aO.elim
def dW:D→List D→M D
 | .obj n,[v]=>λG=>match G[n]? with
  | some (.lst xs)=>if xs.length<Ä then .ok .dR (G.set n (.lst (xs++[v]))) else .stuck
  | _=>.stuck
 | _,_=>M.stop
theorem yr {xs ys:List D} {w:V} {ws:List V} {Q:VK} (ab:Ab X.K X.mg σ H τ ρ G) (hn:ρ[n]?=À p) (hp:H p=À (.lst vs)) (r:aq X.K X.mg ρ H ys ws)
  (rd:∀ H',cK X.K H H' ρ ρ→Rep X.K X.mg ρ H' d w) (ok:gR X.K X.mg EE H σ τ ρ (.ok d (G.set n (.lst ys))) Q):Q w (upd H p (.lst ws)):=by
 have f:cK X.K H (upd H p (.lst ws)) ρ ρ:=pG hp ρ;exact ok w _ ρ f (ab.fut f (ab.hp.put (ds:=ys) hn hp r)) (rd _ f)
theorem tO:xR X "list.append" (Ib X EE dW):=by
 intro pins s σ0 H x xs v us Q I rx Ic zu;obtain ⟨σ,τ,ρ,G,d,ds,ab,rd,xx,ok⟩:=zu;cases d<;>try exact ok.elim
 rename_i n
 match ds,ok with
 | [],ok=>exact ok.elim
 | _::_::_,ok=>exact ok.elim
 | [y],ok=>
  obtain ⟨yv,rfl,ry⟩:=je xx;unfold Rep at rd;obtain ⟨p,rfl,e1⟩:=rd;dsimp only [dW] at ok;cases g:G[n]? with
  | none=>rw [g] at ok;exact ok.elim
  | some o=>
   cases o with
   | lst zs=>
    rw [g] at ok;dsimp only at ok;obtain ⟨p',vs,e2,hp,rs⟩:=ab.hp.lst g;rw [e1] at e2;cases e2;by_cases hz:zs.length<Ä
    ·rw [if_pos hz] at ok;exact n9 pins s σ0 H _ _ v us Q I rx Ic ⟨p,vs,yv,rfl,rfl,hp,by rw [← rs.length];exact hz,yr (xs:=zs) ab e1 hp (rs.append (.cons ry .nil)) (λ_ _=>by unfold Rep;rfl) ok⟩
    ·rw [if_neg hz] at ok;exact ok.elim
   | _=>first | (rw [q] at ok;exact ok.elim) | (rw [q] at aO;exact aO.elim) | (rw [q] at e;cases e;done) | (rw [g] at ok;exact ok.elim) | (rw [g] at q;cases q;done) | (rw [g] at h;cases h;done) | (rw [g2] at ok;exact ok.elim) | (rw [g1,g2] at ok;exact ok.elim) | (rw [q1] at ok;exact ok.elim) | exact ok.elim
theorem vQ {o:Expr} {apos cpos:Pos} (ho:QE X EE o mo) (ha:QA X EE [e] m)
  (hbase:attributeBase o "append" X.env (eval o X.env)=eval o X.env:=by rfl)
  (hfew:((backTo cpos (Ô [e] X.env)).all (λx=>!x.1)&&(backToKw cpos (keywordEach [] X.env)).all (λx=>x.1.isSome)
   && decide ([e].length+([]:List Keyword).length+(if ([]:List Keyword).isEmpty then 0 else 1)<30))=Á:=by rfl)
  (hline:(apos.endLine==cpos.line)=Á:=by rfl) (hs:Ô [e] X.env=(Â,eval e X.env)::Ô [] X.env:=by rfl) (hplain:(backTo cpos (Ô [] X.env)).any (·.1)=Â:=by rfl) :
  QE X EE (.Call (.Attribute o "append" apos) [e] [] cpos) (cP "list" dW mo m):=CP Ų PySem.F.slot_list_append PySem.F.type_list_append tO ho ha hbase hfew hline hs hplain
def pK:D→List D→M D
 | .obj n,[]=>λG=>match G[n]? with
  | some (.lst xs)=>match xs[xs.length - 1]? with
   | some y=>.ok y (G.set n (.lst xs.dropLast))
   | none=>.stuck
  | _=>.stuck
 | _,_=>M.stop
theorem aq.dropLast (r:aq K mg ρ H ds vs):aq K mg ρ H ds.dropLast vs.dropLast:=by rw [RH,RH,← r.length];exact r.take _
theorem Bs:xR X "list.pop" (Ib X EE pK):=by
 intro pins s σ0 H x xs v us Q I rx Ic zu;obtain ⟨σ,τ,ρ,G,d,ds,ab,rd,xx,ok⟩:=zu;cases d<;>try exact ok.elim
 rename_i n
 match ds,ok with
 | _::_,ok=>exact ok.elim
 | [],ok=>
  unfold aq at xx;subst xx;unfold Rep at rd;obtain ⟨p,rfl,e1⟩:=rd;dsimp only [pK] at ok;cases g:G[n]? with
  | none=>rw [g] at ok;exact ok.elim
  | some o=>
   cases o with
   | lst zs=>
    rw [g] at ok;dsimp only at ok;obtain ⟨p',vs,e2,hp,rs⟩:=ab.hp.lst g;rw [e1] at e2;cases e2;cases qz:zs[zs.length - 1]? with
    | none=>rw [qz] at ok;exact ok.elim
    | some y=>rw [qz] at ok;obtain ⟨yv,ey,ry⟩:=rs.get qz;exact Ef pins s σ0 H _ _ v us Q I rx Ic ⟨p,vs,yv,rfl,rfl,hp,by rw [← rs.length];exact ey,yr (xs:=zs) ab e1 hp rs.dropLast (λ_ f=>ry.mono f) ok⟩
   | _=>first | (rw [q] at ok;exact ok.elim) | (rw [q] at aO;exact aO.elim) | (rw [q] at e;cases e;done) | (rw [g] at ok;exact ok.elim) | (rw [g] at q;cases q;done) | (rw [g] at h;cases h;done) | (rw [g2] at ok;exact ok.elim) | (rw [g1,g2] at ok;exact ok.elim) | (rw [q1] at ok;exact ok.elim) | exact ok.elim
theorem EW {o:Expr} {apos cpos:Pos} (ho:QE X EE o mo) (hbase:attributeBase o "pop" X.env (eval o X.env)=eval o X.env:=by rfl) (hline:(apos.endLine==cpos.line)=Á:=by rfl) :
  QE X EE (.Call (.Attribute o "pop" apos) [] [] cpos) (cP "list" pK mo ah):=EV Ų PySem.F.slot_list_pop PySem.F.type_list_pop Bs ho hbase hline
end
def fR (e:Addr) (pl:Option Addr) (h:Heap):Prop:=∃ o,h.get? e=À o∧o.dict=pl
structure tP (B:Heap) (l:List Env) (e:Addr) (cls:Ã) (h:Heap):Prop where
 stay:B.StaysIn h
 new:B.get? e=Æ
 Qm:h.FunFrames B l
 tr:(∃ oe vs a0,h.get? e=À oe∧oe.cls=cls∧oe.data=.fields vs∧vs[0]?=À a0∧vs[1]?=À .none)∨∃ a0 fl,h.TracedAtW B e cls a0 fl
 dct:fR e Æ h
section
variable {M:Model} {A:Around} {E:Ã→Ç→Prop} {s:Ç} {B:Heap} {env:Env} {outer l:List Env} {L e:Addr} {cls:Ã} {Q:Unit→Ç→Prop}
theorem tQ (h:env'.frame=env.frame) (v:Ã):noteFrame v env'=noteFrame v env:=by unfold noteFrame frameOf;rw [h]
theorem yt (f:Array Ã→Array Ã) (o:Obj):(þ f o).dict=o.dict:=by unfold þ;split<;>rfl
theorem qX {head:Ã} {b:Bool} (hfr:A.frames=À (env::outer)) (fr:s.heap.FunFrames B (env::outer)) (hf:env.frame=À L) (he:s.heap.get? e=À oe) (st:B.StaysIn s.heap) (nw:B.get? e=Æ)
  (hd:oe.data=.fields ws) (sz:1<ws.size) (h0:ws[0]?=À a0) (hQ:∀ h',Heap.NotedW B (env::outer) e oe.cls a0 (rawInt L) s.heap h'→fR e oe.dict h'→Q () {s with heap:=h'}) :
  Û M A (do let a ← frameOf env;let z ← entryPlaceOf L b;let t ← RW head a .none (rawInt L) .none z;setField (.ref e) 1 t) Q E s:=by
 have ne:e∉(env::outer).filterMap (·.frame):=λz=>by obtain ⟨_,o,q,n⟩:=fr.mem z;rw [he] at q;cases q;exact n ws hd
 refine Ê (wpAny_frameOf_fun hfr fr hf λk1 c1=>Ê (wpAny_entryPlaceOf λz hz=>?_));have e1:k1.get? e=À oe:=(c1.2.1 e ne).trans he;have st1:B.StaysIn k1:=λx o q=>(c1.2.1 x λm=>by rw [(fr.mem m).1] at q;cases q).trans (st x o q);have neT:k1.objs.size≠e:=ŕ (Ï e1);unfold RW newFields;refine Ê (ĝ ?_ (hz.sizeOk5 _ _ _ _ _));generalize hT:({cls:=.type "traceback",dict:=Æ,data:=.fields ([head,.ref L,.none,rawInt L,.none]++(if z.isEmpty then Ì 6 Value.none else z)).toArray}:Obj)=T;have dT:T.data=.fields ([head,.ref L,.none,rawInt L,.none]++(if z.isEmpty then Ì 6 Value.none else z)).toArray:=by rw [← hT]
 have e2:(k1.push T).get? e=À oe:=Î T e1;refine ś e2 hd sz ?_;have d3:=Ĩ hd (·.setIfInBounds 1 (Value.ref k1.objs.size));generalize hk2:(k1.push T).update e (þ (·.setIfInBounds 1 (Value.ref k1.objs.size)))=k2;have e3:k2.get? e=À (þ (·.setIfInBounds 1 (Value.ref k1.objs.size)) oe):=by rw [← hk2];exact ĭ _ e2 (Į d3)
 have T3:k2.get? k1.objs.size=À T:=by rw [← hk2];exact (Ď _ _ (Ě neT)).trans (ç k1 (Į dT))
 have kp:∀ x o,x≠e→k1.get? x=À o→k2.get? x=À o:=λx o n q=>by rw [← hk2,Ď _ _ (Ě n)];exact Î T q
 have nr:∀ x o,s.heap.get? x=À o→(∀ vs,o.data≠.fields vs)→x≠e:=λx o q n m=>by rw [m,he] at q;cases q;exact n ws hd
 have up:s.heap.UpToSlots k2:=λx o q n=>by obtain ⟨sl,y⟩:=c1.2.2 x o q;exact ⟨sl,kp x _ (nr x o q n) y⟩
 refine hQ k2 ⟨λx o q=>kp x o (λm=>by rw [m,nw] at q;cases q) (st1 x o q),fr.of_keeps λx o q n=>?_,?_,up⟩ ⟨_,e3,yt _ _⟩
 ·obtain ⟨sl,y⟩:=up x o q n;exact ⟨_,y,rfl⟩
 ·refine ⟨_,_,k1.objs.size,T,_,e3,⟨Obj.cls_mapFields _ _,by rw [Array.getElem?_setIfInBounds_ne (by decide)];exact h0⟩,d3,by simp [sz],st1.fresh,neT,T3,dT,?_⟩
  first | (simp;done) | (rcases hz with rfl | ⟨_,_,_,_,_,_,_,rfl⟩<;>simp)
theorem pL (hfr:A.frames=À (env::outer)) (hf:env.frame=À L) (f:tP B (env::outer) e cls s.heap)
  (hQ:∀ h' a0,Heap.HeldW B (env::outer) e cls a0 L h'→s.heap.UpToSlots h'→fR e Æ h'→Q () {s with heap:=h'}):Û M A (noteFrame (.ref e) env) Q E s:=by
 obtain ⟨st,nw,fr,tr,od,hod,hpl⟩:=f;rcases tr with ⟨oe,vs,a0,he,hc,hd,h0,h1⟩ | ⟨a0,fl,oe,vs,T,oT,ts,he,hcls,hd,h1,Ie,GN,hT,qY,h3⟩
 ·subst hc;unfold noteFrame;simp only [hf];refine Ê (ē he hd h1 ?_);rw [if_neg (by decide)];refine qX hfr fr hf he st nw hd (ď.mp h1).1 h0 λh' hN hD=>?_;exact hQ h' a0 ⟨hN.1,nw,hN.2.1,hN.2.2.1⟩ hN.2.2.2 (by rw [he] at hod;cases hod;rw [hpl] at hD;exact hD)
 ·by_cases hq:(fl==rawInt L)=Á
  ·unfold noteFrame;simp only [hf];refine Ê (ē he hd h1 ?_);rw [if_pos (show (Value.ref T != Value.none)=Á by simp)];refine Ê (ē hT qY h3 ?_);rw [if_pos hq];refine Ø ?_;have:=hQ s.heap a0 ⟨st,nw,fr,oe,vs,T,oT,ts,he,hcls,hd,h1,Ie,GN,hT,qY,by rw [h3,beq_iff_eq.mp hq]⟩ (.refl _) ⟨od,hod,hpl⟩;exact this
  ·obtain ⟨rfl,h0⟩:=hcls;unfold noteFrame;simp only [hf];refine Ê (ē he hd h1 ?_);rw [if_pos (show (Value.ref T != Value.none)=Á by simp)];refine Ê (ē hT qY h3 ?_);rw [if_neg hq];refine Ê (ś hT qY (ď.mp h3).1 ?_);have yu:∀ b,b≠T→(s.heap.update T (þ (·.setIfInBounds 3 Value.none))).get? b=s.heap.get? b:=λb hb=>Ď _ _ (Ě hb);have Ig:∀ b o,s.heap.get? b=À o→(∀ vs,o.data≠.fields vs)→b≠T:=λb o hb hnf z=>by rw [z,hT] at hb;cases hb;exact hnf ts qY
   refine qX hfr (fr.of_keeps λb o hb hnf=>⟨o,(yu b (Ig b o hb hnf)).trans hb,rfl⟩) hf ((yu e (Ě GN)).trans he)
    (λb o Ls=>(yu b λz=>by rw [z,Ie] at Ls;cases Ls).trans (st b o Ls)) nw hd (ď.mp h1).1 h0 λh' hN hD=>?_
   exact hQ h' a0 ⟨hN.1,nw,hN.2.1,hN.2.2.1⟩ (λb o hb hnf=>hN.2.2.2 b o ((yu b (Ig b o hb hnf)).trans hb) hnf) (by rw [he] at hod;cases hod;rw [hpl] at hD;exact hD)
theorem oz (st:B.StaysIn s.heap) (fr:s.heap.FunFrames B l) (t:s.heap.TracedAtW B e cls a0 fl) (hD:fR e Æ s.heap)
  (hQ:∀ h',B.StaysIn h'→h'.FunFrames B l→h'.TracedW B e cls a0→(∀ b o,s.heap.get? b=À o→(∀ vs,o.data≠.fields vs)→h'.get? b=À o)→fR e Æ h'→Q () {s with heap:=h'}):Û M A (setFlight (.ref e) Æ) Q E s:=by
 obtain ⟨oe,vs,T,oT,ts,he,hc,hd,h1,nT,Te,hT,qY,h3⟩:=t;obtain ⟨od,hod,hpl⟩:=hD;have sz:3<ts.size:=(ď.mp h3).1;generalize hk:s.heap.update T (þ (·.setIfInBounds 3 Value.none))=k;have ot:∀ b,b≠T→k.get? b=s.heap.get? b:=λb n=>by rw [← hk];exact Ď _ _ (Ě n)
 have nr:∀ b o,s.heap.get? b=À o→(∀ vs,o.data≠.fields vs)→b≠T:=λb o q n z=>by rw [z,hT] at q;cases q;exact n ts qY
 have kT:k.get? T=À (þ (·.setIfInBounds 3 Value.none) oT):=by rw [← hk];exact ĭ _ hT (Į (Ĩ qY _))
 unfold setFlight;refine Ê (ē he hd h1 ?_);rw [if_pos (show (Value.ref T != Value.none)=Á by simp)];refine ś hT qY sz ?_;show Q () {s with heap:=s.heap.update T (þ (·.setIfInBounds 3 Value.none))};rw [hk]
 exact hQ k (λb o q=>(ot b λz=>by rw [z,nT] at q;cases q).trans (st b o q)) (fr.of_keeps λb o q n=>⟨o,(ot b (nr b o q n)).trans q,rfl⟩)
  ⟨oe,vs,T,_,_,(ot e (Ě Te)).trans he,hc,hd,h1,nT,Te,kT,Ĩ qY _,by simp [sz]⟩ (λb o q n=>(ot b (nr b o q n)).trans q) ⟨od,(ot e (Ě Te)).trans hod,hpl⟩
theorem qZ (hH:Heap.HeldW B l e cls a0 L s.heap) (hD:fR e Æ s.heap)
  (hQ:∀ h',Ź B l e cls a0 h'→s.heap.UpToSlots h'→fR e Æ h'→Q () {s with heap:=h'}):Û M A (setFlight (.ref e) Æ) Q E s:=by
 obtain ⟨f1,f2,f3,f4⟩:=hH;exact oz f1 f3 f4 hD λh' k1 k2 k3 k4 EX=>hQ h' ⟨k1,f2,k2,k3⟩ (λb o hb hn=>⟨o.slots,k4 b o hb hn⟩) EX
theorem yw (hfr:A.frames=À (env::outer)) (hf:env.frame=À L) (f:tP B (env::outer) e cls s.heap)
  (hQ:∀ h' a0,Ź B outer e cls a0 h'→s.heap.UpToSlots h'→fR e Æ h'→Q () {s with heap:=h'}):Û M A (leaving env (.ref e)) Q E s:=by
 unfold leaving;refine Ê (pL hfr hf f λh1 a0 hH u1 hD=>?_);refine qZ hH hD λh2 hF u2 EX=>?_;obtain ⟨k1,k2,⟨_,_,k3⟩,k4⟩:=hF;exact hQ h2 a0 ⟨k1,k2,k3,k4⟩ (u1.trans u2) EX
theorem tP.vR (f:Ź B l e cls a0 h) (d:fR e Æ h):tP B l e cls h:=⟨f.1,f.2.1,f.2.2.1,.inr ⟨a0,.none,f.2.2.2⟩,d⟩
end
structure J8 (X:Cx) (B:Heap):Prop where
 keep:∀ b o,X.s₀.heap.get? b=À o→X.H₀ b=Æ→b∉frs X.stack→b∉X.ex→B.get? b=À o
 there:∀ b o,X.s₀.heap.get? b=À o→b∉frs X.stack→b∉X.ex→∃ o',B.get? b=À o'
 pins:∀ p∈X.pn,B.get? p.1=À p.2
def EY (X:Cx) (H:Hp) (e:Addr) (cls:Ã) (s:Ç):Prop:=∃ B,tP B X.stack e cls s.heap∧iA X.prog X.w H B∧J8 X B
def uM (mg:Str→Option Ã) (c:XD) (cls:Ã):Prop:=match c with | .mk n _=>mg n=À cls
def fm (X:Cx) (EE:bz):Prop:=∀ (pins:List (Addr×Obj)) (σ:L2.St) (H:Hp) (s:Ç) (e:Addr) (cls:Ã) (c:XD),Inv X pins σ H s→EY X H e cls s→uM X.mg c cls→EE c σ H→X.xe (.ref e) s
section
variable {X:Cx} {pins:List (Addr×Obj)} {σ:L2.St} {H:Hp} {s:Ç} {h':Heap}
theorem IsCell.slots {c:Addr} {v:Option Ã} (u:h.UpToSlots h') (hc:h.IsCell c v):h'.IsCell c v:=by
 obtain ⟨o,e,d⟩:=hc;obtain ⟨sl,e'⟩:=u c o e λvs q=>by rw [d] at q;cases q
 exact ⟨_,e',d⟩
theorem Inv.uN {t:Nat} (I:Inv X pins σ H s) (C:J8 X B) (hok:iA X.prog X.w H B) (st:B.StaysIn h') (u:s.heap.UpToSlots h') (ht:0<t:=by first | exact ð _ | exact (Inv.os (by assumption)).2 | assumption | nofun):Inv X [] σ H {s with heap:=h',toks:=t}:=by
 have sQ:∀ b o,X.s₀.heap.get? b=À o→b≠X.env.locals:=λb o e=>ã (Ë (Ï e) I.ok.above);have Ii:∀ b o,X.s₀.heap.get? b=À o→b∉X.fs→b∉frs X.stack:=λb o e hb z=>by
  rcases Ò.mp (I.iB b z) with z | z
  ·exact sQ b o e z
  ·exact hb z
 have slots:∀ b o,X.s₀.heap.get? b=À o→X.H₀ b=Æ→b∈X.fs→b∉X.ex→∃ sl,h'.get? b=À {o with slots:=sl}:=λb o e n hb hx=>by obtain ⟨sl,e1⟩:=I.base.slot b o e n hb hx;obtain ⟨_,o',eo,hd⟩:=I.ok.ji.mem hb;rw [e] at eo;cases eo;obtain ⟨GY,e2⟩:=u b _ e1 hd;exact ⟨GY,e2⟩
 refine ⟨I.ok,⟨I.os.1,ht⟩,I.bare,⟨λb o e n hb hx=>st _ _ (C.keep b o e n (Ii b o e hb) hx),slots,I.base.free,λb o e hx=>?_,I.base.tups,I.base.gK,I.base.i9⟩,?_,λx c e=>?_,I.free,I.fy,λp hp=>?_,hok.kept st,I.len⟩
 ·by_cases hb:b∈X.fs
  ·obtain ⟨sl,e1⟩:=slots b o e (I.ok.Az b hb) hb hx;exact ⟨_,e1⟩
  ·obtain ⟨o',e1⟩:=C.there b o e (Ii b o e hb) hx;exact ⟨o',st _ _ e1⟩
 ·obtain ⟨m,hn,hl⟩:=I.loc;refine ⟨m,u.ns hn,λi x v e1 e2 e3=>?_⟩;obtain ⟨w,r,l⟩:=hl i x v e1 e2 e3;refine ⟨w,r,?_⟩;rcases l with l | ⟨k,c,e,z⟩
  ·exact .inl l
  ·exact .inr ⟨k,c,e,IsCell.slots u z⟩
 ·obtain ⟨v,z⟩:=I.cell x c e;exact ⟨v,IsCell.slots u z⟩
 ·have AF:p∈X.pn:=by simpa using hp
  obtain ⟨e,n,ne,nf,d⟩:=I.pin p (ì _ AF);exact ⟨st _ _ (C.pins p AF),n,ne,nf,d⟩
end
structure Ij (P:ó) (w:Đ) (outer:List Env) (H:Hp) (s:Ç) (H':Hp) (B:Heap) (s':Ç):Prop where
 os:s'.os=s.os∧0<s'.toks
 bare:RS s'.gens
 keep:∀ b o,s.heap.get? b=À o→H b=Æ→b∉frs outer→B.get? b=À o
 there:∀ b o,s.heap.get? b=À o→b∉frs outer→∃ o',B.get? b=À o'
 slot:∀ b o,s.heap.get? b=À o→H b=Æ→b∈frs outer→∃ sl,s'.heap.get? b=À {o with slots:=sl}
 free:∀ b o,s.heap.get? b=À o→H b=Æ→H' b=Æ
 tups:∀ b xs,H b=À (.tup xs)→H' b=À (.tup xs)
 gK:∀ b o u,H b=À (.di o u)→H' b=À (.di o u)
 i9:∀ b ps,H b=À (.iy ps)→∃ more,H' b=À (.iy (ps++more))
 hok:iA P w H' B
def tR (P:ó) (w:Đ):nX:=λouter H s E ev s'=>∃ e cls a0 B H',ev=.ref e∧Ź B outer e cls a0 s'.heap∧fR e Æ s'.heap∧Ij P w outer H s H' B s'∧E cls Æ H'
theorem Ik (h:fm X EE):HZ (tR X.prog X.w) X EE:=by
 intro pins σ H s ev s' I hq;obtain ⟨e,cls,a0,B,H',rfl,fl,hD,F,c,hc,ee⟩:=hq;have un:Un (frs X.stack) [] H H' s.heap s'.heap:=⟨λb o e n hb _=>fl.1 _ _ (F.keep b o e n hb),λb o e n hb _=>F.slot b o e n hb,λb o e n _=>F.free b o e n,λb o e _=>by
  by_cases hb:b∈frs X.stack
  ·obtain ⟨sl,q⟩:=F.slot b o e (I.jy b hb) hb;exact ⟨_,q⟩
  ·obtain ⟨o',q⟩:=F.there b o e hb;exact ⟨o',fl.1 _ _ q⟩,F.tups,F.gK,F.i9⟩
 have I':Inv X pins σ H' s':=I.xD F.os un (F.hok.kept fl.1) F.bare λb z=>absurd z (by simp);refine h pins σ H' s' e cls c I' ⟨B,.vR fl hD,F.hok,λb o eb n hb hx=>?_,λb o eb hb hx=>?_,λp hp=>?_⟩ hc ee
 ·have Il:b∉X.fs:=λz=>hb (by
   rcases I.ok.stk with q | ⟨q,_⟩
   ·rw [q];exact z
   ·rw [q];unfold frs;rw [Ă];split
    ·exact z
    ·exact Ù _ z)
  exact F.keep b o (I.base.keep b o eb n Il hx) (I.base.free b o eb n hx) hb
 ·obtain ⟨o',q⟩:=I.base.there b o eb hx;exact F.there b o' q hb
 ·obtain ⟨q,n,ne,nf,d⟩:=I.pin p (ì _ hp);exact F.keep p.1 p.2 q n λz=>by
   rcases Ò.mp (I.iB _ z) with z | z
   ·exact ne z
   ·exact nf z
section
variable {P:ó} {w:Đ} {K:Å} {mg:Str→Option Ã} {base:Heap} {f:Addr} {fd:FuncData}
theorem N1 {st:Stmt} {k:Nat} {m:List D→M D} (F:A8 K x qual st f fd) (S:iS N ps (aF st)) (hps:ps.length=n) (hN:N.length=nn) (hm:∀ ds,m ds=cD nn ms ds)
  (hbody:∀ (X:Cx) (EE:bz) (cdv:Ã) (A:Around) (outer:List Env) (s:Ç) (H:Hp) (E:XK),X=lS (tR P w) P w K mg base N qual (aF st) f cdv A outer s H E→cZ k (A.deeper (ķ qual (aF st) s.heap.objs.size f cdv)) →
   fm X EE→PassesOwn (model P w) X.A X.env X.xe→lq X EE (dS st) ms) :
  j0 P w K mg base (tR P w) (k+1) f fd ps (ir K mg n m):=by
 subst hps hN;have e:m=λds=>cD N.length ms ds:=funext hm;subst e;obtain ⟨oc,od,kV,doc,pm,an,cdv,ct,osl,rfl,lk,hcd⟩:=F.ex;refine Hx lk hcd S (λvs H Q E h=>h.len) λA outer s H vs Q E hr h=>?_;obtain ⟨ds,ρ,G,hn,hp,rs,ok⟩:=h;refine ⟨_,hbody _ (λc σ H'=>∀ cls,uM mg c cls→E cls Æ H') cdv A outer s H E rfl hr ?_ So,ds.map À++Ì (N.length - ds.length) Æ,ρ,G,⟨l5 rs,hp⟩,?_⟩
 ·intro pins σ H' s' e cls c I fx hc ee;obtain ⟨B,fb,hok,nA⟩:=fx;refine yw (L:=s.heap.objs.size) I.ok.frames rfl fb λh' a0 fl u hD=>?_;have I':Inv _ [] σ H' {s' with heap:=h'}:=Inv.uN (t:=s'.toks) I nA hok fl.1 u;have sQ:∀ b o,s.heap.get? b=À o→b∉frs outer→b∉frs (ķ qual (aF st) s.heap.objs.size f cdv::outer):=λb o e hb z=>by
   rcases Ò.mp (I.iB b z) with z | z
   ·exact absurd (Ï e) (by rw [show b=s.heap.objs.size from z];exact Ą _)
   ·exact hb z
  refine ⟨e,cls,a0,B,H',rfl,fl,hD,⟨I'.os,I'.bare,λb o eb nb hb=>nA.keep b o eb nb (sQ b o eb hb) (by intro z;exact absurd (show b∈([]:List Addr) from z) (by simp)),λb o eb hb=>nA.there b o eb (sQ b o eb hb) (by intro z;exact absurd (show b∈([]:List Addr) from z) (by simp)),
   λb o eb nb hb=>I'.base.slot b o eb nb hb (by intro z;exact absurd (show b∈([]:List Addr) from z) (by simp)),λb o eb nb=>I'.base.free b o eb nb (by intro z;exact absurd (show b∈([]:List Addr) from z) (by simp)),I'.base.tups,I'.base.gK,I'.base.i9,hok⟩,ee cls hc⟩
 ·dsimp only [cD] at ok;cases q:ms (ds.map À++Ì (N.length - ds.length) Æ) G with
  | stuck=>rw [q] at ok;exact ok
  | nx τ G'=>rw [q] at ok;exact λσ' H' ρ' f ab=>ok .dR H' ρ' f ab.hp (by unfold Rep;rfl)
  | rt d G'=>rw [q] at ok;exact λv H' ρ' f hp r=>ok v H' ρ' f hp r
  | bk τ G'=>rw [q] at ok;exact ok.elim
  | ct τ G'=>rw [q] at ok;exact ok.elim
  | xn c τ G'=>rw [q] at ok;exact λσ' H' ρ' f ab cls hc=>ok cls H' ρ' hc f ab.hp
end
abbrev vS:List Ã:=[.type "ValueError",.type "Exception",.type "BaseException",.type "object"]
theorem Bt (X:K.In h) (e:ŏ K C vS "ValueError.__new__"=Á) :
  ∃ bm N nm q bs hdct sn sub ab col dd k0 k1 k2 k3 k5 mN,h.get? C=À (excClassObj nm q C N bs bm hdct sn sub ab col dd k0 k1 k2 k3 k5 "ValueError.__new__")∧h.Ns N mN∧mN "__init__"=Æ∧OwnTail h vS bm:=by
 unfold ŏ at e;split at e
 ·rename_i dd cd sl ho;split at e
  ·rename_i C' bm k0 k1 k2 k3 n k5 hm hs;simp only [ā,beq_iff_eq,Bool.not_eq_true'] at e;obtain ⟨⟨⟨⟨⟨rfl,rfl⟩,Im⟩,ht⟩,hok⟩,hni⟩:=e;obtain ⟨nm,bs,mro,ns,qn,hd,sn,sub,ab,col,del⟩:=cd;dsimp only at hm Im hok hni;subst hm Im;have hl:sl=#[k0,k1,k2,k3,À (.builtin "ValueError.__new__"),k5]:=by
    cases sl with
    | mk l=>exact congrArg Array.mk hs
   subst hl;exact ⟨bm,ns,nm,qn,bs,hd,sn,sub,ab,col,dd,k0,k1,k2,k3,k5,_,X _ _ ho,.of_isNs (PySem.W.isNs_of_in X hok),PySem.W.nsMap_none_of_in X hok hni,PySem.W.tail_of_in X ht⟩
  ·cases e
 ·cases e
theorem oA {h B base:Heap}:∀ {l:List Env},h.FunFrames base l→(∀ b∈frs l,B.get? b=Æ)→h.FunFrames B l
 | [],_,_=>trivial
 | env::r,⟨hk,⟨L,o,hf,_,ho,hd⟩,hr⟩,hB=>by
  have hm:∀ b,b=L∨b∈frs r→b∈frs (env::r):=λb hb=>by
   unfold frs;rw [Ă,hf];rcases hb with z | z
   ·rw [z];exact ô
   ·exact Ù _ z
  exact ⟨hk,⟨L,o,hf,hB L (hm L (.inl rfl)),ho,hd⟩,oA hr λb hb=>hB b (hm b (.inr hb))⟩
theorem q8 (x:iA P w H h) (k:∀ b o,H b≠Æ→h.get? b=À o→B.get? b=À o):iA P w H B:=λa o e=>
 (x a o e).stay (λb u hb q=>k b u (by
  rcases hb with z | z
  ·rw [z,e];simp
  ·rw [z];simp) q) (λ_ q=>q) λ_ _ q=>q
section
variable {X:Cx} {EE:bz} {pins:List (Addr×Obj)} {σ:L2.St} {H:Hp} {s:Ç}
theorem vU {e:Addr} (I:Inv X pins σ H s) (hm:Heap.MadeExcOf s.heap h' e (.ref C) args):EY X H e (.ref C) {s with heap:=h'}:=by
 have hg:∀ b o,s.heap.get? b=À o→b∉frs X.stack→(Œ s.heap (frs X.stack)).get? b=À o:=λb o e hb=>RV _ e hb;have Il:∀ b,b∉frs X.stack→b∉X.fs:=λb hb z=>hb (by
  rcases I.ok.stk with q | ⟨q,_⟩
  ·rw [q];exact z
  ·rw [q];unfold frs;rw [Ă];split
   ·exact z
   ·exact Ù _ z)
 obtain ⟨t,he,_,_⟩:=hm.there;refine ⟨Œ s.heap (frs X.stack),⟨λb o q=>hm.keeps b o (ŗ _ q),?_,?_,.inl ⟨_,_,_,he,rfl,rfl,rfl,rfl⟩,⟨_,he,rfl⟩⟩,?_,⟨λb o q n hb hx=>?_,λb o q hb hx=>?_,λp hp=>?_⟩⟩
 ·cases q:(Œ s.heap (frs X.stack)).get? e with
  | none=>rfl
  | some o=>have:=ŗ _ q;rw [hm.new] at this;cases this
 ·exact (oA I.stack λb hb=>RP _ hb).of_keeps λb o q _=>⟨o,hm.keeps b o q,rfl⟩
 ·exact q8 I.hok λb o n q=>hg b o q λz=>n (I.jy b z)
 ·exact hg b o (I.base.keep b o q n (Il b hb) hx) hb
 ·obtain ⟨o',q'⟩:=I.base.there b o q hx;exact ⟨o',hg b o' q' hb⟩
 ·obtain ⟨q,n,ne,nf,d⟩:=I.pin p (ì _ hp);exact hg _ _ q λz=>(Ò.mp (I.iB _ z)).elim ne nf
def cy (x:Str) (m:DS→M (List D)):MS:=λτ=>bP (m τ) (λds G=>if ds.length≤Ä then .xn (.mk x ds) τ G else .stuck) λc G=>.xn c τ G
theorem yx (hc:X.calm=Á) (hx:fm X EE) (hm:X.mg x=À (.ref C)) (hq:ŏ X.K C vS "ValueError.__new__"=Á) (hg:Gl X x) (hd:(x==("__debug__":Str))=Â)
  (ha:QA X EE (e::es) m) (he:Ô (e::es) X.env=(Â,eval e X.env)::Ô es X.env) (hpl:(backTo cpos (Ô es X.env)).any (·.1)=Â) :
  QS X EE (.Raise (À (.Call (.Name x np) (e::es) [] cpos)) Æ pos) (cy x m):=by
 intro pins s σ H Dd I h;obtain ⟨τ,ρ,G,ab,ok⟩:=ym (k:=λτ ds G=>if ds.length≤Ä then .xn (.mk x ds) τ G else .stuck) h;obtain ⟨bm,N,nm,q,bs,hdct,sn,sub,bF,col,dd,k0,k1,k2,k3,k5,mN,hC,hN,hni,T⟩:=Bt I.ok.mod.GD hq
 refine wpAny_Raise_call_subU (C:=C) (nm:=nm) (q:=q) (N:=N) (bs:=bs) (bm:=bm) (hdct:=hdct) (sn:=sn) (sub:=sub) (ab:=bF) (col:=col) (dd:=dd) (k0:=k0) (k1:=k1) (k2:=k2) (k3:=k3) (k5:=k5) ı (bmB:=vS) (by symm) ı (mN:=mN) (T.hasType ı.hasBase) (I.ok.hd hc)
  (by rw [he];show (Â||(backTo cpos (Ô es X.env)).any (·.1))=Â;rw [hpl];rfl) hni (gM I hg hm ⟨rfl,?_⟩ hd)
 have h1:=ha cpos pins s σ H _ I ⟨τ,ρ,G,ab,ok⟩;rw [he] at h1 ⊢;refine İ (ê h1 (λus s2 h2=>?_) λ_ _ z=>z);obtain ⟨vs,H2,I2,r2,τ2,ρ2,G2,ds,cG,rs,aO⟩:=h2;by_cases hl:ds.length≤Ä
 ·rw [if_pos hl] at aO;refine ⟨rfl,by show us.length≤_;rw [← r2.length,← rs.length];exact hl,I2.bk _ _ hC,hN.keeps I2.bk,T.keeps I2.bk,λh' e hmade=>?_⟩;exact hx pins σ H2 _ e (.ref C) (.mk x ds) (I2.kept (t':=s2.toks) hmade.keeps) (vU I2 hmade) hm (aO σ H2 ρ2 .refl cG)
 ·rw [if_neg hl] at aO;exact aO.elim
end
abbrev Cx.to (X:Cx) (E:Ã→Ç→Prop) (pn:List (Addr×Obj)):Cx:={X with xe:=E,pn:=pn}
abbrev Cx.hand (X:Cx) (e:Addr):Cx:={X with A:=X.A.mark (À (.ref e)),calm:=Â,xe:=λ_ _=>False}
theorem CQ (ok:X.Ok) (E:Ã→Ç→Prop) (pn:List (Addr×Obj)):(Cx.to X E pn).Ok:=⟨ok.mod,ok.kind,ok.glob,ok.blt,ok.above,ok.inj,ok.has,ok.GF,ok.hd,ok.frames,ok.stk,ok.KJ,ok.bs,ok.xC,ok.vt,ok.vz,ok.ji,ok.Az⟩
theorem CS (ok:(Cx.to X E pn).Ok):X.Ok:=⟨ok.mod,ok.kind,ok.glob,ok.blt,ok.above,ok.inj,ok.has,ok.GF,ok.hd,ok.frames,ok.stk,ok.KJ,ok.bs,ok.xC,ok.vt,ok.vz,ok.ji,ok.Az⟩
theorem Bu (ok:X.Ok) (e:Addr):(Cx.hand X e).Ok:=⟨ok.mod,ok.kind,ok.glob,ok.blt,ok.above,ok.inj,ok.has,ok.GF,λz=>absurd z Ċ,ok.frames,ok.stk,ok.KJ,ok.bs,ok.xC,ok.vt,ok.vz,ok.ji,ok.Az⟩
section
variable {X:Cx} {EE:bz} {pins:List (Addr×Obj)} {σ:L2.St} {H:Hp} {s:Ç} {E:Ã→Ç→Prop}
theorem EZ (I:Inv X pins σ H s) (E:Ã→Ç→Prop):Inv (Cx.to X E (X.pn++pins)) [] σ H s:=⟨CQ I.ok _ _,I.os,I.bare,I.base,I.loc,I.cell,I.free,I.fy,λp hp=>I.pin p (by simpa using hp),I.hok,I.len⟩
theorem l7 (I:Inv (Cx.to X E (X.pn++pins)) dm σ H s):Inv X pins σ H s:=⟨CS I.ok,I.os,I.bare,I.base,I.loc,I.cell,I.free,I.fy,λp hp=>I.pin p (ì _ hp),I.hok,I.len⟩
theorem jF (I:Inv X pins σ H s) (e:Addr):Inv (Cx.hand X e) pins σ H s:=⟨Bu I.ok e,I.os,I.bare,I.base,I.loc,I.cell,I.free,I.fy,I.pin,I.hok,I.len⟩
theorem gT {e:Addr} (ok:X.Ok) (I:Inv (Cx.hand X e) pins σ H s):Inv X pins σ H s:=⟨ok,I.os,I.bare,I.base,I.loc,I.cell,I.free,I.fy,I.pin,I.hok,I.len⟩
theorem oB {e:Addr} {f:Flow} (ok:X.Ok) (h:SP (Cx.hand X e) pins Dd f s):SP X pins Dd f s:=by
 cases f with
 | next=>obtain ⟨σ',H',I,q⟩:=h;exact ⟨σ',H',gT ok I,q⟩
 | brk=>obtain ⟨σ',H',I,q⟩:=h;exact ⟨σ',H',gT ok I,q⟩
 | cont=>obtain ⟨σ',H',I,q⟩:=h;exact ⟨σ',H',gT ok I,q⟩
 | ret u=>obtain ⟨v,σ',H',I,r,q⟩:=h;exact ⟨v,σ',H',gT ok I,r,q⟩
theorem uO {f:Flow} (h:SP (Cx.to X E (X.pn++pins)) dm Dd f s):SP X pins Dd f s:=by
 cases f with
 | next=>obtain ⟨σ',H',I,q⟩:=h;exact ⟨σ',H',l7 I,q⟩
 | brk=>obtain ⟨σ',H',I,q⟩:=h;exact ⟨σ',H',l7 I,q⟩
 | cont=>obtain ⟨σ',H',I,q⟩:=h;exact ⟨σ',H',l7 I,q⟩
 | ret u=>obtain ⟨v,σ',H',I,r,q⟩:=h;exact ⟨v,σ',H',l7 I,r,q⟩
def Lu (X:Cx) (H:Hp) (e:Addr) (cls:Ã) (s:Ç):Prop:=∃ B a0 fl,(B.StaysIn s.heap∧B.get? e=Æ∧s.heap.FunFrames B X.stack∧s.heap.TracedAtW B e cls a0 fl∧fR e Æ s.heap)∧iA X.prog X.w H B∧J8 X B
def QH (X:Cx) (EE:bz) (hs:List ExceptHandler) (mh:XD→MS):Prop:=∀ (σ:L2.St) (H:Hp) (s:Ç) (Dd:Ends) (e:Addr) (cls:Ã) (c:XD),Inv X [] σ H s→Lu X H e cls s→uM X.mg c cls →
 (∃ τ ρ G,Ab X.K X.mg σ H τ ρ G∧qS X.K X.mg EE H ρ Dd (mh c τ G))→Û (model X.prog X.w) X.A (handleBy (.ref e) X.env hs) (SP X [] Dd) X.xe s
def Lv:Res→Res
 | .xn _ _ _=>.stuck
 | r=>r
def E0:XD→MS:=λ_ _ _=>.stuck
def ri (p:Str→Option Bool) (m:MS) (r:XD→MS):XD→MS:=λc τ G=>match c with
 | .mk n _=>match p n with
  | some Á=>Lv (m τ G)
  | some Â=>r c τ G
  | none=>.stuck
theorem E2:QH X EE [] E0:=λ_ _ _ _ _ _ _ _ _ _ zz=>by obtain ⟨_,_,_,_,ok⟩:=zz;exact ok.elim
theorem Bv {p:Str→Option Bool} {np pos:Pos} {b0:Stmt} {suite:List Stmt} {rest:List ExceptHandler} {m:MS} {mr:XD→MS} (hm:X.mg x=À cv) (hp:∀ n b cls,p n=À b→X.mg n=À cls→Ŝ X.K cls cv=À b) (hg:Gl X x) (hd:(x==("__debug__":Str))=Â)
  (hb:∀ e,lq (Cx.hand X e) J6 (b0::suite) m) (hr:QH X EE rest mr):QH X EE (.ExceptHandler (À (.Name x np)) Æ (b0::suite) pos::rest) (ri p m mr):=by
 intro σ H s Dd e cls c I ft hc hok;obtain ⟨n,args⟩:=c;refine RX (codeAny_handlers_test ?_) (by intro z;cases z);have Ih:=jF I e;refine gM (X:=Cx.hand X e) Ih hg hm ?_ hd;have Lw:=ft;obtain ⟨B,a0,fl,⟨st,nw,fr,tr,hD⟩,hkb,nA⟩:=Lw;obtain ⟨ob,hob,hcls⟩:=tr.there;have LT:R1 (model X.prog X.w) s.heap (typeOf (.ref e)) cls:=by subst hcls;exact (Sz hob).andThen .now
 cases q:p n with
 | none=>obtain ⟨τ,ρ,G,ab,ok⟩:=hok;dsimp only [ri] at ok;rw [q] at ok;exact ok.elim
 | some b=>
  refine (SM I.nD LT (hp n b cls q hc)).here ?_;obtain ⟨τ,ρ,G,ab,ok⟩:=hok;dsimp only [ri] at ok;rw [q] at ok;cases b with
  | false=>exact hr σ H s Dd e cls (.mk n args) I ft hc ⟨τ,ρ,G,ab,ok⟩
  | true=>
   refine codeAny_handlers_suite ?_;refine wpAny_setFlight_noneW st fr tr λh' k1 k2 k3 k4=>?_;have I':Inv X [] σ H {s with heap:=h'}:=Inv.uN (t:=s.toks) I nA hkb k1 λb o hb hn=>⟨o.slots,k4 b o hb hn⟩;refine ê (hb e [] _ σ H Dd (jF I' e) ⟨τ,ρ,G,ab,?_⟩) (λf s2 h2=>?_) λ_ _ z=>Ĉ z
   ·dsimp only at ok;cases r:m τ G with
    | stuck=>rw [r] at ok;exact ok
    | nx τ' G'=>rw [r] at ok;exact ok
    | rt d G'=>rw [r] at ok;exact ok
    | bk τ' G'=>rw [r] at ok;exact ok
    | ct τ' G'=>rw [r] at ok;exact ok
    | xn c τ' G'=>rw [r] at ok;exact ok.elim
   ·exact oB I.ok h2
def rj (mb:MS) (mh:XD→MS) (me:MS):MS:=λτ G=>match mb τ G with
 | .nx τ' G'=>me τ' G'
 | .xn c τ' G'=>mh c τ' G'
 | r=>r
theorem E3 {body orelse:List Stmt} {h0:ExceptHandler} {hs:List ExceptHandler} {pos:Pos} {mb me:MS} {mh:XD→MS} (hst:X.stack=X.env::X.outer) (hfr:∃ L,X.env.frame=À L)
  (hb:∀ (E':Ã→Ç→Prop) (pn:List (Addr×Obj)) (yy:bz),fm (Cx.to X E' pn) yy→PassesOwn (model X.prog X.w) X.A X.env E'→lq (Cx.to X E' pn) yy body mb)
  (hh:∀ (pn:List (Addr×Obj)),QH (Cx.to X X.xe pn) EE (h0::hs) mh) (he:lq X EE orelse me):QS X EE (.Try body (h0::hs) orelse [] pos) (rj mb mh me):=by
 intro pins s σ H Dd I h;obtain ⟨τ,ρ,G,ab,ok⟩:=h;refine wpAny_Try_except ?_;obtain ⟨L,hL⟩:=hfr
 refine ê (hb (λe s₁=>Û (model X.prog X.w) X.A (noteFrame e X.env) (λ_ s₂=>Û (model X.prog X.w) X.A (setFlight e Æ) (λ_ s₃=>Û (model X.prog X.w) X.A (handleBy e X.env (h0::hs)) (SP X pins Dd) X.xe s₃) X.xe s₂) X.xe s₁) (X.pn++pins)
  (λc σ' H'=>∃ τ' ρ' G',cK X.K H H' ρ ρ'∧Ab X.K X.mg σ' H' τ' ρ' G'∧qS X.K X.mg EE H' ρ' Dd (mh c τ' G')) ?_ PassesOwn.looking [] s σ H {Dd with nx:=gi X.K X.mg EE me Dd} (EZ I _) ?_) (λf s1 h1=>?_) λ_ _ z=>z
 ·intro dm σ' H' s' e cls c I' fx hc ee;obtain ⟨B,fb,hok,nA⟩:=fx;have Lx:X.A.frames=À (X.env::X.outer):=by rw [← hst];exact I.ok.frames
  have Ly:tP B (X.env::X.outer) e cls s'.heap:=by rw [← hst];exact fb
  refine pL Lx hL Ly λh1 a0 hH u1 hD=>?_;refine qZ hH hD λh2 hF u2 EX=>?_;obtain ⟨τ',ρ',G',_,bF,ok'⟩:=ee;have I2:Inv (Cx.to X X.xe (X.pn++pins)) [] σ' H' {s' with heap:=h2}:=by have z:=Inv.uN (t:=s'.toks) I' nA hok hF.1 (u1.trans u2);exact ⟨CQ (CS z.ok) _ _,z.os,z.bare,z.base,z.loc,z.cell,z.free,z.fy,z.pin,z.hok,z.len⟩
  refine ê (hh (X.pn++pins) σ' H' {s' with heap:=h2} Dd e cls c I2 ⟨B,a0,.none,⟨hF.1,hF.2.1,by show h2.FunFrames B X.stack;rw [hst];exact hF.2.2.1,hF.2.2.2,EX⟩,hok,⟨nA.keep,nA.there,nA.pins⟩⟩ hc ⟨τ',ρ',G',bF,ok'⟩) (λf s3 h3=>uO h3) λ_ _ z=>z
 ·refine ⟨τ,ρ,G,ab,?_⟩;dsimp only [rj] at ok;cases q:mb τ G with
  | stuck=>rw [q] at ok;exact ok
  | nx τ' G'=>rw [q] at ok;exact λσ' H' ρ' f bF=>⟨τ',ρ',G',bF,ok.fut f⟩
  | rt d G'=>rw [q] at ok;exact ok
  | bk τ' G'=>rw [q] at ok;exact ok
  | ct τ' G'=>rw [q] at ok;exact ok
  | xn c τ' G'=>rw [q] at ok;exact λσ' H' ρ' f bF=>⟨τ',ρ',G',f,bF,ok.fut f⟩
 ·cases f with
  | next=>obtain ⟨σ',H',I',q⟩:=h1;exact he pins s1 σ' H' Dd (l7 I') q
  | brk=>exact uO h1
  | cont=>exact uO h1
  | ret u=>exact uO h1
end
theorem find_erase {α:Type} {p q:α→Bool} (hpq:∀ x,q x=Á→p x=Â):∀ (l:List α) (i:Nat),l.findIdx? q=À i→(l.eraseIdx i).find? p=l.find? p
 | [],i,h=>by simp at h
 | x::l,i,h=>by
  rw [List.findIdx?_cons] at h;by_cases hx:q x=Á
  ·rw [if_pos hx] at h;cases h;rw [List.eraseIdx_cons_zero,Ň (by rw [hpq x hx];decide)]
  ·rw [if_neg hx] at h;obtain ⟨j,hj,rfl⟩:=Option.map_eq_some_iff.mp h;rw [ů];cases hp:p x with
   | true=>rw [ź hp,ź hp]
   | false=>rw [Ň (by rw [hp];decide),Ň (by rw [hp];decide)];exact find_erase hpq l j hj
section
variable {M:Model} {A:Around} {E:Ã→Ç→Prop} {s:Ç}
theorem E4 {m:Str→Option Ã} {v:Ã} {Q:Bool→Ç→Prop} (hn:s.heap.Ns a m) (hv:m x=À v)
  (hQ:∀ h' m',h'.Ns a m'→(∀ y,y≠x→m' y=m y)→Ĵ a s.heap h'→Q Á {s with heap:=h'}):Û M A (nsDel a x) Q E s:=by
 obtain ⟨o,es,ep,ho,hd,hk,hm⟩:=id hn;obtain ⟨cl,d,dt,sl⟩:=o;obtain ⟨l⟩:=es;dsimp only at hd;subst hd;have h1:=hm x;rw [hv] at h1;unfold nsFind findBy at h1;obtain ⟨en,h2,_⟩:=Option.map_eq_some_iff.mp h1;rw [ŝ] at h2;have h3:en.key.isStr x=Á:=by simpa using List.find?_some h2
 obtain ⟨i,hi⟩:∃ i,l.findIdx? (·.key.isStr x)=À i:=by
  cases q:l.findIdx? (·.key.isStr x) with
  | some i=>exact ⟨i,rfl⟩
  | none=>have:=List.findIdx?_eq_none_iff.mp q en (ţ h2);rw [h3] at this;cases this
 have hany:(l.toArray.any λz=>z.key.isStr x)=Á:=by rw [List.any_toArray];exact ų.mpr ⟨en,ţ h2,h3⟩
 unfold nsDel;refine Ê (wpAny_loadPart ho (Ê ?_));rw [nsHas_eq];unfold nsHasByArray;dsimp only;rw [hany];refine Ø (Ê (wpAny_updatePart ho (Ø ?_)));have dn:Obj.dropName x ⟨cl,d,.dict l.toArray ep,sl⟩=⟨cl,d,.dict (l.eraseIdx i).toArray (ep+1),sl⟩:=by rw [Obj.dropName_eq];unfold Obj.dropNameByArray;simp only [List.findIdx?_toArray,hi,ŉ]
 refine hQ _ (λy=>nsFind (l.eraseIdx i).toArray y) ⟨_,_,_,ĭ _ ho (by rw [dn];rfl),by rw [dn],?_,λ_=>rfl⟩ (λy hy=>?_) (Ĵ.update ..)
 ·intro z hz;exact hk z (by simpa using List.mem_of_mem_eraseIdx (by simpa using hz))
 ·rw [← hm y];unfold nsFind findBy;rw [ŝ,ŝ,find_erase (λz hz=>?_) l i hi];cases hq:z.key with
  | str n t=>rw [hq] at hz;unfold Value.isStr at hz ⊢;rw [beq_iff_eq.mp hz];exact beq_false_of_ne (Ě hy)
  | _=>rw [hq] at hz;unfold Value.isStr at hz;cases hz
end
section
variable {X:Cx} {EE:bz} {pins:List (Addr×Obj)} {σ:L2.St} {H:Hp} {s:Ç} {M:Model} {A:Around} {E:Ã→Ç→Prop}
theorem name_goes {n:Str} {Q:Unit→Ç→Prop} (I:Inv X pins σ H s) (hN:X.N.Nodup) (hi:X.N[i]?=À n) (hl:X.env.scope.names.lookup n=À .local) (h:∀ s',Inv X pins (σ.set i Æ) H s'→Q () s') :
  Û M A (do bindName X.env n .none;unbindBehindTheSuite X.env n pos) Q E s:=by
 refine Ê (wpAny_bindName (jz (v:=.dR) I hN hi (.inl hl) rfl (λs1 I1=>?_) (.inr hl)));have hcls:(X.env.scope.kind==.class||(X.env.scope.kind==.module&&X.env.locals != X.env.globals))=Â:=by rw [I.ok.kind];rfl
 have hk:X.env.kindOf n=À .local:=hl;have GZ:i<σ.length:=by rw [I.len];exact (É.mp hi).1
 obtain ⟨m,hn,hlk⟩:=id I1.loc;obtain ⟨u,_,lk⟩:=hlk i n .dR hi (Ħ GZ) (.inl hl);have hmn:m n=À u:=by
  rcases lk with ⟨_,z⟩ | ⟨z,_⟩
  ·exact z
  ·rw [hk] at z;rcases z with z | z<;>cases z
 unfold unbindBehindTheSuite unbindName;refine wpAny_onRaise (Ê (wpAny_point (Ê ?_)));unfold deleteName;simp only [hk,hcls];rw [if_neg (by decide)];refine Ê (E4 hn hmn λh' m' hn' hm' sb=>?_);simp only [Bool.not_true,Se,if_false];refine Ø (wpAny_point (h _ ?_));obtain ⟨oL,_,_,KP,_⟩:=id hn;have sQ:∀ b o,X.s₀.heap.get? b=À o→b≠X.env.locals:=λb o e=>ã (Ë (Ï e) I.ok.above)
 refine ⟨I1.ok,I1.os,I1.bare,⟨λb o e z hb hx=>(sb.2 b (sQ b o e)).trans (I1.base.keep b o e z hb hx),λb o e z hb hx=>(I1.base.slot b o e z hb hx).imp λsl q=>(sb.2 b (sQ b o e)).trans q,I1.base.free,λb o e hx=>(I1.base.there b o e hx).imp λo' q=>(sb.2 b (sQ b o e)).trans q,
  I1.base.tups,I1.base.gK,I1.base.i9⟩,⟨m',hn',λj y v e1 e2 e3=>?_⟩,λy c e=>(I1.cell y c e).imp λw z=>z.sameBut sb (I1.xw y c e),I1.free,I1.fy,λp hp=>?_,?_,by rw [List.length_set];exact I.len⟩
 ·have hj:j≠i:=λz=>by subst z;rw [Ħ GZ] at e2;cases e2
  have hy:y≠n:=λz=>hj (lM hN e1 (z▸hi));rw [ß (Ě hj)] at e2;obtain ⟨w,r,q⟩:=hlk j y v e1 (by rw [ß (Ě hj)];exact e2) e3;refine ⟨w,r,?_⟩;rcases q with ⟨k,q⟩ | ⟨k,c,q,z⟩
  ·exact .inl ⟨k,by rw [hm' y hy];exact q⟩
  ·exact .inr ⟨k,c,q,z.sameBut sb (I1.xw y c q)⟩
 ·obtain ⟨e,z,ne,nf,d⟩:=I1.pin p hp;exact ⟨(sb.2 p.1 ne).trans e,z,ne,nf,d⟩
 ·intro b ob e;refine (I1.hok b ob e).stay (λc w hc q=>(sb.2 c ?_).trans q) (λ_ q=>q) λ_ _ q=>q;rintro rfl;rcases hc with rfl | hc
  ·rw [I1.free] at e;cases e
  ·rw [I1.free] at hc;cases hc
theorem yz {d:Addr} {o:HO} (x:iA P w H h) (hn:H d=Æ) (new:ef P w (upd H d o) h d o):iA P w (upd H d o) h:=λb u e=>by
 by_cases hb:b=d
 ·subst hb;rw [cB] at e;cases e;exact new
 ·rw [aD hb] at e;exact (x b u e).stay (λ_ _ _ q=>q) (λc q=>by rw [aD (aS q hn)];exact q) λc xs q=>by rw [aD (aS q hn)];exact q
theorem ef.there {o:HO} (x:ef P w H h a o):∃ u,h.get? a=À u:=by
 cases o with
 | lst xs=>obtain ⟨_,_,_,_,e⟩:=x;exact ⟨_,e⟩
 | tup xs=>obtain ⟨_,_,_,ob,e,_⟩:=x;exact ⟨_,e⟩
 | dK kvs=>obtain ⟨_,_,_,_,o,_,_,e,_⟩:=x;exact ⟨_,e⟩
 | dT kvs=>obtain ⟨_,_,_,_,o,_,_,e,_⟩:=x;exact ⟨_,e⟩
 | set S n=>obtain ⟨o,_,_,_,e,_⟩:=x;exact ⟨_,e⟩
 | ins C dx fs=>obtain ⟨_,_,_,e,_⟩:=x;exact ⟨_,e⟩
 | own y=>obtain ⟨_,e⟩:=x;exact ⟨_,e⟩
 | xd fs=>obtain ⟨_,⟨_,_,_,e,_⟩,_⟩:=x;exact ⟨_,e⟩
 | uA lo hi=>obtain ⟨_,_,_,e⟩:=x;exact ⟨_,e⟩
 | di ob u=>obtain ⟨e,_⟩:=x;exact ⟨_,e⟩
 | iy ps=>exact ⟨_,x⟩
 | met f y=>exact ⟨_,x⟩
 | ext φ=>exact x.2.1
theorem vV {e:Addr} {vs:Array Ã} (I:Inv X [] σ H s) (hex:X.ex=[]) (nA:J8 X B) (hkb:iA X.prog X.w H B) (nw:B.get? e=Æ) (fr:s.heap.FunFrames B X.stack) (he:s.heap.get? e=À oe) (hc:oe.cls=cls) (hd:oe.data=.fields vs) (hp:oe.dict=Æ) :
  H e=Æ∧Inv X [] σ (upd H e (.ext (uG e cls))) s:=by
 have hn:H e=Æ:=by
  cases q:H e with
  | none=>rfl
  | some u=>obtain ⟨o,z⟩:=ef.there (hkb e u q);rw [nw] at z;cases z
 have N2:e∉frs X.stack:=λz=>by obtain ⟨_,o,q,n⟩:=fr.mem z;rw [he] at q;cases q;exact n vs hd
 have n0:∀ b o,X.s₀.heap.get? b=À o→b≠e:=λb o q z=>by subst z;obtain ⟨o',q'⟩:=nA.there b o q N2 (by rw [hex];simp);rw [nw] at q';cases q'
 have nL:X.env.locals≠e:=λz=>by obtain ⟨m,⟨o,_,_,q,d,_⟩,_⟩:=I.loc;rw [z,he] at q;cases q;rw [hd] at d;cases d
 have nC:∀ x c,X.env.cells.lookup x=À c→c≠e:=λx c q z=>by obtain ⟨v,o,ho,d⟩:=I.cell x c q;rw [z,he] at ho;cases ho;rw [hd] at d;cases d
 refine ⟨hn,I.ok,I.os,I.bare,⟨I.base.keep,I.base.slot,λb o q n hx=>by rw [aD (n0 b o q)];exact I.base.free b o q n hx,I.base.there,λb xs q=>?_,λb o u q=>?_,λb ps q=>?_⟩,I.loc,I.cell,by rw [aD nL];exact I.free,λx c q=>by rw [aD (nC x c q)];exact I.fy x c q,
  λp hq=>?_,yz I.hok hn ⟨⟨oe,vs,he,hc,hd,hp⟩,⟨oe,he⟩,λh1 h2 ⟨o,ws,q,r⟩ k=>⟨o,ws,k o q,r⟩⟩,I.len⟩
 ·have:=I.base.tups b xs q;rw [aD (aS this hn)];exact this
 ·have:=I.base.gK b o u q;rw [aD (aS this hn)];exact this
 ·obtain ⟨more,z⟩:=I.base.i9 b ps q;exact ⟨more,by rw [aD (aS z hn)];exact z⟩
 ·obtain ⟨q,n,r⟩:=I.pin p hq;have np:p.1≠e:=λz=>by have:=nA.pins p (by simpa using hq);rw [z,nw] at this;cases this
  exact ⟨q,by rw [aD np];exact n,r⟩
def yC (i:Nat):Res→Res
 | .nx τ G=>.nx (τ.set i Æ) G
 | .bk τ G=>.bk (τ.set i Æ) G
 | .ct τ G=>.ct (τ.set i Æ) G
 | .rt d G=>.rt d G
 | _=>.stuck
def l8 (p:Str→Option Bool) (i:Nat) (m:MS) (r:XD→MS):XD→MS:=λc τ G=>match c with
 | .mk n as=>match p n with
  | some Á=>yC i (m (τ.set i (À (.lW n as))) G)
  | some Â=>r c τ G
  | none=>.stuck
theorem j6 (i:Nat) (h:kN K mg H ρ σ τ):kN K mg H ρ (σ.set i Æ) (τ.set i Æ):=by
 refine ⟨by simp [h.1],λj d e=>?_⟩;by_cases hj:i=j
 ·subst hj;rw [ù] at e;split at e
  ·split at e<;>cases e
  ·exact absurd rfl ‹_›
 ·rw [ß hj] at e ⊢;exact h.2 j d e
theorem yD {p:Str→Option Bool} {nn:Str} {i:Nat} {np pos:Pos} {b0:Stmt} {suite:List Stmt} {rest:List ExceptHandler} {m:MS} {mr:XD→MS} (hm:X.mg x=À cv) (hp:∀ n b cls,p n=À b→X.mg n=À cls→Ŝ X.K cls cv=À b) (hg:Gl X x) (hd:(x==("__debug__":Str))=Â)
  (hex:X.ex=[]) (hN:X.N.Nodup) (hi:X.N[i]?=À nn) (hl:X.env.scope.names.lookup nn=À .local)
  (hb:∀ e,lq (Cx.hand X e) J6 (b0::suite) m) (hr:QH X EE rest mr):QH X EE (.ExceptHandler (À (.Name x np)) (À nn) (b0::suite) pos::rest) (l8 p i m mr):=by
 intro σ H s Dd e cls c I ft hc hok;obtain ⟨n,args⟩:=c;refine RX (codeAny_handlers_test ?_) (by intro z;cases z);have Ih:=jF I e;refine gM (X:=Cx.hand X e) Ih hg hm ?_ hd;have Lw:=ft;obtain ⟨B,a0,fl,⟨st,nw,fr,tr,hD⟩,hkb,nA⟩:=Lw;obtain ⟨ob,hob,hcls⟩:=tr.there;have LT:R1 (model X.prog X.w) s.heap (typeOf (.ref e)) cls:=by subst hcls;exact (Sz hob).andThen .now
 obtain ⟨τ,ρ,G,ab,ok⟩:=hok;dsimp only [l8] at ok;cases q:p n with
 | none=>rw [q] at ok;exact ok.elim
 | some b=>
  refine (SM I.nD LT (hp n b cls q hc)).here ?_;rw [q] at ok;cases b with
  | false=>exact hr σ H s Dd e cls (.mk n args) I ft hc ⟨τ,ρ,G,ab,ok⟩
  | true=>
   refine codeAny_handlers_suite_as ?_;refine oz st fr tr hD λh' k1 k2 k3 k4 EX=>?_;have I':Inv X [] σ H {s with heap:=h'}:=Inv.uN (t:=s.toks) I nA hkb k1 λb o hb hn=>⟨o.slots,k4 b o hb hn⟩;obtain ⟨oe,vs,_,_,_,he,⟨hce,_⟩,N3,_⟩:=k3;obtain ⟨od,hod,hpl⟩:=EX;rw [he] at hod;cases hod;obtain ⟨hn,I1⟩:=vV I' hex nA hkb nw k2 he hce N3 hpl;have f1:cK X.K H (upd H e (.ext (uG e cls))) ρ ρ:=eX hn ρ;have r1:Rep X.K X.mg ρ (upd H e (.ext (uG e cls))) (.lW n args) (.ref e):=by unfold Rep;exact ⟨e,cls,rfl,hc,cB⟩
   refine jz (X:=X) (v:=.ref e) I1 hN hi (.inl hl) rfl (λs2 I2=>?_) (.inr hl);refine ê (hb e [] s2 (σ.set i (À (.ref e))) _ {nx:=λσ' H'=>Dd.nx (σ'.set i Æ) H',bk:=λσ' H'=>Dd.bk (σ'.set i Æ) H',ct:=λσ' H'=>Dd.ct (σ'.set i Æ) H',rt:=Dd.rt} (jF I2 e) ⟨τ.set i (À (.lW n args)),ρ,G,⟨(ab.st.mono f1).set r1,ab.hp.new hn⟩,?_⟩) (λf s3 h3=>?_) λ_ _ z=>Ĉ z
   ·cases r:m (τ.set i (À (.lW n args))) G with
    | stuck=>rw [r] at ok;exact ok
    | nx τ' G'=>rw [r] at ok;exact λσ' H' ρ' f bF=>ok (σ'.set i Æ) H' ρ' (f1.trans f) ⟨j6 i bF.st,bF.hp⟩
    | bk τ' G'=>rw [r] at ok;exact λσ' H' ρ' f bF=>ok (σ'.set i Æ) H' ρ' (f1.trans f) ⟨j6 i bF.st,bF.hp⟩
    | ct τ' G'=>rw [r] at ok;exact λσ' H' ρ' f bF=>ok (σ'.set i Æ) H' ρ' (f1.trans f) ⟨j6 i bF.st,bF.hp⟩
    | rt d G'=>rw [r] at ok;exact λv H' ρ' f AF rp=>ok v H' ρ' (f1.trans f) AF rp
    | xn c τ' G'=>rw [r] at ok;exact ok.elim
   ·have h4:=oB I.ok h3;cases f with
    | next=>obtain ⟨σ',H',J,z⟩:=h4;exact name_goes J hN hi hl λs4 J4=>⟨_,H',J4,z⟩
    | brk=>obtain ⟨σ',H',J,z⟩:=h4;exact name_goes J hN hi hl λs4 J4=>⟨_,H',J4,z⟩
    | cont=>obtain ⟨σ',H',J,z⟩:=h4;exact name_goes J hN hi hl λs4 J4=>⟨_,H',J4,z⟩
    | ret u=>obtain ⟨v,σ',H',J,r,z⟩:=h4;exact name_goes J hN hi hl λs4 J4=>⟨v,_,H',J4,r,z⟩
end
def eG (env:Env):List (Str×NameKind)→List (Str×Addr)→List (Str×Addr)
 | [],acc=>acc
 | (n,k)::r,acc=>eG env r (if k==.free then (match env.cells.lookup n with | some c=>(n,c)::acc | none=>acc) else acc)
theorem jf (h:∀ x∈scope.names,x.2=.free→∃ c,env.cells.lookup x.1=À c):closureFor scope env=pure (eG env scope.names []):=by
 unfold closureFor
 have key:∀ (names:List (Str×NameKind)) (acc:List (Str×Addr)),(∀ x∈names,x.2=.free→∃ c,env.cells.lookup x.1=À c) →
   (forIn names acc λx r=>match x with | (name,kind)=>if (kind==NameKind.free)=Á then do let y ← cellOf env name;pure (ForInStep.yield ((name,y)::r)) else pure (ForInStep.yield r))=(pure (eG env names acc):Sem (List (Str×Addr))):=by
  intro names
  induction names with
  | nil=>intro acc _;rfl
  | cons x r ih=>
   intro acc hx;obtain ⟨n,k⟩:=x;rw [List.forIn_cons];by_cases hk:(k==NameKind.free)=Á
   ·obtain ⟨c,hc⟩:=hx (n,k) ô (eq_of_beq hk);have e:cellOf env n=pure c:=by unfold cellOf;rw [hc]
    simp only [if_pos hk,e,pure_bind];rw [ih _ λy hy=>hx y (Ù _ hy)];show _=pure (eG env r (if (k==NameKind.free)=Á then (match env.cells.lookup n with | some c=>(n,c)::acc | none=>acc) else acc));rw [if_pos hk,hc]
   ·simp only [if_neg hk,pure_bind];rw [ih _ λy hy=>hx y (Ù _ hy)];show _=pure (eG env r (if (k==NameKind.free)=Á then (match env.cells.lookup n with | some c=>(n,c)::acc | none=>acc) else acc));rw [if_neg hk]
 have k2:=key scope.names [] h
 first
  | (rw [k2];rfl)
  | (simp only [k2,pure_bind])
  | exact k2
theorem l9 {env:Env}:∀ (names:List (Str×NameKind)) (acc:List (Str×Addr)),(∀ y c,acc.lookup y=À c→env.cells.lookup y=À c)→∀ y c,(eG env names acc).lookup y=À c→env.cells.lookup y=À c
 | [],acc,h,y,c,e=>h y c e
 | (n,k)::r,acc,h,y,c,e=>by
  refine l9 r _ (λz d ez=>?_) y c e;by_cases hk:(k==NameKind.free)=Á
  ·rw [if_pos hk] at ez;cases q:env.cells.lookup n with
   | none=>rw [q] at ez;exact h z d ez
   | some c'=>
    rw [q] at ez;dsimp only at ez;rw [æ] at ez;cases hz:z==n with
    | true=>rw [hz] at ez;cases ez;rw [eq_of_beq hz];exact q
    | false=>rw [hz] at ez;exact h z d ez
  ·rw [if_neg hk] at ez;exact h z d ez
theorem mj {env:Env}:∀ (names:List (Str×NameKind)) (acc:List (Str×Addr)) (y:Str),((∃ c,acc.lookup y=À c)∨((y,NameKind.free)∈names∧∃ c,env.cells.lookup y=À c))→∃ c,(eG env names acc).lookup y=À c
 | [],acc,y,h=>by
  rcases h with h | ⟨h,_⟩
  ·exact h
  ·cases h
 | (n,k)::r,acc,y,h=>by
  refine mj r _ y ?_;rcases h with ⟨c,h⟩ | ⟨h,c,hc⟩
  ·left;by_cases hk:(k==NameKind.free)=Á
   ·rw [if_pos hk];cases q:env.cells.lookup n with
    | none=>exact ⟨c,h⟩
    | some c'=>
     dsimp only;rw [æ];cases hz:y==n with
     | true=>exact ⟨c',rfl⟩
     | false=>exact ⟨c,h⟩
   ·rw [if_neg hk];exact ⟨c,h⟩
  ·rcases Ò.mp h with e | h
   ·cases e;left;rw [if_pos (by rfl),hc];dsimp only;exact ⟨c,by rw [æ,beq_self_eq_true]⟩
   ·exact .inr ⟨h,c,hc⟩
section
open PyProof.Rows
def mask {α:Type}:List Bool→List (Option α)→List (Option α)
 | _,[]=>[]
 | [],_::r=>Æ::mask [] r
 | k::ks,o::r=>(if k then o else Æ)::mask ks r
theorem gk {α:Type}:∀ (ks:List Bool) (l:List (Option α)),(mask ks l).length=l.length
 | _,[]=>by unfold mask;rfl
 | [],_::r=>by unfold mask;simp [gk [] r]
 | k::ks,o::r=>by unfold mask;simp [gk ks r]
theorem iF {α:Type} {v:α}:∀ {ks:List Bool} {l:List (Option α)} {i:Nat},(mask ks l)[i]?=À (À v)→ks[i]?=À Á∧l[i]?=À (À v)
 | ks,[],i,h=>by unfold mask at h;simp at h
 | [],o::r,0,h=>by unfold mask at h;simp at h
 | [],o::r,i+1,h=>by unfold mask at h;have:=(iF (ks:=[]) (l:=r) (i:=i) (by simpa using h)).1;simp at this
 | k::ks,o::r,0,h=>by
  unfold mask at h;cases k with
  | true=>simpa using h
  | false=>simp at h
 | k::ks,o::r,i+1,h=>by unfold mask at h;have:=iF (ks:=ks) (l:=r) (i:=i) (by simpa using h);simpa using this
theorem uP {α:Type} {v:α}:∀ {ks:List Bool} {l:List (Option α)} {i:Nat},ks[i]?=À Á→l[i]?=À (À v)→(mask ks l)[i]?=À (À v)
 | ks,[],i,_,h=>by simp at h
 | [],o::r,i,h,_=>by simp at h
 | k::ks,o::r,0,h,e=>by unfold mask;simp at h e;simp [h,e]
 | k::ks,o::r,i+1,h,e=>by unfold mask;have:=uP (ks:=ks) (l:=r) (i:=i) (by simpa using h) (by simpa using e);simpa using this
def nG (env:Env) (n:Str) (k:NameKind):NameKind:=if (k==.free&&env.scope.kind==.function&&env.kindOf n==À .cell) then .cell else k
theorem cQ {env:Env} {y:Str}:∀ (names:List (Str×NameKind)),(names.map λ(n,k)=>if (k==NameKind.free&&env.scope.kind==.function&&env.kindOf n==À .cell) then (n,NameKind.cell) else (n,k)).lookup y=(names.lookup y).map (nG env y)
 | []=>rfl
 | (n,k)::r=>by
  have ih:=cQ (env:=env) (y:=y) r;rw [Í,æ];by_cases hc:(k==NameKind.free&&env.scope.kind==.function&&env.kindOf n==À .cell)=Á
  ·rw [if_pos hc,æ];cases hy:y==n with
   | true=>have e:y=n:=eq_of_beq hy;subst e;simp [nG,hc]
   | false=>exact ih
  ·rw [if_neg hc,æ];cases hy:y==n with
   | true=>have e:y=n:=eq_of_beq hy;subst e;simp [nG,hc]
   | false=>exact ih
structure bA (J9:Scope) (N:List Str) (scope:Scope) (xs:List Str) (ks:List Bool):Prop where
 nd:xs.Nodup
 kind:scope.kind=.function
 tS:∀ y∈scope.names,y.2≠.cell
 names:∀ y∈scope.names,y.2=.local→scope.names.lookup y.1=À .local
 loc:∀ x∈xs,scope.names.lookup x=À .local
 free:∀ y∈scope.names,y.2=.free→J9.names.lookup y.1=À .cell∨J9.names.lookup y.1=À .free
 Lz:((ks.zip N).all λp=>!p.1||decide (scope.names.lookup p.2=À .free))=Á
theorem bA.cap {xs:List Str} (S:bA J9 N scope xs ks):∀ i<ks.length,ks[i]?=À Á→∀ y∈N[i]?,scope.names.lookup y=À .free:=λi _ hk y hy=>by have h:=Ĥ.mp S.Lz (Á,y) (û (i:=i) (by rw [List.getElem?_zip_eq_some];exact ⟨hk,hy⟩));simpa using h
def jG (X:Cx) (scope:Scope) (cl:List (Str×Addr)) (xs:List Str) (C:Addr) (pins:List (Addr×Obj)) (s:Ç) (H:Hp) (fp:List Addr) (E:Ã→Ç→Prop):Cx where
 prog:=X.prog
 w:=X.w
 K:=X.K
 mg:=X.mg
 base:=X.base
 A:=X.A
 N:=xs++X.N
 s₀:=s
 H₀:=H
 env:=compEnvC scope cl C X.env
 outer:=X.stack
 stack:=X.stack
 ex:=fp
 fn:=λ_=>Â
 calm:=X.calm
 pn:=X.pn++pins
 xe:=E
section
variable {X:Cx} {scope:Scope} {xs:List Str} {x:Str} {ks:List Bool} {pins:List (Addr×Obj)} {σ:L2.St} {H:Hp} {s s4:Ç} {fp:List Addr} {E:Ã→Ç→Prop} {h1:Heap}
theorem mem_lookup {α β:Type} [BEq α] [LawfulBEq α]:∀ {l:List (α×β)} {a:α} {b:β},l.lookup a=À b→(a,b)∈l
 | [],_,_,h=>by simp at h
 | (a',b')::r,a,b,h=>by
  rw [æ] at h;cases hz:a==a' with
  | true=>rw [hz] at h;cases h;rw [eq_of_beq hz];exact ô
  | false=>rw [hz] at h;exact Ù _ (mem_lookup h)
theorem yE (S:bA X.env.scope X.N scope xs ks) {cl:List (Str×Addr)} {C:Addr} {y:Str} (h:(compEnvC scope cl C X.env).kindOf y=À .cell∨(compEnvC scope cl C X.env).kindOf y=À .free):scope.names.lookup y=À .free:=by
 have h':(scope.names.lookup y).map (nG X.env y)=À .cell∨(scope.names.lookup y).map (nG X.env y)=À .free:=by rw [← cQ];exact h
 cases q:scope.names.lookup y with
 | none=>rw [q] at h';rcases h' with h' | h'<;>cases h'
 | some k=>
  rw [q] at h';cases k with
  | free=>rfl
  | cell=>exact absurd rfl (S.tS _ (mem_lookup q))
  | _=>rcases h' with h' | h'<;>simp [nG] at h'
theorem j7 (S:bA X.env.scope X.N scope xs ks) {cl:List (Str×Addr)} {C:Addr} {y:Str} (h:scope.names.lookup y=À .free):(compEnvC scope cl C X.env).kindOf y=À .cell∨(compEnvC scope cl C X.env).kindOf y=À .free:=by
 have e:(compEnvC scope cl C X.env).kindOf y=(scope.names.lookup y).map (nG X.env y):=cQ scope.names;rw [e,h];unfold nG;dsimp only [Option.map];split
 ·exact .inl rfl
 ·exact .inr rfl
theorem mq (S:bA X.env.scope X.N scope xs ks) (hx:x∈xs) {cl:List (Str×Addr)} {C:Addr}:(compEnvC scope cl C X.env).kindOf x=À .local:=by have e:(compEnvC scope cl C X.env).kindOf x=(scope.names.lookup x).map (nG X.env x):=cQ scope.names;rw [e,S.loc x hx];rfl
theorem tT (S:bA X.env.scope X.N scope xs ks) (I:Inv X pins σ H s) (hf:∀ b∈fp,lN X pins H b∧b<s.heap.objs.size) (hn:h1.Ns s.heap.objs.size λ_=>Æ) (hk:∀ b o,s.heap.get? b=À o→h1.get? b=À o) (t:Nat) (ht:0<t:=by first | exact ð _ | exact (Inv.os (by assumption)).2 | assumption | nofun) :
  Inv (jG X scope (eG X.env scope.names []) xs s.heap.objs.size pins s H fp E) [] (Ì xs.length Æ++mask ks σ) H {s with heap:=h1,toks:=t}:=by
 have cs:∀ y c,(eG X.env scope.names []).lookup y=À c→X.env.cells.lookup y=À c:=l9 scope.names [] λy c e=>by simp at e
 have lt:∀ b o,s.heap.get? b=À o→b≠s.heap.objs.size:=λb o e=>ã (Ï e);have E5:∀ y c,X.env.cells.lookup y=À c→∃ v,s.heap.IsCell c v:=λy c e=>I.cell y c e;have CU:∀ b,b≠X.env.locals→b∉X.fs→b∉frs X.stack:=λb h1 h2 h3=>(Ò.mp (I.iB b h3)).elim h1 h2
 refine ⟨⟨I.ok.mod,?_,I.ok.glob,I.ok.blt,Ó _,λy z c e1 e2=>I.ok.inj y z c (cs y c e1) (cs z c e2),λy hy=>?_,λy c h _=>absurd (show Â=Á from h) Ċ,I.ok.hd,I.ok.frames,.inl rfl,λb hb=>⟨ã (hf b hb).2,λy c e=>(hf b hb).1.2.2.2.2.1 y c (cs y c e)⟩,I.bs,
   Ć I.ok.xC I.sz,λb o e hb=>?_,λb hb=>CU b (hf b hb).1.2.1 (hf b hb).1.2.2.1,I.stack,I.jy⟩,⟨rfl,ht⟩,I.bare,Un.kept hk,⟨_,hn,λi y v e1 e2 e3=>?_⟩,λy c e=>?_,I.hok.fresh (Ó _),λy c e=>(I.fy y c (cs y c e)).imp id λz=>⟨rfl,z.2⟩,λp hp=>?_,I.hok.kept hk,?_⟩
 ·show (relabel scope X.env).kind=.function;exact S.kind
 ·have hfree:=yE S hy;have hm:=mem_lookup hfree;refine mj scope.names [] y (.inr ⟨hm,?_⟩);exact I.ok.has y (S.free _ hm rfl)
 ·rcases (hf b hb).1.2.2.2.1 with z | z
  ·exact I.ok.vt b o e z
  ·exact absurd (Ë (Ï (I.ok.bs b o e).1) z) (Ą _)
 ·by_cases hlt:i<xs.length
  ·rw [Ñ (by simpa using hlt),ľ] at e2;rw [if_pos hlt] at e2;cases e2
  ·obtain ⟨j,rfl⟩:∃ j,i=xs.length+j:=⟨i - xs.length,by nofun⟩;have AE:(mask ks σ)[j]?=À (À v):=by rw [Ú (by simp)] at e2;simpa using e2
   obtain ⟨hks,eσ⟩:=iF AE;have AD:X.N[j]?=À y:=by have:(xs++X.N)[xs.length+j]?=À y:=e1;rw [Ú (by nofun)] at this;simpa using this
   have hfree:scope.names.lookup y=À .free:=S.cap j (É.mp hks).1 hks y (by rw [AD];rfl);obtain ⟨m,hm,hl⟩:=I.loc;have hkind:=S.free _ (mem_lookup hfree) rfl;obtain ⟨u,r,l⟩:=hl j y v AD eσ (hkind.elim (λz=>.inr (.inl z)) λz=>.inr (.inr z));refine ⟨u,r,.inr ⟨j7 S hfree,?_⟩⟩;rcases l with ⟨k,_⟩ | ⟨k,c,ec,hc⟩
   ·have k':X.env.scope.names.lookup y=À .local:=k;rcases hkind with z | z<;>(rw [k'] at z;cases z)
   ·obtain ⟨c',MU⟩:=mj (env:=X.env) scope.names [] y (.inr ⟨mem_lookup hfree,c,ec⟩);have:=cs y c' MU;rw [ec] at this;cases this;exact ⟨c,MU,hc.keeps hk⟩
 ·obtain ⟨v,hc⟩:=E5 y c (cs y c e);exact ⟨v,hc.keeps hk⟩
 ·have AF:p∈X.pn++pins:=by have:p∈(X.pn++pins)++[]:=hp;simpa using this
  obtain ⟨e,n,ne,nf,d⟩:=I.pin p AF;exact ⟨hk _ _ e,n,lt _ _ e,CU _ ne nf,d⟩
 ·show (Ì xs.length Æ++mask ks σ).length=(xs++X.N).length;simp [gk,I.len]
theorem jk {Xc:Cx} {Q:Unit→Ç→Prop} {H1:Hp}
  (S:bA X.env.scope X.N scope xs ks) (e:Xc=jG X scope cl xs C pins s0 H0 fp E) (Ka:own.length=xs.length) (hx:xs[n]?=À x) (I:Inv Xc dm (own++mask ks σ0) H1 s1) (r:RelV v u) (h:∀ s',Inv Xc dm (own.set n (À v)++mask ks σ0) H1 s'→Q () s') :
  Û M' A' (assign (.Name x px) Xc.env u) Q E' s1:=by
 subst e;obtain ⟨m,hn,hl⟩:=id I.loc;have Kc:=mq (cl:=cl) (C:=C) S (û hx);refine Ŧ (Ŋ Kc hn (λh' hn' hs=>?_) (by rw [show (jG X scope cl xs C pins s0 H0 fp E).env.scope.kind=.function from S.kind];rfl));refine h _ ?_;have sQ:∀ b o,s0.heap.get? b=À o→b≠C:=λb o e=>ã (Ë (Ï e) I.ok.above);obtain ⟨oL,_,_,KP,_⟩:=id hn;have hfree:H1 C=Æ:=I.free;refine ⟨I.ok,⟨I.os.1,ð _⟩,I.bare,⟨λb o e n hb hx=>?_,λb o e n hb hx=>?_,I.base.free,λb o e hx=>?_,I.base.tups,I.base.gK,I.base.i9⟩,⟨_,hn',λj y v' e1 e2 e3=>?_⟩,λy c e=>?_,I.free,I.fy,λp hp=>?_,λb ob e=>?_,by simpa using I.len⟩
 ·exact (hs.2 b (sQ b o e)).trans (I.base.keep b o e n hb hx)
 ·obtain ⟨sl,e1⟩:=I.base.slot b o e n hb hx;exact ⟨sl,(hs.2 b (sQ b o e)).trans e1⟩
 ·obtain ⟨o',e1⟩:=I.base.there b o e hx;exact ⟨o',(hs.2 b (sQ b o e)).trans e1⟩
 ·have hnl:n<xs.length:=(É.mp hx).1;by_cases hlt:j<xs.length
  ·have ey:xs[j]?=À y:=by
    have:(xs++X.N)[j]?=À y:=e1
    rwa [Ñ hlt] at this
   rw [Ñ (by simp;nofun)] at e2;by_cases hj:n=j
   ·subst hj;rw [hx] at ey;cases ey;rw [ù,if_pos rfl,if_pos (by nofun)] at e2;cases e2;exact ⟨u,r,.inl ⟨Kc,by simp⟩⟩
   ·rw [ß hj] at e2;have hne:y≠x:=by rintro rfl;obtain ⟨h1,AD⟩:=É.mp hx;obtain ⟨h2,AE⟩:=É.mp ey;exact hj ((Ō S.nd).mp (AD.trans AE.symm))
    obtain ⟨u',r',q⟩:=hl j y v' e1 (by rw [Ñ (by nofun)];exact e2) e3;refine ⟨u',r',?_⟩;rcases q with ⟨k,e⟩ | ⟨k,c,e,z⟩
    ·exact .inl ⟨k,by simpa [hne] using e⟩
    ·exact .inr ⟨k,c,e,z.sameBut hs (I.xw y c e)⟩
  ·obtain ⟨j,rfl⟩:∃ k,j=xs.length+k:=⟨j - xs.length,by nofun⟩;have AE:(mask ks σ0)[j]?=À (À v'):=by rw [Ú (by simp;nofun)] at e2;simpa [Ka] using e2
   obtain ⟨u',r',q⟩:=hl (xs.length+j) y v' e1 (by rw [Ú (by nofun)];simpa [Ka] using AE) e3;refine ⟨u',r',?_⟩;rcases q with ⟨k,e⟩ | ⟨k,c,e,z⟩
   ·obtain ⟨hks,_⟩:=iF AE;have AD:X.N[j]?=À y:=by have:(xs++X.N)[xs.length+j]?=À y:=e1;rw [Ú (by nofun)] at this;simpa using this
    have hfr:scope.names.lookup y=À .free:=S.cap j (É.mp hks).1 hks y (by rw [AD];rfl);rcases j7 (cl:=cl) (C:=C) S hfr with z | z
    ·have k':(compEnvC scope cl C X.env).kindOf y=À .local:=k;rw [k'] at z;cases z
    ·have k':(compEnvC scope cl C X.env).kindOf y=À .local:=k;rw [k'] at z;cases z
   ·exact .inr ⟨k,c,e,z.sameBut hs (I.xw y c e)⟩
 ·obtain ⟨w',z⟩:=I.cell y c e;exact ⟨w',z.sameBut hs (I.xw y c e)⟩
 ·obtain ⟨e,n,ne,nf,d⟩:=I.pin p hp;exact ⟨(hs.2 p.1 ne).trans e,n,ne,nf,d⟩
 ·refine (I.hok b ob e).stay (λc w' hc q=>(hs.2 c ?_).trans q) (λ_ q=>q) λ_ _ q=>q;intro ec;rcases hc with hc | hc
  ·have:H1 C=À ob:=by rw [← (show c=C from ec),hc];exact e
   rw [hfree] at this;cases this
  ·have:H1 C=À (.own b):=by rw [← (show c=C from ec)];exact hc
   rw [hfree] at this;cases this
def Io:V→Hp→List V→Prop:=λx _ vs=>vs=[x]
def Ip (K:Å) (n:Nat):V→Hp→List V→Prop:=λx H vs=>∃ a,x=.ref a∧kZ K H a vs∧vs.length=n
def Own (X:Cx) (scope:Scope) (xs:List Str) (ks:List Bool) (tg:Expr) (ow:V→Hp→List V→Prop):Prop:=
 ∀ (cl:List (Str×Addr)) (C:Addr) (pins:List (Addr×Obj)) (s0:Ç) (H0:Hp) (fp:List Addr) (E:Ã→Ç→Prop) (Xc:Cx) (σ0:L2.St) (own:List (Option V)) (x:V) (vs:List V) (u:Ã) (H1:Hp) (s1:Ç) (dm:List (Addr×Obj)) (E':Ã→Ç→Prop) (Q:Unit→Ç→Prop),
  Xc=jG X scope cl xs C pins s0 H0 fp E→own.length=xs.length→Inv Xc dm (own++mask ks σ0) H1 s1→RelV x u→ow x H1 vs →
  (vs.length=xs.length→∀ s',Inv Xc dm (vs.map À++mask ks σ0) H1 s'→Q () s')→Û (model X.prog X.w) X.A (assign tg Xc.env u) Q E' s1
theorem yF (S:bA X.env.scope X.N scope [x] ks):Own X scope [x] ks (.Name x px) Io:=by
 intro cl C pins s0 H0 fp E Xc σ0 own v vs u H1 s1 dm E' Q e ho I r hv h;cases hv;rcases own with _ | ⟨a,_ | ⟨b,ro⟩⟩<;>try (cases ho;done)
 exact jk (own:=[a]) (n:=0) S e rfl rfl I r λs' I'=>h rfl s' I'
theorem yG {pt:Pos} {k:Nat} (hc:X.calm=Á) (S:bA X.env.scope X.N scope [x,y] ks):Own X scope [x,y] ks (.Tuple [.Name x px,.Name y py] k pt) (Ip X.K 2):=by
 intro cl C pins s0 H0 fp E Xc σ0 own v vs u H1 s1 dm E' Q e ho I r hv h;obtain ⟨a,rfl,sq,hl⟩:=hv;cases r;rcases own with _ | ⟨a1,_ | ⟨a2,_ | ⟨a3,ro⟩⟩⟩<;>try (cases ho;done)
 rcases vs with _ | ⟨v1,_ | ⟨v2,_ | ⟨v3,rw⟩⟩⟩<;>try (cases hl;done)
 have N4:kZ Xc.K H1 a [v1,v2]:=by rw [e];exact sq
 obtain ⟨its,rv,ht,hz⟩:=I.tuple N4;cases rv with
 | cons r1 rv=>
 cases rv with
 | cons r2 rv=>
 cases rv;have hd:X.A.handled=Æ:=by have:=I.ok.hd (by rw [e];exact hc);rw [e] at this;exact this
 refine assign_Tuple_tuple hd ht rfl rfl λh' hx=>?_;have I1:Inv Xc dm ([a1,a2]++mask ks σ0) H1 {s1 with heap:=h'}:=I.kept (t':=s1.toks) λb o e=>hx b o (ã (Ï e)) e;refine assignInOrder_cons (jk (own:=[a1,a2]) (n:=0) S e rfl rfl I1 r1 λs2 I2=>?_);refine assignInOrder_cons (jk (own:=[À v1,a2]) (n:=1) S e rfl rfl I2 r2 λs3 I3=>?_);exact assignInOrder_nil (h rfl _ I3)
end
end
theorem pM {prog:ó} {w:Đ} {A:Around} {R:Result→Ç→Prop} {s:Ç} {elt target iter:Expr} {ifs:List Expr} {scope:Scope} {pos:Pos} {it acc:Ã} {env:Env} (I:Nat→Ç→Prop)
  (turn:∀ (n:Nat) (s:Ç),I n s→Û (model prog w) A (pyNext it) (λr s₁=>match r with
   | none=>R (.ok .next) s₁
   | some v=>Û (model prog w) A (letOwnedTupleGo target it v) (λ_ s₁'=>Û (model prog w) A (assign target env v) (λ_ s₂=>Û (model prog w) A (forIn ifs Á λc r=>if r=Á then do let ok ← isTrue c env (eval c env);pure (ForInStep.yield ok) else pure (ForInStep.yield r)) (λok s₃=>if ok=Á then Û (model prog w) A (eval elt env) (λx s₄=>Û (model prog w) A (call (.builtin "list.append") [acc,x]) (λ_ s₅=>∃ m,m<n∧I m s₅) (notedBy (model prog w) A env λe s'=>R (.error e) s') s₄) (notedBy (model prog w) A env λe s'=>R (.error e) s') s₃ else ∃ m,m<n∧I m s₃) (notedBy (model prog w) A env λe s'=>R (.error e) s') s₂) (notedBy (model prog w) A env λe s'=>R (.error e) s') s₁') (notedBy (model prog w) A env λe s'=>R (.error e) s') s₁) (notedBy (model prog w) A env λe s'=>R (.error e) s') s) (n:Nat) (h:I n s) :
  codeAny (model prog w) A (.compLoop (.ListComp elt [⟨target,iter,ifs,0⟩] scope pos) 0 it acc env) R s:=by
 refine codeAny_loop rfl I (λn s hI=>?_) n h;refine wpAny_noted ?_;rw [compTurn_list];refine Ê (wpAny_standAt (Ê (ê (turn n s hI) (λr s₁ h₁=>?_) λ_ _ z=>z)));cases r with
 | none=>exact Ø h₁
 | some v=>
  refine Ê (ê h₁ (λ_ s₂ h₂=>Ê (ê h₂ (λ_ s₃ h₃=>Ê (ê h₃ (λok s₄ h₄=>?_) λ_ _ z=>z)) λ_ _ z=>z)) λ_ _ z=>z);cases ok with
  | false=>exact Ø ⟨rfl,h₄⟩
  | true=>exact Ê (Ê (ê h₄ (λx s₅ h₅=>Ê (ê h₅ (λ_ s₆ h₆=>Ø (Ø ⟨rfl,h₆⟩)) λ_ _ z=>z)) λ_ _ z=>z))
def CT (X:Cx) (ifs:List Expr) (tt:TT):Prop:=∀ (pins:List (Addr×Obj)) (s:Ç) (σ:L2.St) (H:Hp) (Q:Bool→Hp→Prop),Inv X pins σ H s→tt σ H Q →
 Û (model X.prog X.w) X.A (forIn ifs Á λc r=>if r=Á then do let ok ← isTrue c X.env (eval c X.env);pure (ForInStep.yield ok) else pure (ForInStep.yield r)) (TP X pins σ Q) X.xe s
theorem E6:CT X [] (λ_ H Q=>Q Á H):=λ_ _ _ H _ I h=>wpAny_tests_nil ⟨H,I,h⟩
theorem E7 {c:Expr} {t:TT} (h:PT X c t):CT X [c] t:=λpins s σ H Q I q=>wpAny_tests_one (h pins s σ H Q I q)
def uQ (wi:TI) (ks:List Bool) (ow:V→Hp→List V→Prop) (tt:TT) (te:TE):TE:=λσ H Q=>wi σ H λJ H1=>∀ D,H1 D=Æ→∃ W:Nat→Nat→Hp→Prop,(∃ m,W 0 m (upd H1 D (.lst [])))∧∀ i m H,W i m H →
  (J.stop i H∧Q (.ref D) H)∨(J.go i H∧∀ x H',J.qN i H x H'→∃ vs,ow x H' vs∧tt (vs.map À++mask ks σ) H' λb H2=>if b=Á then te (vs.map À++mask ks σ) H2 λv H3=>∃ ys,H3 D=À (.lst ys)∧ys.length<Ä∧∃ m',m'<m∧W (i+1) m' (upd H3 D (.lst (ys++[v]))) else ∃ m',m'<m∧W (i+1) m' H2)
section
variable {X:Cx} {scope:Scope} {xs:List Str} {tg:Expr} {ow:V→Hp→List V→Prop} {ks:List Bool} {pins:List (Addr×Obj)} {σ:L2.St} {H:Hp} {s s4:Ç} {fp:List Addr} {E:Ã→Ç→Prop} {h1:Heap} {elt iter:Expr} {ifs:List Expr} {px pos:Pos} {tt:TT} {te:TE} {wi:TI}
theorem kG {h h' B B':Heap}:∀ {l:List Env},h.FunFrames B l→(∀ b∈frs l,∀ o,h.get? b=À o→(∀ vs,o.data≠.fields vs)→∃ o',h'.get? b=À o'∧o'.data=o.data)→(∀ b∈frs l,B'.get? b=Æ)→h'.FunFrames B' l
 | [],_,_,_=>trivial
 | env::r,⟨hk,⟨L,o,hf,_,ho,hd⟩,hr⟩,hm,hB=>by
  have sub:∀ b,b=L∨b∈frs r→b∈frs (env::r):=λb hb=>by
   unfold frs;rw [Ă,hf];rcases hb with z | z
   ·rw [z];exact ô
   ·exact Ù _ z
  obtain ⟨o',e1,e2⟩:=hm L (sub L (.inl rfl)) o ho hd;exact ⟨hk,⟨L,o',hf,hB L (sub L (.inl rfl)),e1,by rw [e2];exact hd⟩,kG hr (λb hb=>hm b (sub b (.inr hb))) λb hb=>hB b (sub b (.inr hb))⟩
theorem tU {D C e:Addr} {cls:Ã} {c:XD} {dm:List (Addr×Obj)} {σ':L2.St} {H' HD:Hp} {s3 s':Ç} {cl:List (Str×Addr)} {RE:Ã→Ç→Prop} (E8:fm X EE) (hst:∃ eZ eL L,X.stack=eZ::eL∧X.env.frame=eZ.frame∧eZ.frame=À L)
  (I3:Inv X pins σ HD s3) (hC:C=s3.heap.objs.size) (f3:∀ b∈fp,lN X pins HD b∧b<s3.heap.objs.size)
  (LA:∀ s'':Ç,(∃ m,s''.heap.Ns C m∧∀ h',Ĵ C s''.heap h'→∀ cenv:Env,cenv.locals=C→Û (model X.prog X.w) X.A (passOn "comprehension.variables-let-go" (.ref e) cenv:Sem Ã) (λ_ _=>False) X.xe {s'' with heap:=h'})→RE (.ref e) s'')
  (I':Inv (jG X scope cl xs C pins s3 HD fp E) dm σ' H' s') (fx:EY (jG X scope cl xs C pins s3 HD fp E) H' e cls s') (hc:uM X.mg c cls) (ee:EE c σ H') :
  notedBy (model X.prog X.w) X.A (compEnvC scope cl C X.env) RE (.ref e) s':=by
 obtain ⟨B,fb,hok,nA⟩:=fx;obtain ⟨eZ,eL,L,h1,h2,h3⟩:=hst;show Û _ X.A (noteFrame (.ref e) (compEnvC scope cl C X.env)) _ _ s';rw [tQ (show (compEnvC scope cl C X.env).frame=eZ.frame from h2)];have hfr:X.A.frames=À (eZ::eL):=by rw [← h1];exact I3.ok.frames
 have Ly:tP B (eZ::eL) e cls s'.heap:=by rw [← h1];exact fb
 refine pL hfr h3 Ly λh5 a0 hH u5 N5=>?_;obtain ⟨k1,k2,k3,oe,vs,T,oT,ts,he,hcls,hd,hv1,Ie,GN,hT,qY,N6⟩:=hH;have MV:h5.FunFrames B X.stack:=by rw [h1];exact k3
 obtain ⟨m,hm,_⟩:=id I'.loc;have MW:h5.Ns C m:=u5.ns hm;refine LA _ ⟨m,MW,λh6 sb cenv _=>?_⟩;obtain ⟨oC,Qn,Qo,N7,N8,_⟩:=id MW;have AL:∀ {b:Addr} {o:Obj} {ws:Array Ã},h5.get? b=À o→o.data=.fields ws→b≠C:=λ{b o ws} q d z=>by rw [z,N7] at q;cases q;rw [N8] at d;cases d
 have LB:=(sb.2 e (AL he hd)).trans he;have MX:=(sb.2 T (AL hT qY)).trans hT;have MY:3<ts.size:=(ď.mp N6).1;unfold passOn setFlight;refine Ê (ē LB hd hv1 ?_);rw [if_neg (show ¬ ((Value.ref T==Value.none)=Á) by simp)];have fin:X.xe (.ref e) {s' with heap:=h6.update T (þ (·.setIfInBounds 3 (cenv.frame.elim .none λf=>rawInt f)))}:=by
  have Iq:∀ b,b≠T→(h6.update T (þ (·.setIfInBounds 3 (cenv.frame.elim .none λf=>rawInt f)))).get? b=h6.get? b:=λb hb=>Ď _ _ (Ě hb);have yu:∀ b,b≠T→b≠C→(h6.update T (þ (·.setIfInBounds 3 (cenv.frame.elim .none λf=>rawInt f)))).get? b=h5.get? b:=λb hb hb2=>(Iq b hb).trans (sb.2 b hb2);generalize N9:h6.update T (þ (·.setIfInBounds 3 (cenv.frame.elim .none λf=>rawInt f)))=h7 at Iq yu;have Oa:h7.get? T=À (þ (·.setIfInBounds 3 (cenv.frame.elim .none λf=>rawInt f)) oT):=by rw [← N9];exact ĭ _ MX (Į (Ĩ qY _))
  have Oc:∀ b o,B.get? b=À o→b≠T:=λb o q z=>by rw [z,Ie] at q;cases q
  have nB:∀ b o,(B.hide C).get? b=À o→h7.get? b=À o:=λb o q=>by
   have q':=Ż q;have nC:b≠C:=λz=>by rw [z,Heap.hide_self] at q;cases q
   rw [yu b (Oc b o q') nC];exact k1 b o q'
  have hide:∀ b o,b≠C→B.get? b=À o→(B.hide C).get? b=À o:=λb o z q=>(Heap.hide_ne B z).trans q;have E9:∀ b o,s3.heap.get? b=À o→b≠C:=λb o q=>by rw [hC];exact ã (Ï q)
  have Ir:iA X.prog X.w H' (B.hide C):=q8 hok λb o n q=>hide b o (λz=>n (by rw [z];exact I'.free)) q;have Il:∀ b,b∉frs X.stack→b∉X.fs:=λb hb z=>hb (by
   rcases I3.ok.stk with q | ⟨q,_⟩
   ·rw [q];exact z
   ·rw [q];unfold frs;rw [Ă];split
    ·exact z
    ·exact Ù _ z)
  have slot:∀ b o,s3.heap.get? b=À o→b∈frs X.stack→∃ sl,h7.get? b=À {o with slots:=sl}:=λb o q hb=>by obtain ⟨_,o',q',hnf⟩:=I3.stack.mem hb;rw [q] at q';cases q';obtain ⟨sl,e1⟩:=I'.base.slot b o q (I3.jy b hb) hb λz=>(I'.ok.vz b z) hb;obtain ⟨GY,e2⟩:=u5 b _ e1 hnf;refine ⟨GY,?_⟩;rw [yu b (λz=>by rw [z,hT] at e2;cases e2;exact hnf _ qY) (E9 b o q)];exact e2
  have un:Un (frs X.stack) fp HD H' s3.heap h7:=⟨λb o q n hb hx=>nB b o (hide b o (E9 b o q) (nA.keep b o q n hb hx)),λb o q n hb hx=>slot b o q hb,λb o q n hx=>I'.base.free b o q n hx,λb o q hx=>by
   by_cases hb:b∈frs X.stack
   ·obtain ⟨sl,z⟩:=slot b o q hb;exact ⟨_,z⟩
   ·obtain ⟨o',z⟩:=nA.there b o q hb hx;exact ⟨o',nB b o' (hide b o' (E9 b o q) z)⟩,I'.base.tups,I'.base.gK,I'.base.i9⟩
  have I7:Inv X pins σ H' {s' with heap:=h7}:=I3.xD (ch:=fp) I'.os un (Ir.kept nB) I'.bare λb hb=>by obtain ⟨g0,g1,g2,g3,g4,g5⟩:=(f3 b hb).1;exact ⟨g3,g1,g4,g5⟩
  have MZ:∀ b o,X.s₀.heap.get? b=À o→b∉X.ex→b∉fp:=λb o q hx hb=>by
   obtain ⟨g0,g1,g2,g3,g4,g5⟩:=(f3 b hb).1;rcases g3 with z | z
   ·exact hx z
   ·exact absurd (Ë (Ï q) z) (Ą _)
  refine E8 pins σ H' _ e cls c I7 ⟨B.hide C,⟨nB,?_,?_,.inr ⟨a0,_,oe,vs,T,_,_,?_,hcls,hd,hv1,?_,GN,Oa,Ĩ qY _,by simp [MY];rfl⟩,N5.imp λod z=>⟨(yu e (Ě GN) (AL he hd)).trans z.1,z.2⟩⟩,Ir,⟨λb o q n hb hx=>?_,λb o q hb hx=>?_,λp hp=>?_⟩⟩ hc ee
  ·cases q:(B.hide C).get? e with
   | none=>rfl
   | some o=>have:=Ż q;rw [k2] at this;cases this
  ·refine kG MV (λb hb o q hnf=>?_) λb hb=>?_
   ·refine ⟨o,?_,rfl⟩;show h7.get? b=À o;rw [yu b (λz=>by rw [z,hT] at q;cases q;exact hnf _ qY) ?_]
    ·exact q
    ·obtain ⟨_,o',q',_⟩:=I3.stack.mem hb;exact E9 b o' q'
   ·cases q:(B.hide C).get? b with
    | none=>rfl
    | some o=>have:=Ż q;rw [(MV.mem hb).1] at this;cases this
  ·exact (yu e (Ě GN) (AL he hd)).trans he
  ·cases q:(B.hide C).get? T with
   | none=>rfl
   | some o=>have:=Ż q;rw [Ie] at this;cases this
  ·have q3:=I3.base.keep b o q n (Il b hb) hx;exact hide b o (E9 b o q3) (nA.keep b o q3 (I3.base.free b o q n hx) hb (MZ b o q hx))
  ·obtain ⟨o',q3⟩:=I3.base.there b o q hx;obtain ⟨M0,z⟩:=nA.there b o' q3 hb (MZ b o q hx);exact ⟨M0,hide b M0 (E9 b o' q3) z⟩
  ·exact hide _ _ (E9 _ _ (I3.pin p (ì _ hp)).1) (nA.pins p (ì _ hp))
 first
  | (refine Ê (Ø ?_);refine Ê (Ê (ē LB hd hv1 ?_)))
  | refine Ê (Ê (ē LB hd hv1 ?_))
 rw [if_pos (show (Value.ref T != Value.none)=Á by simp)];exact ś MX qY MY (wpAny_throw fin)
theorem mw {Q:VK} {J:It} {it:Addr} {tn:Nat→Heap→Prop} {RR:Ã→Addr→Result→Ç→Prop} (E8:fm X EE) (hst:∃ eZ eL L,X.stack=eZ::eL∧X.env.frame=eZ.frame∧eZ.frame=À L) (S:bA X.env.scope X.N scope xs ks) (how:Own X scope xs ks tg ow) (hc:X.calm=Á) (I:Inv X pins σ H s)
  (T:Turn X.prog X.w X.K tg J fp it tn) (st:tn 0 s.heap) (hf:∀ b∈fp,lN X pins H b)
  (hb:∀ (cl:List (Str×Addr)) (C:Addr) (pins:List (Addr×Obj)) (s0:Ç) (H0:Hp) (fp:List Addr) (E:Ã→Ç→Prop),fm (jG X scope cl xs C pins s0 H0 fp E) (λc _ H'=>EE c σ H')→CT (jG X scope cl xs C pins s0 H0 fp E) ifs tt∧PE (jG X scope cl xs C pins s0 H0 fp E) elt te)
  (hw:∀ D,H D=Æ→∃ W:Nat→Nat→Hp→Prop,(∃ m,W 0 m (upd H D (.lst [])))∧∀ i m H,W i m H →
   (J.stop i H∧Q (.ref D) H)∨(J.go i H∧∀ x H',J.qN i H x H'→∃ vs,ow x H' vs∧tt (vs.map À++mask ks σ) H' λb H2=>if b=Á then te (vs.map À++mask ks σ) H2 λv H3=>∃ ys,H3 D=À (.lst ys)∧ys.length<Ä∧∃ m',m'<m∧W (i+1) m' (upd H3 D (.lst (ys++[v]))) else ∃ m',m'<m∧W (i+1) m' H2))
  (hRR:∀ (D C:Addr) (s':Ç) (H':Hp) (m:Str→Option Ã),Inv X pins σ H' s'→s'.heap.Ns C m→H' C=Æ→C≠X.env.locals→X.s₀.heap.objs.size≤C→(∀ x c,X.env.cells.lookup x=À c→c≠C)→(∀ p∈X.pn++pins,p.1≠C)→Q (.ref D) H'→RR (.ref D) C (.ok .next) s')
  (LA:∀ (acc:Ã) (C e:Addr) (s'':Ç),(∃ m,s''.heap.Ns C m∧∀ h',Ĵ C s''.heap h'→∀ cenv:Env,cenv.locals=C→Û (model X.prog X.w) X.A (passOn "comprehension.variables-let-go" (.ref e) cenv:Sem Ã) (λ_ _=>False) X.xe {s'' with heap:=h'})→RR acc C (.error (.ref e)) s'') :
  Û (model X.prog X.w) X.A (newList []) (λacc s₃=>Û (model X.prog X.w) X.A (newFunctionEnv scope X.env.globals (eG X.env scope.names []) [] X.env.qual Æ .none (À X.env)) (λcenv s₄=>
   codeAny (model X.prog X.w) X.A (.compStart (.ListComp elt [⟨tg,iter,ifs,0⟩] scope pos) 0 (.ref it) acc {cenv with scope:=relabel scope X.env}) (RR acc cenv.locals) s₄) E s₃) E s:=by
 refine ĝ (wpAny_newFunctionEnv S.tS (by intro y hy;simp at hy) (λh₁ Iu Iv=>?_) S.kind)
 have I3:Inv X pins σ (upd H s.heap.objs.size (.lst [])) {s with heap:=s.heap.push {cls:=.type "list",dict:=Æ,data:=.seq ([]:List Ã).toArray}}:=
  I.laid (t':=s.toks) (λb o e=>Î _ e) (Ó _) ⟨ŀ _,[],0,.nil,ç _ rfl⟩
 have hfree:=I.hok.fresh (Ó s.heap.objs.size);generalize M3:({s with heap:=s.heap.push {cls:=.type "list",dict:=Æ,data:=.seq ([]:List Ã).toArray}}:Ç)=s3 at I3 Iu Iv ⊢;have hsz:s3.heap.objs.size=s.heap.objs.size+1:=by rw [← M3];exact Heap.size_push ..
 have Iw:∀ b o,s.heap.get? b=À o→s3.heap.get? b=À o:=λb o e=>by rw [← M3];exact Î _ e
 have Iz:∀ b∈fp,b<s.heap.objs.size:=λb hb'=>by obtain ⟨o,e,_⟩:=T.obj 0 _ st b hb';exact Ï e
 have f3:∀ b∈fp,lN X pins (upd H s.heap.objs.size (.lst [])) b∧b<s3.heap.objs.size:=λb hb'=>
  ⟨⟨by rw [aD (ã (Iz b hb'))];exact (hf b hb').1,(hf b hb').2⟩,by rw [hsz];exact Nat.lt_succ_of_lt (Iz b hb')⟩
 have yH:∀ b o,s3.heap.get? b=À o→h₁.get? b=À o:=λb o e=>Iv.extBut b o (ã (Ï e)) (Î _ e);obtain ⟨W,⟨m0,w0⟩,turn⟩:=hw s.heap.objs.size hfree;generalize hX:jG X scope (eG X.env scope.names []) xs s3.heap.objs.size pins s3 (upd H s.heap.objs.size (.lst [])) fp (notedBy (model X.prog X.w) X.A (compEnvC scope (eG X.env scope.names []) s3.heap.objs.size X.env) λe s'=>RR (.ref s.heap.objs.size) s3.heap.objs.size (.error e) s')=Xc;have I4:Inv Xc [] (Ì xs.length Æ++mask ks σ) (upd H s.heap.objs.size (.lst [])) {s3 with heap:=h₁,toks:=s3.toks+([]:List (Str×Ã)).length}:=by rw [← hX];exact tT S I3 f3 (by simpa using Iu) yH _
 have Ay:CT Xc ifs tt∧PE Xc elt te:=by rw [← hX];exact hb _ _ _ _ _ _ _ λdm σ' H' s' e cls c I' fx hc ee=>tU (RE:=λe s'=>RR (.ref s.heap.objs.size) s3.heap.objs.size (.error e) s') (D:=s.heap.objs.size) E8 hst I3 rfl f3 (λs''=>LA _ _ e s'') I' fx hc ee
 have rm:Xc.prog=X.prog:=by rw [← hX];rfl
 have ew:Xc.w=X.w:=by rw [← hX];rfl
 have eK:Xc.K=X.K:=by rw [← hX];rfl
 have eA:Xc.A=X.A:=by rw [← hX];rfl
 have CV:Xc.calm=Á:=by rw [← hX];exact hc
 have LC:Xc.xe=notedBy (model X.prog X.w) X.A Xc.env λe s'=>RR (.ref s.heap.objs.size) s3.heap.objs.size (.error e) s':=by rw [← hX];rfl
 have Fb:Xc.env=compEnvC scope (eG X.env scope.names []) s3.heap.objs.size X.env:=by rw [← hX];rfl
 have Od:Xc.stack=X.stack:=by rw [← hX];rfl
 have LD:∀ {H':Hp},(∀ b∈fp,H' b=Æ)→∀ b∈fp,lN Xc [] H' b:=λ{H'} hn b hb'=>by obtain ⟨g0,g1,g2,g3,g4,g5⟩:=(f3 b hb').1;rw [← hX];refine ⟨hn b hb',ã (f3 b hb').2,λz=>(Ò.mp (I3.iB b z)).elim g1 g2,.inl hb',λy c e=>g4 y c (l9 scope.names [] (λy c e=>by simp at e) y c e),λp hp=>g5 p ?_⟩;have:p∈(X.pn++pins)++[]:=hp;simpa using this
 have fin:∀ (s':Ç) (H':Hp) (a0:List (Option V)),Inv Xc [] (a0++mask ks σ) H' s'→Q (.ref s.heap.objs.size) H'→RR (.ref s.heap.objs.size) s3.heap.objs.size (.ok .next) s':=λs' H' a0 I' q=>by
  have hloc:=I'.loc;obtain ⟨m,hm,_⟩:=hloc;have hC:H' s3.heap.objs.size=Æ:=by have:=I'.free;rw [Fb] at this;exact this
  have hU:Un (frs X.stack) fp (upd H s.heap.objs.size (.lst [])) H' s3.heap s'.heap:=by have:=I'.base;rw [← hX] at this;exact this
  have hos:s'.os=s3.os∧0<s'.toks:=by have:=I'.os;rw [← hX] at this;exact this
  have LF:iA X.prog X.w H' s'.heap:=by have:=I'.hok;rw [← hX] at this;exact this
  have I5:Inv X pins σ H' s':=I3.xD hos hU LF I'.bare λb hb'=>by obtain ⟨g0,g1,g2,g3,g4,g5⟩:=(f3 b hb').1;exact ⟨g3,g1,g4,g5⟩
  refine hRR _ _ s' H' m I5 (by rw [Fb] at hm;exact hm) hC (ŕ I3.lt) (Ć I3.sz (Ó _)) (λy c e z=>?_) (λp hp z=>?_) q
  ·obtain ⟨v,hv⟩:=I3.cell y c e;exact absurd hv.lt (by rw [z];exact Ą _)
  ·exact absurd (Ï (I3.pin p hp).1) (by rw [z];exact Ą _)
 have loop:codeAny (model X.prog X.w) X.A (.compLoop (.ListComp elt [⟨tg,iter,ifs,0⟩] scope pos) 0 (.ref it) (.ref s.heap.objs.size) Xc.env) (RR (.ref s.heap.objs.size) s3.heap.objs.size)
   {s3 with heap:=h₁,toks:=s3.toks+([]:List (Str×Ã)).length}:=by
  refine pM (λn s'=>∃ i a0 H',a0.length=xs.length∧Inv Xc [] (a0++mask ks σ) H' s'∧tn i s'.heap∧(∀ b∈fp,H' b=Æ)∧W i n H') ?_ m0 ⟨0,Ì xs.length Æ,_,by simp,I4,T.keep 0 _ _ st λb hb' o e=>yH b o (Iw b o e),λb hb'=>(f3 b hb').1.1,w0⟩;rintro n s5 ⟨i,a0,H5,Oe,I5,GG,JZ,w5⟩;rcases turn i n H5 w5 with ⟨stop,q⟩ | ⟨go,step⟩
  ·have hd:=T.done Xc rm ew eK CV i [] s5 _ H5 (λ_ _=>False) I5 (LD JZ) GG stop;rw [eA] at hd;refine ê hd (λr s6 hr=>?_) (λ_ _ z=>Ĉ z);obtain ⟨rfl,I6⟩:=hr;exact fin s6 H5 a0 I6 q
  ·have hd:=T.item Xc rm ew eK CV i [] s5 _ H5 (λ_ _=>False) I5 (LD JZ) GG go;rw [eA] at hd;refine ê hd (λr s6 hr=>?_) (λ_ _ z=>Ĉ z);obtain ⟨u,rfl,h6⟩:=hr;refine ê h6 (λ_ s7 hq=>?_) (λ_ _ z=>Ĉ z);obtain ⟨v,H7,I7,r7,y7,LG,Of⟩:=hq;obtain ⟨vs,hvs,step⟩:=step v H7 y7;have Og:Inv Xc (jY fp s7.heap) (a0++mask ks σ) H7 s7:=by have:=Inv.pinned (pins:=[]) I7 (LD Of) (T.obj _ _ LG);simpa using this
   have back:∀ {σ':L2.St} {H':Hp} {s':Ç},Inv Xc (jY fp s7.heap) σ' H' s'→Inv Xc [] σ' H' s'∧tn (i+1) s'.heap∧∀ b∈fp,H' b=Æ:=λ{σ' H' s'} I'=>by refine ⟨I'.o8 λp hp=>absurd hp (by simp),T.keep _ _ _ LG λb hb' o e=>(I'.pin (b,o) (ø _ (gP hb' e))).1,λb hb'=>?_⟩;obtain ⟨o,e,d⟩:=T.obj _ _ LG b hb';exact (I'.pin (b,o) (ø _ (gP hb' e))).2.1
   refine how _ _ _ _ _ _ _ Xc σ a0 v vs u H7 s7 _ _ _ hX.symm Oe Og r7 hvs λM4 s8 Oh=>?_;have ht:=Ay.1 _ s8 _ H7 _ Oh step;rw [rm,ew,eA,LC] at ht;refine ê ht (λOi s9 h9=>?_) (λ_ _ z=>z);obtain ⟨H9,I9,q9⟩:=h9;cases Oi with
   | false=>rw [if_neg Ċ] at q9 ⊢;obtain ⟨m',hm',w'⟩:=q9;obtain ⟨Oj,Ol,Om⟩:=back I9;exact ⟨m',hm',i+1,vs.map À,H9,by simpa using M4,Oj,Ol,Om,w'⟩
   | true=>rw [if_pos rfl] at q9 ⊢;have he:=Ay.2 _ s9 _ H9 _ I9 q9;rw [rm,ew,eA,LC] at he;refine ê he (λy Oo Fc=>?_) (λ_ _ z=>z);obtain ⟨yv,Oq,Ot,Ou,ys,hD,hlen,m',hm',w'⟩:=Fc;have ha:=n9 (X:=Xc) _ Oo _ Oq (.ref s.heap.objs.size) [yv] (.ref s.heap.objs.size) [y] (λ_ H'=>∃ m',m'<n∧W (i+1) m' H') Ot rfl (.cons Ou .nil) ⟨_,ys,yv,rfl,rfl,hD,hlen,m',hm',w'⟩;rw [rm,ew,eA,LC] at ha;refine ê ha (λ_ Qp h11=>?_) (λ_ _ z=>z);obtain ⟨_,Ov,Ow,_,Ox,LH,w''⟩:=h11;obtain ⟨LI,LJ,LK⟩:=back Ow;exact ⟨Ox,LH,i+1,vs.map À,Ov,by simpa using M4,LI,LJ,LK,w''⟩
 rw [Fb] at loop;exact codeAny_compStart_list loop (T.self X.A 0 _ _ _ (T.keep 0 _ _ st λb hb' o e=>yH b o (Iw b o e)) loop)
theorem Bw {tt:L2.St→TT} {te:L2.St→TE} (E8:fm X EE) (hst:∃ eZ eL L,X.stack=eZ::eL∧X.env.frame=eZ.frame∧eZ.frame=À L) (S:bA X.env.scope X.N scope xs ks) (how:Own X scope xs ks tg ow) (hc:X.calm=Á) (hi:PI X tg iter wi)
  (hb:∀ (σ:L2.St) (cl:List (Str×Addr)) (C:Addr) (pins:List (Addr×Obj)) (s0:Ç) (H0:Hp) (fp:List Addr) (E:Ã→Ç→Prop),fm (jG X scope cl xs C pins s0 H0 fp E) (λc _ H'=>EE c σ H')→CT (jG X scope cl xs C pins s0 H0 fp E) ifs (tt σ)∧PE (jG X scope cl xs C pins s0 H0 fp E) elt (te σ))
  (hs:∀ x,foldedSetIterable iter X.env x=pure x:=by intro _;rfl):PE X (.ListComp elt [⟨tg,iter,ifs,0⟩] scope pos) (λσ=>uQ wi ks ow (tt σ) (te σ) σ):=by
 intro pins s σ H Q I h;rw [eval_ListComp];refine Ŭ (use:=Æ) rfl hs (jf λy hy hfr=>I.ok.has y.1 (S.free y hy hfr)) S.kind S.names (eE (hi pins s σ H _ I h) λv s1 h1=>eE h1 λitv s2 h2=>?_);obtain ⟨it,fp,tn,J,H2,rfl,I2,T,st2,f2,q⟩:=h2;refine mw (RR:=λacc C=>compPost (model X.prog X.w) X.A X.xe Æ (EP X pins σ Q) acc C) E8 hst S how hc I2 T st2 f2 (hb σ) q ?_ (λ_ _ _ _ z=>z);intro D C s' H' m I' hn hC h1 h2 h3 h4 q';refine ⟨m,hn,λh' sb=>?_⟩;exact ⟨.ref D,H',I'.turned (t':=s'.toks) (λb o hb e=>(sb.2 b hb).trans e) hC h1 (.inr h2) h3 h4,rfl,q'⟩
theorem Bx {tt:L2.St→TT} {te:L2.St→TE} (E8:fm X EE) (hst:∃ eZ eL L,X.stack=eZ::eL∧X.env.frame=eZ.frame∧eZ.frame=À L) {y:Str} {i:Nat} {py spos:Pos} (S:bA X.env.scope X.N scope xs ks) (how:Own X scope xs ks tg ow) (hc:X.calm=Á) (hN:X.N.Nodup) (hi:PI X tg iter wi) (hy:X.N[i]?=À y) (hl:X.env.scope.names.lookup y=À .local)
  (hsw:swapsWith (.ListComp elt [⟨tg,iter,ifs,0⟩] scope pos) (À (.Name y py)) spos.line X.env=pure Á)
  (hb:∀ (σ:L2.St) (cl:List (Str×Addr)) (C:Addr) (pins:List (Addr×Obj)) (s0:Ç) (H0:Hp) (fp:List Addr) (E:Ã→Ç→Prop),fm (jG X scope cl xs C pins s0 H0 fp E) (λc _ H'=>EE c σ H')→CT (jG X scope cl xs C pins s0 H0 fp E) ifs (tt σ)∧PE (jG X scope cl xs C pins s0 H0 fp E) elt (te σ))
  (hs:∀ x,foldedSetIterable iter X.env x=pure x:=by intro _;rfl):PS X (.Assign [.Name y py] (.ListComp elt [⟨tg,iter,ifs,0⟩] scope pos) spos) (DP (λσ=>uQ wi ks ow (tt σ) (te σ) σ) (qM i)):=by
 intro pins s σ H Dd I h;rw [exec_Assign_Name_used _ _ _ _ hsw];refine Ê (wpAny_standAt (Ê ?_));show Û _ X.A (do let _ ← comprehension (.ListComp elt [⟨tg,iter,ifs,0⟩] scope pos) scope X.env _ (newList []) Â (eval iter X.env) (À (assign (.Name y py) X.env))) _ _ s
 refine Ê (ê (Ŭ (use:=À (assign (.Name y py) X.env)) (Q:=λ_ s'=>SP X pins Dd .next s') rfl hs (jf λy hy hfr=>I.ok.has y.1 (S.free y hy hfr)) S.kind S.names
  (eE (hi pins s σ H _ I h) λv s1 h1=>eE h1 λitv s2 h2=>?_)) (λ_ s' hq=>Ø (Ø hq)) λ_ _ e=>e)
 obtain ⟨it,fp,tn,J,H2,rfl,I2,T,st2,f2,q⟩:=h2;refine mw (Q:=λv H'=>Dd.nx (σ.set i (À v)) H') (RR:=λacc C=>compPost (model X.prog X.w) X.A X.xe (À (assign (.Name y py) X.env)) (λ_ s'=>SP X pins Dd .next s') acc C) E8 hst S how hc I2 T st2 f2 (hb σ) q ?_ (λ_ _ _ _ z=>z);intro D C s' H' m I' hn hC h1 h2 h3 h4 q';show Û _ X.A (assign (.Name y py) X.env (.ref D)) _ _ s';refine Ŧ (nU I' hN hy (.inl hl) (v:=.ref D) (u:=.ref D) rfl (λs'' Oz sb=>?_) (.inr hl));obtain ⟨a,sb,ha⟩:=sb;have hne:C≠a:=by
  rcases ha with e | e
  ·rw [e];exact h1
  ·exact λz=>h3 y a e z.symm
 refine ⟨m,hn.sameBut sb hne,λh'' sb'=>?_⟩;exact ⟨_,H',Oz.turned (t':=s''.toks) (λb o hb e=>(sb'.2 b hb).trans e) hC h1 (.inr h2) h3 h4,q'⟩
end
def oN:D→Option (List D):=λd=>À [d]
def oT (n:Nat):D→Option (List D)
 | .tup xs=>if xs.length=n then À xs else Æ
 | _=>Æ
def j8 (K:Å) (mg:Str→Option Ã) (ow:V→Hp→List V→Prop) (gO:D→Option (List D)):Prop:=
 ∀ (ρ:List Addr) (H:Hp) (d:D) (v:V) (os:List D),Rep K mg ρ H d v→gO d=À os→∃ vs,ow v H vs∧aq K mg ρ H os vs
theorem vW:j8 K mg Io oN:=λρ H d v os r e=>by cases e;exact ⟨[v],rfl,.cons r .nil⟩
theorem yI:j8 K mg (Ip K n) (oT n):=λρ H d v os r e=>by
 cases d<;>try (cases e;done)
 rename_i xs;dsimp only [oT] at e;by_cases h:xs.length=n
 ·rw [if_pos h] at e;cases e;unfold Rep at r;obtain ⟨a,vs,rfl,sq,rs⟩:=r;exact ⟨vs,⟨a,rfl,sq,by rw [← rs.length];exact h⟩,rs⟩
 ·rw [if_neg h] at e;cases e
def Fd (K:Å) (mg:Str→Option Ã) (H H':Hp) (ρ:List Addr):Prop:=cK K H H' ρ ρ∧∀ G,fO K mg H ρ G→fO K mg H' ρ G
theorem Fd.refl:Fd K mg H H ρ:=⟨.refl,λ_ h=>h⟩
def bS (gO:D→Option (List D)) (ks:List Bool) (tt:DS→M Bool) (te:DS→M D) (n:Nat) (d:D) (τ:DS) (G:DH):Out Unit:=match gO d with
 | none=>.stuck
 | some os=>match tt (os.map À++mask ks τ) G with
 | .ok Á G1=>match te (os.map À++mask ks τ) G1 with
  | .ok v G2=>match G2[n]? with
   | some (.lst ys)=>if ys.length<Ä then .ok () (G2.set n (.lst (ys++[v]))) else .stuck
   | _=>.stuck
  | .bw c G2=>.bw c G2
  | .stuck=>.stuck
 | .ok Â G1=>.ok () G1
 | .bw c G1=>.bw c G1
 | .stuck=>.stuck
def bE (gO:D→Option (List D)) (ks:List Bool) (tt:DS→M Bool) (te:DS→M D) (n:Nat):List D→DS→DH→Out D
 | [],_,G=>.ok (.obj n) G
 | d::r,τ,G=>match bS gO ks tt te n d τ G with
  | .ok _ G'=>bE gO ks tt te n r τ G'
  | .bw c G'=>.bw c G'
  | .stuck=>.stuck
def kH (gO:D→Option (List D)) (ks:List Bool) (tt:DS→M Bool) (te:DS→M D) (n src:Nat):Nat→Nat→DS→DH→Out D
 | 0,_,_,_=>.stuck
 | f+1,k,τ,G=>match G[src]? with
  | some (.lst xs)=>match xs[k]? with
   | none=>.ok (.obj n) G
   | some d=>match bS gO ks tt te n d τ G with
    | .ok _ G'=>kH gO ks tt te n src f (k+1) τ G'
    | .bw c G'=>.bw c G'
    | .stuck=>.stuck
  | _=>.stuck
def kI (gO:D→Option (List D)) (ks:List Bool) (m:DS→M D) (tt:DS→M Bool) (te:DS→M D):DS→M D:=λτ=>(m τ).bind λd G=>match d with
 | .obj k=>match G[k]? with
  | some (.lst xs)=>kH gO ks tt te G.length k (xs.length+1) 0 τ (G++[.lst []])
  | _=>.stuck
 | .tup xs=>bE gO ks tt te G.length xs τ (G++[.lst []])
 | .con xs=>bE gO ks tt te G.length xs τ (G++[.lst []])
 | .str z=>bE gO ks tt te G.length (z.cps.toList.map λc=>.str ⟨#[c]⟩) τ (G++[.lst []])
 | _=>.stuck
def gx (uA:List D→Option (List D)) (gO:D→Option (List D)) (ks:List Bool) (m:DS→M (List D)) (tt:DS→M Bool) (te:DS→M D):DS→M D:=λτ=>(m τ).bind λds G=>match uA ds with
 | some xs=>bE gO ks tt te G.length xs τ (G++[.lst []])
 | none=>.stuck
section
variable {X:Cx} {EE:bz} {gO:D→Option (List D)} {ow:V→Hp→List V→Prop} {xs:List Str} {tg:Expr} {ks:List Bool} {tt:DS→M Bool} {te:DS→M D}
theorem vX (h:kN K mg H ρ σ τ) (r:aq K mg ρ H os vs):kN K mg H ρ (vs.map À++mask ks σ) (os.map À++mask ks τ):=by
 have hl:=r.length;refine ⟨by simp [gk,h.1,hl],λi e he=>?_⟩;by_cases hi:i<os.length
 ·rw [Ñ (by simpa using hi),å] at he;cases q:os[i]? with
  | none=>rw [q] at he;cases he
  | some d=>rw [q] at he;cases he;obtain ⟨v,e1,r1⟩:=r.get q;exact ⟨v,by rw [Ñ (by simp;nofun),å,e1];rfl,r1⟩
 ·rw [Ú (by simp;nofun)] at he;obtain ⟨h1,h2⟩:=iF he;obtain ⟨w,e1,r1⟩:=h.2 _ e h2;refine ⟨w,?_,r1⟩;rw [Ú (by simp;nofun)];have:=uP h1 e1;simpa [hl] using this
def sO (EE:bz) (σ:L2.St):bz:=λc _ H'=>EE c σ H'
theorem oE (hO:j8 X.K X.mg ow gO) {W:Hp→Prop} {n:Nat} {p:Addr} {σ:L2.St} {H:Hp} {τ:DS} {ρ:List Addr} {G:DH} {d:D} {v:V} (ab:Ab X.K X.mg σ H τ ρ G) (r:Rep X.K X.mg ρ H d v) (hn:ρ[n]?=À p)
  (hW:match bS gO ks tt te n d τ G with
   | .stuck=>False
   | .ok _ G'=>∀ H' ρ',cK X.K H H' ρ ρ'→Ab X.K X.mg σ H' τ ρ' G'→W H'
   | .bw c G'=>∀ H' ρ',cK X.K H H' ρ ρ'→Ab X.K X.mg σ H' τ ρ' G'→EE c σ H') :
  ∃ vs,ow v H vs∧liftT X.K X.mg (sO EE σ) tt (vs.map À++mask ks σ) H λb H2=>if b=Á then cC X.K X.mg (sO EE σ) te (vs.map À++mask ks σ) H2 λu H3=>∃ ys,H3 p=À (.lst ys)∧ys.length<Ä∧W (upd H3 p (.lst (ys++[u]))) else W H2:=by
 unfold bS at hW;cases qo:gO d with
 | none=>rw [qo] at hW;exact hW.elim
 | some os=>
 rw [qo] at hW;dsimp only at hW;obtain ⟨us,Lf,OA⟩:=hO ρ H d v os r qo;refine ⟨us,Lf,?_⟩;refine ⟨_,ρ,G,⟨vX ab.st OA,ab.hp⟩,?_⟩;cases q:tt (os.map À++mask ks τ) G with
 | stuck=>rw [q] at hW;exact hW
 | bw c G1=>rw [q] at hW;exact λH' ρ' f bF=>hW H' ρ' f ⟨ab.st.mono f,bF.hp⟩
 | ok b G1=>
  rw [q] at hW;intro H1 ρ1 f1 sN;cases b with
  | false=>rw [if_neg Ċ];exact hW H1 ρ1 f1 ⟨ab.st.mono f1,sN.hp⟩
  | true=>
   rw [if_pos rfl];dsimp only at hW;refine ⟨_,ρ1,G1,sN,?_⟩;cases q2:te (os.map À++mask ks τ) G1 with
   | stuck=>rw [q2] at hW;exact hW
   | bw c G2=>rw [q2] at hW;exact λH' ρ' f bF=>hW H' ρ' (f1.trans f) ⟨ab.st.mono (f1.trans f),bF.hp⟩
   | ok u G2=>
    rw [q2] at hW;dsimp only at hW;intro w H2 ρ2 f2 cG r2;cases q3:G2[n]? with
    | none=>rw [q3] at hW;exact hW.elim
    | some o=>
     cases o with
     | lst ys=>
      rw [q3] at hW;dsimp only at hW;by_cases hl:ys.length<Ä
      ·rw [if_pos hl] at hW;dsimp only at hW;obtain ⟨p',vs,e1,e2,rs⟩:=cG.hp.lst q3;have Kd:=f1.trans f2;rw [Kd.get hn] at e1;cases e1;refine ⟨vs,e2,by rw [← rs.length];exact hl,?_⟩;have f3:cK X.K H2 (upd H2 p (.lst (vs++[w]))) ρ2 ρ2:=pG e2 ρ2;exact hW _ ρ2 (Kd.trans f3) ⟨ab.st.mono (Kd.trans f3),cG.hp.put (ds:=ys) (Kd.get hn) e2 (rs.append (.cons r2 .nil))⟩
      ·rw [if_neg hl] at hW;exact hW.elim
     | _=>first | (rw [q] at ok;exact ok.elim) | (rw [q] at aO;exact aO.elim) | (rw [q3] at hW;exact hW.elim) | (rw [q] at e;cases e;done) | (rw [g] at ok;exact ok.elim) | (rw [g] at q;cases q;done) | (rw [g] at h;cases h;done) | exact ok.elim
theorem gU (hO:j8 X.K X.mg ow gO) {Q:VK} {J:It} {H0:Hp} {σ:L2.St} {ρ0:List Addr} {G0:DH} {τ:DS} (ds:List D)
  (go:∀ i H ρ,i<ds.length→cK X.K H0 H ρ0 ρ→J.go i H) (stop:∀ i H ρ,ds.length≤i→cK X.K H0 H ρ0 ρ→J.stop i H)
  (qN:∀ i d H ρ x H',ds[i]?=À d→cK X.K H0 H ρ0 ρ→J.qN i H x H'→Fd X.K X.mg H H' ρ∧Rep X.K X.mg ρ H' d x)
  (ab:Ab X.K X.mg σ H0 τ ρ0 G0) (ok:gR X.K X.mg EE H0 σ τ ρ0 (bE gO ks tt te G0.length ds τ (G0++[.lst []])) Q) :
  ∀ D,H0 D=Æ→∃ W:Nat→Nat→Hp→Prop,(∃ m,W 0 m (upd H0 D (.lst [])))∧∀ i m H,W i m H →
   (J.stop i H∧Q (.ref D) H)∨(J.go i H∧∀ x H',J.qN i H x H'→∃ vs,ow x H' vs∧liftT X.K X.mg (sO EE σ) tt (vs.map À++mask ks σ) H' λb H2=>if b=Á then cC X.K X.mg (sO EE σ) te (vs.map À++mask ks σ) H2 λv H3=>∃ ys,H3 D=À (.lst ys)∧ys.length<Ä∧∃ m',m'<m∧W (i+1) m' (upd H3 D (.lst (ys++[v]))) else ∃ m',m'<m∧W (i+1) m' H2):=by
 intro D hD;have f0:cK X.K H0 (upd H0 D (.lst [])) ρ0 (ρ0++[D]):=(eX hD ρ0).trans (fP ρ0 D);have IA:Ab X.K X.mg σ (upd H0 D (.lst [])) τ (ρ0++[D]) (G0++[.lst []]):=ab.fut f0 (ab.hp.more hD .nil);have hn0:(ρ0++[D])[G0.length]?=À D:=by rw [← ab.hp.hl,aH]
 refine ⟨λi m H=>i≤ds.length∧m=ds.length - i∧∃ ρ G,Ab X.K X.mg σ H τ ρ G∧cK X.K H0 H ρ0 ρ∧ρ[G0.length]?=À D∧gR X.K X.mg EE H σ τ ρ (bE gO ks tt te G0.length (ds.drop i) τ G) Q,
  ⟨ds.length,ŀ _,rfl,ρ0++[D],_,IA,f0,hn0,by simpa using ok.fut f0⟩,?_⟩
 rintro i m H ⟨hi,rfl,ρ,G,ab,f,hn,ok⟩;by_cases hlt:i<ds.length
 ·refine .inr ⟨go i H ρ hlt f,λx H' y=>?_⟩;obtain ⟨⟨fN,hN⟩,rx⟩:=qN i ds[i] H ρ x H' (Ð hlt) f y
  replace ok:=gR.fut fN ok
  replace ab:Ab X.K X.mg σ H' τ ρ G:=ab.fut fN (hN _ ab.hp)
  replace f:=f.trans fN
  rw [š hlt] at ok;unfold bE at ok
  refine oE hO (W:=λH3=>∃ m',m'<ds.length - i∧i+1≤ds.length∧m'=ds.length - (i+1)∧∃ ρ G,Ab X.K X.mg σ H3 τ ρ G∧cK X.K H0 H3 ρ0 ρ∧ρ[G0.length]?=À D∧gR X.K X.mg EE H3 σ τ ρ (bE gO ks tt te G0.length (ds.drop (i+1)) τ G) Q)
    ab rx hn ?_
  cases e:bS gO ks tt te G0.length ds[i] τ G with
  | stuck=>rw [e] at ok;exact ok
  | bw c G'=>rw [e] at ok;exact ok
  | ok _ G'=>rw [e] at ok;exact λH3 ρ3 f3 x6=>⟨ds.length - (i+1),by nofun,hlt,rfl,ρ3,G',x6,f.trans f3,f3.get hn,ok.fut f3⟩
 ·have e:i=ds.length:=by nofun
  subst e;refine .inl ⟨stop _ H ρ (Ó _) f,?_⟩;rw [Ÿ (Ó _)] at ok;exact ok _ H ρ .refl ab (by unfold Rep;exact ⟨D,rfl,hn⟩)
theorem yJ (hO:j8 X.K X.mg ow gO) {Q:VK} {H0:Hp} {σ:L2.St} {ρ0:List Addr} {G0:DH} {τ:DS} {k fuel:Nat} {p:Addr} (hk:ρ0[k]?=À p)
  (ab:Ab X.K X.mg σ H0 τ ρ0 G0) (ok:gR X.K X.mg EE H0 σ τ ρ0 (kH gO ks tt te G0.length k fuel 0 τ (G0++[.lst []])) Q) :
  ∀ D,H0 D=Æ→∃ W:Nat→Nat→Hp→Prop,(∃ m,W 0 m (upd H0 D (.lst [])))∧∀ i m H,W i m H →
   ((AA X.K p).stop i H∧Q (.ref D) H)∨((AA X.K p).go i H∧∀ x H',(AA X.K p).qN i H x H'→∃ vs,ow x H' vs∧liftT X.K X.mg (sO EE σ) tt (vs.map À++mask ks σ) H' λb H2=>if b=Á then cC X.K X.mg (sO EE σ) te (vs.map À++mask ks σ) H2 λv H3=>∃ ys,H3 D=À (.lst ys)∧ys.length<Ä∧∃ m',m'<m∧W (i+1) m' (upd H3 D (.lst (ys++[v]))) else ∃ m',m'<m∧W (i+1) m' H2):=by
 intro D hD;have f0:cK X.K H0 (upd H0 D (.lst [])) ρ0 (ρ0++[D]):=(eX hD ρ0).trans (fP ρ0 D);have IA:Ab X.K X.mg σ (upd H0 D (.lst [])) τ (ρ0++[D]) (G0++[.lst []]):=ab.fut f0 (ab.hp.more hD .nil);have hn0:(ρ0++[D])[G0.length]?=À D:=by rw [← ab.hp.hl,aH]
 refine ⟨λi m H=>∃ ρ G,Ab X.K X.mg σ H τ ρ G∧cK X.K H0 H ρ0 ρ∧ρ[G0.length]?=À D∧gR X.K X.mg EE H σ τ ρ (kH gO ks tt te G0.length k m i τ G) Q,
  ⟨fuel,ρ0++[D],_,IA,f0,hn0,ok.fut f0⟩,?_⟩
 rintro i m H ⟨ρ,G,ab,f,hn,ok⟩;cases m with
 | zero=>exact ok.elim
 | succ m=>
  unfold kH at ok;cases q:G[k]? with
  | none=>rw [q] at ok;exact ok.elim
  | some o=>
   cases o with
   | lst ds=>
    rw [q] at ok;dsimp only at ok;obtain ⟨p',xs,e1,e2,rs⟩:=ab.hp.lst q;rw [f.get hk] at e1;cases e1;cases qd:ds[i]? with
    | none=>
     rw [qd] at ok;have hl:xs.length≤i:=by rw [← rs.length];exact Ţ.mp qd
     exact .inl ⟨⟨xs,.of e2,hl⟩,ok _ H ρ .refl ab (by unfold Rep;exact ⟨D,rfl,hn⟩)⟩
    | some d=>
     rw [qd] at ok;dsimp only at ok;obtain ⟨x0,ex,rx⟩:=rs.get qd;refine .inr ⟨⟨xs,x0,.of e2,ex⟩,λx H' y=>?_⟩;obtain ⟨rfl,y⟩:=y;have e3:=y xs (.of e2);rw [ex] at e3;cases e3
     refine oE hO (W:=λH3=>∃ m',m'<m+1∧∃ ρ G,Ab X.K X.mg σ H3 τ ρ G∧cK X.K H0 H3 ρ0 ρ∧ρ[G0.length]?=À D∧gR X.K X.mg EE H3 σ τ ρ (kH gO ks tt te G0.length k m' (i+1) τ G) Q)
       ab rx hn ?_
     cases e:bS gO ks tt te G0.length d τ G with
     | stuck=>rw [e] at ok;exact ok
     | bw c G'=>rw [e] at ok;exact ok
     | ok _ G'=>rw [e] at ok;exact λH3 ρ3 f3 x6=>⟨m,ű _,ρ3,G',x6,f.trans f3,f3.get hn,ok.fut f3⟩
   | _=>first | (rw [q] at ok;exact ok.elim) | (rw [q] at aO;exact aO.elim) | (rw [q3] at hW;exact hW.elim) | (rw [q] at e;cases e;done) | (rw [g] at ok;exact ok.elim) | (rw [g] at q;cases q;done) | (rw [g] at h;cases h;done) | exact ok.elim
variable {scope:Scope} {elt iter a b:Expr} {ifs:List Expr} {px pos:Pos} {m:DS→M D}
theorem vY (hO:j8 X.K X.mg ow gO) {σ:L2.St} {H:Hp} {Q:VK} (h:cC X.K X.mg EE (kI gO ks m tt te) σ H Q) :
  uQ (λσ H R=>cC X.K X.mg EE m σ H λx H1=>(∃ p,x=.ref p∧(∃ xs,kD X.K H1 p xs)∧R (AA X.K p) H1)∨(∃ p,x=.ref p∧(∃ xs,kZ X.K H1 p xs)∧R (JY X.K p) H1)∨∃ z,x=.str z∧R (Bo z) H1) ks ow (liftT X.K X.mg (sO EE σ) tt) (cC X.K X.mg (sO EE σ) te) σ H Q:=by
 obtain ⟨τ,ρ,G,ab,ok⟩:=fj (k:=λτ d G=>match d with
  | .obj k=>match G[k]? with
   | some (.lst xs)=>kH gO ks tt te G.length k (xs.length+1) 0 τ (G++[.lst []])
   | _=>.stuck
  | .tup xs=>bE gO ks tt te G.length xs τ (G++[.lst []])
  | .con xs=>bE gO ks tt te G.length xs τ (G++[.lst []])
  | .str z=>bE gO ks tt te G.length (z.cps.toList.map λc=>.str ⟨#[c]⟩) τ (G++[.lst []])
  | _=>.stuck) h
 refine ⟨τ,ρ,G,ab,?_⟩;cases e:m τ G with
 | stuck=>rw [e] at ok;exact ok
 | bw c G'=>rw [e] at ok;exact ok
 | ok d G'=>
  rw [e] at ok;intro v H1 ρ1 f1 sN r1;obtain ⟨τ2,ρ2,G2,d2,cG,r2,aO⟩:=ok v H1 ρ1 f1 sN r1;cases d2<;>try exact aO.elim
  case obj n=>
   dsimp only at aO;unfold Rep at r2;obtain ⟨p,rfl,e1⟩:=r2;cases q:G2[n]? with
   | none=>rw [q] at aO;exact aO.elim
   | some o=>
    cases o with
    | lst xs=>rw [q] at aO;obtain ⟨p',vs,e2,h2,rs⟩:=cG.hp.lst q;rw [e1] at e2;cases e2;exact .inl ⟨p,rfl,⟨vs,.of h2⟩,yJ hO e1 cG aO⟩
    | _=>first | (rw [q] at ok;exact ok.elim) | (rw [q] at aO;exact aO.elim) | (rw [q3] at hW;exact hW.elim) | (rw [q] at e;cases e;done) | (rw [g] at ok;exact ok.elim) | (rw [g] at q;cases q;done) | (rw [g] at h;cases h;done) | exact ok.elim
  case tup xs=>
   unfold Rep at r2;obtain ⟨p,vs,rfl,sq,rs⟩:=r2;refine .inr (.inl ⟨p,rfl,⟨vs,sq⟩,gU hO xs (λi H' ρ' hi f=>?_) (λi H' ρ' hi f=>?_) (λi d' H' ρ' x HY hd f y=>?_) cG aO⟩)
   ·rw [rs.length] at hi;exact ⟨vs,vs[i],f.tup _ _ sq,Ð hi⟩
   ·exact ⟨vs,f.tup _ _ sq,by rw [← rs.length];exact hi⟩
   ·obtain ⟨rfl,y⟩:=y;obtain ⟨w',ew,rw'⟩:=rs.get hd;have:=y vs (f.tup _ _ sq);rw [ew] at this;cases this;exact ⟨.refl,rw'.mono f⟩
  case con xs=>
   unfold Rep at r2;obtain ⟨p,vs,rfl,sq,rs⟩:=r2;refine .inl ⟨p,rfl,⟨vs,sq.seq⟩,gU hO xs (λi H' ρ' hi f=>?_) (λi H' ρ' hi f=>?_) (λi d' H' ρ' x HY hd f y=>?_) cG aO⟩
   ·rw [rs.length] at hi;exact ⟨vs,vs[i],(f.con _ _ sq).seq,Ð hi⟩
   ·exact ⟨vs,(f.con _ _ sq).seq,by rw [← rs.length];exact hi⟩
   ·obtain ⟨rfl,y⟩:=y;obtain ⟨w',ew,rw'⟩:=rs.get hd;have:=y vs (f.con _ _ sq).seq;rw [ew] at this;cases this;exact ⟨.refl,rw'.mono f⟩
  case str z=>
   unfold Rep at r2;subst r2;refine .inr (.inr ⟨z,rfl,gU hO (z.cps.toList.map λc=>.str ⟨#[c]⟩) (λi H' ρ' hi f=>?_) (λi H' ρ' hi f=>?_) (λi d' H' ρ' x HY hd f y=>?_) cG aO⟩)
   ·simpa [Bo] using hi
   ·simpa [Bo] using hi
   ·obtain ⟨rfl,c,hc,rfl⟩:=y;rw [å] at hd;have:z.cps.toList[i]?=À c:=by simpa using hc
    rw [this] at hd;cases hd;exact ⟨.refl,by unfold Rep;rfl⟩
def mz (X:Cx) (scope:Scope) (xs:List Str) (ifs:List Expr) (elt:Expr) (tt:DS→M Bool) (te:DS→M D):Prop:=
 ∀ (cl:List (Str×Addr)) (C:Addr) (pins:List (Addr×Obj)) (s0:Ç) (H0:Hp) (fp:List Addr) (E:Ã→Ç→Prop) (EE:bz),fm (jG X scope cl xs C pins s0 H0 fp E) EE→CT (jG X scope cl xs C pins s0 H0 fp E) ifs (liftT X.K X.mg EE tt)∧QE (jG X scope cl xs C pins s0 H0 fp E) EE elt te
def gF:DS→M Bool:=λ_=>M.ret Á
theorem vZ (h:∀ (cl:List (Str×Addr)) (C:Addr) (pins:List (Addr×Obj)) (s0:Ç) (H0:Hp) (fp:List Addr) (E:Ã→Ç→Prop) (EE:bz),fm (jG X scope cl xs C pins s0 H0 fp E) EE→QE (jG X scope cl xs C pins s0 H0 fp E) EE elt te):mz X scope xs [] elt gF te:=
 λcl C pins s0 H0 fp E EE hx=>⟨λdm s σ H Q I zz=>by obtain ⟨τ,ρ,G,ab,ok⟩:=zz;exact E6 dm s σ H Q I (ok H ρ .refl ab),h cl C pins s0 H0 fp E EE hx⟩
theorem v5 {c:Expr} (h:∀ (cl:List (Str×Addr)) (C:Addr) (pins:List (Addr×Obj)) (s0:Ç) (H0:Hp) (fp:List Addr) (E:Ã→Ç→Prop) (EE:bz),fm (jG X scope cl xs C pins s0 H0 fp E) EE→QT (jG X scope cl xs C pins s0 H0 fp E) EE c tt∧QE (jG X scope cl xs C pins s0 H0 fp E) EE elt te):mz X scope xs [c] elt tt te:=
 λcl C pins s0 H0 fp E EE hx=>⟨E7 (h cl C pins s0 H0 fp E EE hx).1,(h cl C pins s0 H0 fp E EE hx).2⟩
def rq (X:Cx):Prop:=∃ eZ eL L,X.stack=eZ::eL∧X.env.frame=eZ.frame∧eZ.frame=À L
theorem By (hx:fm X EE) (hst:rq X) (S:bA X.env.scope X.N scope xs ks) (how:Own X scope xs ks tg ow) (hO:j8 X.K X.mg ow gO) (hc:X.calm=Á) (ha:QE X EE iter m) (hb:mz X scope xs ifs elt tt te) (hs:∀ x,foldedSetIterable iter X.env x=pure x:=by intro _;rfl) :
  QE X EE (.ListComp elt [⟨tg,iter,ifs,0⟩] scope pos) (kI gO ks m tt te):=PE.mono (Bw (tt:=λσ=>liftT X.K X.mg (sO EE σ) tt) (te:=λσ=>cC X.K X.mg (sO EE σ) te) hx hst S how hc (PI.any ha) (λσ cl C pins s0 H0 fp E=>hb cl C pins s0 H0 fp E _) hs) λ_ _ _ h=>vY hO h
theorem yK (hO:j8 X.K X.mg ow gO) {Q:VK} {H0:Hp} {σ:L2.St} {ρ0:List Addr} {G0:DH} {τ:DS} (lo:Int) (n:Nat) (ab:Ab X.K X.mg σ H0 τ ρ0 G0)
  (ok:gR X.K X.mg EE H0 σ τ ρ0 (bE gO ks tt te G0.length ((ĥ n).map λ(k:Nat)=>.int (lo+(k:Int))) τ (G0++[.lst []])) Q) :
  ∀ D,H0 D=Æ→∃ W:Nat→Nat→Hp→Prop,(∃ m,W 0 m (upd H0 D (.lst [])))∧∀ i m H,W i m H →
   ((sS lo n).stop i H∧Q (.ref D) H)∨((sS lo n).go i H∧∀ x H',(sS lo n).qN i H x H'→∃ vs,ow x H' vs∧liftT X.K X.mg (sO EE σ) tt (vs.map À++mask ks σ) H' λb H2=>if b=Á then cC X.K X.mg (sO EE σ) te (vs.map À++mask ks σ) H2 λv H3=>∃ ys,H3 D=À (.lst ys)∧ys.length<Ä∧∃ m',m'<m∧W (i+1) m' (upd H3 D (.lst (ys++[v]))) else ∃ m',m'<m∧W (i+1) m' H2):=
 gU hO (J:=sS lo n) _ (λi H ρ hi f=>by simpa [sS] using hi) (λi H ρ hi f=>by simpa [sS] using hi) (λi d H ρ x H' hd f y=>by
  obtain ⟨rfl,rfl⟩:=y;rw [å] at hd;cases q:(ĥ n)[i]? with
  | none=>rw [q] at hd;cases hd
  | some k=>rw [q] at hd;obtain ⟨hk,e⟩:=É.mp q;rw [Sa] at e;subst e;cases hd;exact ⟨.refl,by unfold Rep;rfl⟩) ab ok
variable {ma:DS→M (List D)}
theorem rz (hO:j8 X.K X.mg ow gO) {σ:L2.St} {H:Hp} {Q:VK} (h:cC X.K X.mg EE (gx fk gO ks ma tt te) σ H Q):uQ (CL (oi X.K X.mg EE ma)) ks ow (liftT X.K X.mg (sO EE σ) tt) (cC X.K X.mg (sO EE σ) te) σ H Q:=by
 obtain ⟨τ,ρ,G,ab,ok⟩:=lY (k:=λτ ds G=>match fk ds with | some xs=>bE gO ks tt te G.length xs τ (G++[.lst []]) | none=>.stuck) h;refine ⟨τ,ρ,G,ab,?_⟩;cases e:ma τ G with
 | stuck=>rw [e] at ok;exact ok
 | bw c G'=>rw [e] at ok;exact ok
 | ok ds G'=>
  rw [e] at ok;intro vs H1 ρ1 f1 sN r1;obtain ⟨τ2,ρ2,G2,d2,cG,r2,aO⟩:=ok vs H1 ρ1 f1 sN r1;cases q:fk d2 with
  | none=>rw [q] at aO;exact aO.elim
  | some xs=>
   rw [q] at aO;unfold fk at q;split at q
   ·rename_i j;split at q
    ·rename_i hj;cases q;obtain ⟨v,rfl,h1⟩:=je r2;unfold Rep at h1;subst h1;exact ⟨j,rfl,hj.1,hj.2,yK hO 0 j.toNat cG aO⟩
    ·cases q
   ·cases q
theorem yL {t:TE} (hl:∀ σ H Q,cC X.K X.mg EE me σ H Q→t σ H Q) {Dd:Ends} {σ:L2.St} {H:Hp} (h:gi X.K X.mg EE (aY i me) Dd σ H):DP t (qM i) Dd σ H:=by
 obtain ⟨τ,ρ,G,ab,ok⟩:=h;refine hl σ H (λv H1=>qM i v σ H1 Dd.nx) ⟨τ,ρ,G,ab,?_⟩;dsimp only [aY,bP] at ok;cases e:me τ G with
 | stuck=>rw [e] at ok;exact ok
 | bw c G'=>rw [e] at ok;exact λH' ρ' f bF=>ok σ H' ρ' f bF
 | ok d G'=>rw [e] at ok;exact λv H' ρ' f bF r=>ok _ H' ρ' f (bF.set r)
theorem v7 {py spos p pc:Pos} (hx:fm X EE) (hst:rq X) (S:bA X.env.scope X.N scope xs ks) (how:Own X scope xs ks tg ow) (hO:j8 X.K X.mg ow gO) (hc:X.calm=Á) (hN:X.N.Nodup) (hm:X.mg "range"=Æ) (ha:QA X EE [a] ma) (hb:mz X scope xs ifs elt tt te) (hy:X.N[i]?=À y:=by rfl) (hl:X.env.scope.names.lookup y=À .local:=by rfl)
  (ET:Gl X "range":=by rfl) (LL:Ô [a] X.env=[(Â,eval a X.env)]:=by rfl)
  (hsw:swapsWith (.ListComp elt [⟨tg,.Call (.Name "range" p) [a] [] pc,ifs,0⟩] scope pos) (À (.Name y py)) spos.line X.env=pure Á:=by rfl) (hs:∀ x,foldedSetIterable (.Call (.Name "range" p) [a] [] pc) X.env x=pure x:=by intro _;rfl) :
  QS X EE (.Assign [.Name y py] (.ListComp elt [⟨tg,.Call (.Name "range" p) [a] [] pc,ifs,0⟩] scope pos) spos) (aY i (gx fk gO ks ma tt te)):=
 PS.mono (Bx (tt:=λσ=>liftT X.K X.mg (sO EE σ) tt) (te:=λσ=>cC X.K X.mg (sO EE σ) te) hx hst S how hc hN (nV ET hm ha LL) hy hl hsw (λσ cl C pins s0 H0 fp E=>hb cl C pins s0 H0 fp E _) hs) λ_ _ _ h=>yL (λ_ _ _ h=>rz hO h) h
end
theorem BA {k:Nat} (r:cZ k A):A.units+600<cLine:=by have:=r.un;nofun
theorem IB {EE:bz} {f:Addr} {pos:Pos} (hm:X.mg x=À (.ref f)) (hg:Gl X x:=by rfl) (hd:(x==("__debug__":Str))=Â:=by decide):QE X EE (.Name x pos) (eC (.fn x)):=
 vI (uC hg hm (v:=.ref f) rfl hd) λ_ _=>by unfold Rep;exact ⟨f,rfl,hm⟩
def bQ:Expr→Bool
 | .Starred ..=>Â
 | _=>Á
def plainT:Expr→Bool
 | .UnaryOp .Not _ _=>Â
 | .BoolOp ..=>Â
 | .IfExp ..=>Â
 | .Compare ..=>Â
 | _=>Á
def jl:Expr→Bool
 | .Set ..=>Â
 | _=>Á
def pN:Expr→Bool
 | .ListComp ..=>Â
 | .SetComp ..=>Â
 | .DictComp ..=>Â
 | _=>Á
def mC:Expr→Bool
 | .Call (.Name _ _) [] [] _=>Â
 | _=>Á
def uR:Expr→Bool
 | .Slice ..=>Â
 | _=>Á
def ay:List Expr→Bool
 | []=>Á
 | e::es=>bQ e&&ay es
theorem aU (h:bQ e=Á) (es:List Expr) (env:Env):Ô (e::es) env=(Â,eval e env)::Ô es env:=by cases e<;>first | rfl | cases h
theorem v8 (h:plainT e=Á) (env:Env) (whole:Sem Ã):isTrue e env whole=(do let v ← whole;standAt e.pos;holding [v] (truthy v)):=by cases e<;>first | rfl | cases h | (rename_i op _ _;cases op<;>first | rfl | cases h)
theorem lC (h:jl e=Á) (env:Env) (x:Ã):foldedSetIterable e env x=pure x:=by cases e<;>first | rfl | cases h
theorem uS (h:pN e=Á) (t:Option Expr) (l:Nat) (env:Env):swapsWith e t l env=pure Â:=by cases e<;>first | rfl | cases h
theorem gg (h:mC e=Á) (n:Str) (env:Env):attributeBase e n env (eval e env)=eval e env:=by
 unfold attributeBase;split
 ·cases h
 ·rfl
theorem IC (h:uR e=Á):lg e:=λo i=>by cases e<;>first | rfl | cases h
theorem uT (h:jl e=Á) (op:CmpOp):behindInMarks op e=Â:=by cases e<;>first | rfl | cases h
theorem bU {env:Env} {pos:Pos}:∀ {es:List Expr},ay es=Á→(backTo pos (Ô es env)).any (·.1)=Â
 | [],_=>rfl
 | e::es,h=>by
  have h':bQ e=Á∧ay es=Á:=by simpa [ay] using h
  rw [aU h'.1];have ih:=bU (env:=env) (pos:=pos) h'.2;show (Â||(backTo pos (Ô es env)).any (·.1))=Â;rw [ih];rfl
theorem oF {env:Env} {pos:Pos}:∀ {es:List Expr},ay es=Á→(backTo pos (Ô es env)).all (λx=>!x.1)=Á
 | [],_=>rfl
 | e::es,h=>by
  have h':bQ e=Á∧ay es=Á:=by simpa [ay] using h
  rw [aU h'.1];have ih:=oF (env:=env) (pos:=pos) h'.2;show (!false&&(backTo pos (Ô es env)).all (λx=>!x.1))=Á;rw [ih];rfl
theorem pO (h:ay es=Á) (hl:es.length<30):((backTo pos (Ô es env)).all (λx=>!x.1)&&(backToKw pos (keywordEach [] env)).all (λx=>x.1.isSome)
   && decide (es.length+([]:List Keyword).length+(if ([]:List Keyword).isEmpty then 0 else 1)<30))=Á:=by
 rw [oF h];simp only [Bool.true_and,ā,decide_eq_true_eq];exact ⟨rfl,by simpa using hl⟩
section
variable {X:Cx} {EE:bz} {a b c e o:Expr} {es:List Expr} {ma mb mc me mo:DS→M D} {pos p apos cpos:Pos} {m:DS→M (List D)} {ms mt:MS} {x:Str} {ks:List Bool} {tt:DS→M Bool} {te:DS→M D}
theorem BB {m:DS→M D} (ha:QE X EE e m) (hr:QA X EE es r) (h:bQ e=Á:=by rfl):QA X EE (e::es) (aa m r):=Bc ha hr (aU h _ _)
theorem yM (i:Nat) (hv:xu X.env.scope x) (hd:(x==("__debug__":Str))=Â∧(x==("__classdict__":Str))=Â) (hN:X.N[i]?=À x:=by rfl):QE X EE (.Name x pos) (af i):=Ep i hN hv hd.1 hd.2
theorem BC (h:gC X.K X.mg x d) (hg:Gl X x) (hd:(x==("__debug__":Str))=Â∧(x==("__classdict__":Str))=Â):QE X EE (.Name x pos) (eC d):=Ba h hg hd.1
theorem ID {f:Addr} (hm:X.mg x=À (.ref f)) (hg:Gl X x) (hd:(x==("__debug__":Str))=Â∧(x==("__classdict__":Str))=Â):QE X EE (.Name x pos) (eC (.fn x)):=IB hm hg hd.1
theorem yN (ha:QE X EE a ma) (hb:QE X EE b mb) (h:uR b=Á:=by rfl):QE X EE (.Subscript a b pos) (aj bO ma mb):=yg ha hb (IC h)
theorem IE (hu:X.A.units+600<cLine) (ha:QE X EE a ma) (hb:QE X EE b mb) (h:jl b=Á:=by rfl):QE X EE (.Compare a [.In] [b] pos) (aj (ja Â) ma mb):=HS hu ha hb (uT h _)
theorem Fe (ho:gB X (compareOp op) (rD X EE f)) (ha:QE X EE a ma) (hb:QE X EE b mb) (h:jl b=Á:=by rfl):QT X EE (.Compare a [op] [b] pos) (dh (aj f ma mb)):=EH ho ha hb (uT h _)
theorem Ff (ha:QE X EE a ma) (h:plainT a=Á:=by rfl):QT X EE a (cO dM ma):=EB ha (v8 h _)
theorem mD {id:String} {f:List D→M D} (hc:cX X (.builtin id) (Br X EE f)) (hm:X.mg x=Æ) (hg:Gl X x) (hv:bootBuiltins x=À (.builtin id)) (ha:QA X EE (e::es) m) (hn:x≠"__name__":=by decide) (hdb:(x==("__debug__":Str))=Â:=by decide) (h:ay (e::es)=Á:=by rfl) :
  QE X EE (.Call (.Name x p) (e::es) [] pos) (ai f m):=by
 have h':bQ e=Á∧ay es=Á:=by simpa [ay] using h
 exact yb hc l6 hm ha hg hv hn hdb (aU h'.1 _ _) (bU h'.2)
theorem j9 {id:String} {f:List D→M D} (hc:cX X (.type id) (Br X EE f)) (hm:X.mg x=Æ) (hg:Gl X x) (hv:bootBuiltins x=À (.type id)) (ha:QA X EE (e::es) m) (hn:x≠"__name__":=by decide) (hdb:(x==("__debug__":Str))=Â:=by decide) (h:ay (e::es)=Á:=by rfl) :
  QE X EE (.Call (.Name x p) (e::es) [] pos) (ai f m):=by
 have h':bQ e=Á∧ay es=Á:=by simpa [ay] using h
 exact vJ hc l6 hm ha hg hv hn hdb (aU h'.1 _ _) (bU h'.2)
theorem Fg (hm:X.mg "len"=Æ) (hg:Gl X "len") (ha:QA X EE [e] m) (h:ay [e]=Á:=by rfl):QE X EE (.Call (.Name "len" p) [e] [] pos) (ai c5 m):=mD vM hm hg PySem.boot_len ha (by decide) (by decide) h
theorem Fi (hc:X.calm=Á) (hm:X.mg "all"=Æ) (hg:Gl X "all") (ha:QA X EE [e] m) (h:ay [e]=Á:=by rfl):QE X EE (.Call (.Name "all" p) [e] [] pos) (ai (yp Â) m):=mD (vO hc) hm hg PyProof.Rows.boot_all ha (by decide) (by decide) h
theorem BD (hc:X.calm=Á) (hm:X.mg "max"=Æ) (hg:Gl X "max") (ha:QA X EE [e,a] m) (h:ay [e,a]=Á:=by rfl):QE X EE (.Call (.Name "max" p) [e,a] [] pos) (ai (jj λi j=>if j > i then j else i) m):=mD (vP hc) hm hg PyProof.Rows.boot_max ha (by decide) (by decide) h
theorem Fj (c:Ty) {pt:Pos} (hc:c≠.dR) (hm:X.mg "isinstance"=Æ) (hmt:X.mg x=Æ) (hg:Gl X "isinstance") (hgt:Gl X x) (ha:QE X EE a ma) (hb:bootBuiltins x=À (.type c.nm)) (hnt:x≠"__name__") (hdt:(x==("__debug__":Str))=Â) (h:bQ a=Á:=by rfl) :
  QE X EE (.Call (.Name "isinstance" p) [a,.Name x pt] [] pos) (vN c ma):=EU c hc hm hmt ha hb hg hgt hnt hdt (aU h _ _) (aU rfl _ _) (bU (es:=[.Name x pt]) rfl)
theorem BE {CX:nX} {k:Nat} {f:Addr} (F:j0 X.prog X.w X.K X.mg X.base CX k f fd ps (ir X.K X.mg n mf)) (hr:cZ k X.A) (hm:X.mg x=À (.ref f)) (hk:ö X.K (.ref f)=Á) (hb:Binds X.K fd ps []) (hx:HZ CX X EE) (hg:Gl X x)
  (hd:(x==("__debug__":Str))=Â∧(x==("__classdict__":Str))=Â) (ha:QA X EE (e::es) m) (h:ay (e::es)=Á:=by rfl):QE X EE (.Call (.Name x p) (e::es) [] pos) (aA n mf m):=by
 have h':bQ e=Á∧ay es=Á:=by simpa [ay] using h
 exact Bq F hr hm hk hb hx ha hg hd.1 (aU h'.1 _ _) (bU h'.2)
theorem v9 (ho:QE X EE o mo) (ha:QA X EE [e] m) (hb:mC o=Á:=by rfl) (h:ay [e]=Á:=by rfl) (hline:(apos.endLine==cpos.line)=Á:=by rfl):QE X EE (.Call (.Attribute o "append" apos) [e] [] cpos) (cP "list" dW mo m):=by
 have h':bQ e=Á∧ay []=Á:=by simpa [ay] using h
 exact vQ ho ha (gg hb _ _) (pO h (by simp)) hline (aU h'.1 _ _) (bU (es:=[]) rfl)
theorem Fl (ho:QE X EE o mo) (hb:mC o=Á:=by rfl) (hline:(apos.endLine==cpos.line)=Á:=by rfl):QE X EE (.Call (.Attribute o "pop" apos) [] [] cpos) (cP "list" pK mo ah):=EW ho (gg hb _ _) hline
theorem BF (he:QE X EE a ma) (h:pN a=Á:=by rfl):QS X EE (.Expr a pos) (iD ma):=Bl he (uS h _ _ _)
theorem Fo {pos':Pos} (hN:X.N.Nodup) (hx:Loc X.env.scope x) (he:QE X EE a ma) (hf:X.fn x=Á∨X.env.scope.names.lookup x=À .local) (hi:X.N[i]?=À x:=by rfl) (h:pN a=Á:=by rfl):QS X EE (.Assign [.Name x pos'] a pos) (aY i ma):=ER hN he hi hx (uS h _ _ _) hf
theorem BG (hN:X.N.Nodup) (hx:Loc X.env.scope x) (hf:X.fn x=Á∨X.env.scope.names.lookup x=À .local) (hi:X.N[i]?=À x:=by rfl):QG X (.Name x pos) (gN i):=Bm hN hi hx hf
theorem Fp {g:kF} (hp:PassesOwn (model X.prog X.w) X.A X.env X.xe) (hc:X.calm=Á) (ha:QE X EE a ma) (hg:QG X tg g) (hb:lq X EE body ms) (h:jl a=Á:=by rfl):QS X EE (.For tg a body [] pos) (j5 g ma ms):=ES hp hc ha hg hb (lC h _)
theorem yO {g:kF} {pc:Pos} (hp:PassesOwn (model X.prog X.w) X.A X.env X.xe) (hc:X.calm=Á) (hm:X.mg "range"=Æ) (ET:Gl X "range") (ha:QA X EE [a] m) (hg:QG X tg g) (hb:lq X EE body ms) (h:bQ a=Á:=by rfl) :
  QS X EE (.For tg (.Call (.Name "range" p) [a] [] pc) body [] pos) (eY fk g m ms):=yo hp hc hm ha hg hb ET (aU h _ _) (lC rfl _)
variable {scope:Scope} {elt iter tg:Expr} {xs:List Str} {ow:V→Hp→List V→Prop} {gO:D→Option (List D)} {ifs:List Expr} {px:Pos}
theorem BH (hx:fm X EE) (hst:rq X) (S:bA X.env.scope X.N scope xs ks) (how:Own X scope xs ks tg ow) (hO:j8 X.K X.mg ow gO) (hc:X.calm=Á) (ha:QE X EE iter ma) (hb:mz X scope xs ifs elt tt te) (h:jl iter=Á:=by rfl):QE X EE (.ListComp elt [⟨tg,iter,ifs,0⟩] scope pos) (kI gO ks ma tt te):=By hx hst S how hO hc ha hb (lC h _)
theorem wc (hx:fm X EE) (hst:rq X) (S:bA X.env.scope X.N scope xs ks) (how:Own X scope xs ks tg ow) (hO:j8 X.K X.mg ow gO) (hc:X.calm=Á) (hN:X.N.Nodup) (hl:X.env.scope.names.lookup y=À .local) (hm:X.mg "range"=Æ) (ET:Gl X "range") (ha:QA X EE [a] m) (hb:mz X scope xs ifs elt tt te)
  (hsw:swapsWith (.ListComp elt [⟨tg,.Call (.Name "range" p) [a] [] pc,ifs,0⟩] scope pos) (À (.Name y py)) spos.line X.env=pure Á) (hy:X.N[i]?=À y:=by rfl) (h:bQ a=Á:=by rfl) :
  QS X EE (.Assign [.Name y py] (.ListComp elt [⟨tg,.Call (.Name "range" p) [a] [] pc,ifs,0⟩] scope pos) spos) (aY i (gx fk gO ks m tt te)):=v7 hx hst S how hO hc hN hm ha hb hy hl ET (aU h _ _) hsw (lC rfl _)
theorem we {l:Nat} (hb:(env.blockKind==.function)=Á) (hl:env.scope.names.lookup y=À .local) (hp:(py.line==pos.line)=Á) (hq:(scope.names.any λx=>x.1==y&&(x.2==.local||x.2==.cell))=Â):swapsWith (.ListComp elt gens scope pos) (À (.Name y py)) l env=pure Á:=by
 unfold swapsWith;dsimp only;show (pure (env.blockKind==.function&&env.kindOf y==À .local&&py.line==pos.line&&!(scope.names.any λx=>x.1==y&&(x.2==.local||x.2==.cell))):Sem Bool)=pure Á;have e:(env.kindOf y==À NameKind.local)=Á:=by rw [show env.kindOf y=À NameKind.local from hl];rfl
 rw [hb,e,hp,hq];rfl
theorem Fq (S:bA X.env.scope X.N scope xs ks) (h:x∈xs):xu (jG X scope cl xs C pins s0 H0 fp E).env.scope x:=.inl (mq (cl:=cl) (C:=C) S h)
theorem BI (S:bA X.env.scope X.N scope xs ks) (h:scope.names.lookup y=À .free):xu (jG X scope cl xs C pins s0 H0 fp E).env.scope y:=.inr (j7 (cl:=cl) (C:=C) S h)
theorem BJ (h:scope.names.lookup y=À .globalImplicit):Gl (jG X scope cl xs C pins s0 H0 fp E) y:=by show (compEnvC scope cl C X.env).kindOf y=À .globalImplicit;have e:(compEnvC scope cl C X.env).kindOf y=(scope.names.lookup y).map (nG X.env y):=cQ scope.names;rw [e,h];rfl
end
theorem yP {np cpos pos:Pos} (hc:X.calm=Á) (hx:fm X EE) (hm:X.mg x=À (.ref C)) (hq:ŏ X.K C vS "ValueError.__new__"=Á) (hg:Gl X x) (hd:(x==("__debug__":Str))=Â∧(x==("__classdict__":Str))=Â)
  (ha:QA X EE (e::es) m) (h:ay (e::es)=Á:=by rfl):QS X EE (.Raise (À (.Call (.Name x np) (e::es) [] cpos)) Æ pos) (cy x m):=by
 have h':bQ e=Á∧ay es=Á:=by simpa [ay] using h
 exact yx hc hx hm hq hg hd.1 ha (aU h'.1 _ _) (bU h'.2)
section
open Builtin Builtin.Str
section
variable {X:Cx} {EE:bz}
theorem tV {prog:ó} {w:Đ} {A:Around} {E:Ã→Ç→Prop} {s:Ç} {t u:Tok} {Q:Ã→Ç→Prop} (hy:(y.length==0)=Â) (hsz:x.length+2≤Ä)
  (hq:∀ (l:List (Str×Tok)) (k:Nat),l.map (·.1)=Ĭ x y→Q (.ref s.heap.objs.size) {s with heap:=s.heap.push {cls:=.type "list",data:=.seq (strValues l).toArray},toks:=k}) :
  Û (model prog w) A (call (.builtin "str.split") [.str x t,.str y u]) Q E s:=by
 have OB:(partsBetween x (occurrences x y 0 x.length (x.length+1)) y.length).length≤Ä:=by rw [length_partsBetween];have:=StrLaws.occ_length_le x y 0 x.length (x.length+1);nofun
 unfold Ĭ at hq;cases h1:(decide (x.length<y.length)||decide (strKind x<strKind y)) with
 | true=>rw [h1,if_pos rfl] at hq;exact call_meets ō (typeIs_str _ _ _) ũ (Ş _ _) (meets_str_split_cannot_occur x y t u h1) (hq [(x,t)] s.toks rfl)
 | false=>
  rw [h1,if_neg Ċ] at hq;cases hf:(occurrences x y 0 x.length (x.length+1)).isEmpty with
  | true=>rw [hf,if_pos rfl] at hq;exact call_meets ō (typeIs_str _ _ _) ũ (Ş _ _) (meets_str_split_not_found x y t u h1 hy hf) (hq [(x,t)] s.toks rfl)
  | false=>rw [hf,if_neg Ċ] at hq;refine call_meets ō (typeIs_str _ _ _) ũ (Ş _ _) (meets_str_split_sep x y t u h1 hy hf (by nofun) OB) ?_;have:=hq (numbered s.toks (partsBetween x (occurrences x y 0 x.length (x.length+1)) y.length)) (s.toks+(partsBetween x (occurrences x y 0 x.length (x.length+1)) y.length).length) (numbered_texts _ _);rw [← strsFrom_eq] at this;exact this
def mE:D→List D→M D
 | .str x,[.str y]=>λG=>if y.length≠0∧x.length+2≤Ä then aI ((Ĭ x y).map .str) G else .stuck
 | _,_=>M.stop
theorem Vals.strs:∀ (l:List (Str×Tok)),Vals ((l.map (·.1)).map V.str) (strValues l)
 | []=>.nil
 | p::r=>.cons ⟨_,rfl⟩ (Vals.strs r)
theorem aq.strs:∀ (l:List Str),aq K mg ρ H (l.map D.str) (l.map V.str)
 | []=>.nil
 | p::r=>.cons (by unfold Rep;rfl) (aq.strs r)
theorem wg:xR X "str.split" (Ib X EE mE):=by
 intro pins s σ0 H x xs v us Q I rx Ic zu;obtain ⟨σ,τ,ρ,G,d,ds,ab,rd,xx,ok⟩:=zu;cases d<;>try exact ok.elim
 rename_i z
 match ds,ok with
 | [],ok=>exact ok.elim
 | a::_::_,ok=>cases a<;>exact ok.elim
 | [y],ok=>
  cases y<;>try exact ok.elim
  rename_i y;obtain ⟨yv,rfl,ry⟩:=je xx;unfold Rep at rd ry;subst rd ry;obtain ⟨t,rfl⟩:=rx;obtain ⟨u,rfl,ru⟩:=vals1 Ic;obtain ⟨t',rfl⟩:=ru;dsimp only [mE] at ok;by_cases hc:y.length≠0∧z.length+2≤Ä
  ·rw [if_pos hc] at ok;obtain ⟨hl,hn⟩:=lZ ab (aq.strs (Ĭ z y)) ok;refine ic I.os.2 <| tV (by simpa using hc.1) hc.2 λl k hlk=>λht=>?_;refine ⟨.ref s.heap.objs.size,upd H s.heap.objs.size (.lst ((Ĭ z y).map V.str)),I.laid (t':=k) (λb o e=>Î _ e) (Ó _) ?_,rfl,hn _ (I.hok.fresh (Ó _))⟩;exact ⟨hl,strValues l,0,by rw [← hlk];exact Vals.strs l,ç _ rfl⟩
  ·rw [if_neg hc] at ok;exact ok.elim
def strsOf:List D→Option (List Str)
 | []=>À []
 | .str x::r=>(strsOf r).map (x::·)
 | _::_=>Æ
theorem mF {K:Å} {mg:Str→Option Ã} {ρ:List Addr} {H:Hp}:∀ {ds:List D} {vs:List V} {us:List Ã} {ts:List Str},aq K mg ρ H ds vs→Vals vs us→strsOf ds=À ts→∃ l:List (Str×Tok),us=strValues l∧l.map (·.1)=ts
 | [],vs,us,ts,r,v,e=>by unfold aq at r;subst r;cases v;cases e;exact ⟨[],rfl,rfl⟩
 | d::ds,vs,us,ts,r,v,e=>by
  unfold aq at r;obtain ⟨x,r',rfl,h1,h2⟩:=r;cases v with
  | cons v1 v2=>
   cases d<;>try (cases e;done)
   rename_i y;dsimp only [strsOf] at e;cases q:strsOf ds with
   | none=>rw [q] at e;cases e
   | some ts'=>rw [q] at e;cases e;unfold Rep at h1;subst h1;obtain ⟨t,rfl⟩:=v1;obtain ⟨l,rfl,e2⟩:=mF h2 v2 q;exact ⟨(y,t)::l,rfl,by simp [e2]⟩
def mG:List D→M D
 | [d]=>λG=>match aG G d with
  | some (.lst xs)=>dJ xs G
  | some (.tup xs)=>.ok d G
  | _=>.stuck
 | _=>M.stop
theorem wj:cX X (.type "tuple") (Br X EE mG):=by
 intro pins s σ0 H xs us Q I r zu;obtain ⟨σ,τ,ρ,G,ds,ab,xx,ok⟩:=zu
 match ds,ok with
 | [],ok=>exact ok.elim
 | _::_::_,ok=>exact ok.elim
 | [y],ok=>
  obtain ⟨yv,rfl,ry⟩:=je xx;dsimp only [mG] at ok;cases q:aG G y with
  | none=>rw [q] at ok;exact ok.elim
  | some sk=>
   rw [q] at ok;cases sk with
   | str _=>exact ok.elim
   | tup ys=>obtain ⟨p,vs,rfl,sq,rs⟩:=fH ry q;exact jd pins s σ0 H _ us Q I r ⟨p,vs,rfl,.inr ⟨sq,ok _ H ρ .refl ab ry⟩⟩
   | lst ys=>obtain ⟨p,vs,rfl,sq,rs⟩:=cT (pins:=pins) (σ0:=σ0) (s:=s) ab.hp ry q;exact jd pins s σ0 H _ us Q I r ⟨p,vs,rfl,.inl ⟨sq,λl hl=>(pI ab rs ok).2 l hl⟩⟩
variable {x:Str} {p pos apos cpos:Pos} {e o:Expr} {es:List Expr} {m:DS→M (List D)} {mo:DS→M D}
theorem yQ (ho:QE X EE o mo) (ha:QA X EE [e] m) (hb:mC o=Á:=by rfl) (h:ay [e]=Á:=by rfl) (hline:(apos.endLine==cpos.line)=Á:=by rfl):QE X EE (.Call (.Attribute o "split" apos) [e] [] cpos) (cP "str" mE mo m):=by
 have h':bQ e=Á∧ay []=Á:=by simpa [ay] using h
 exact CP SA ō F.type_str_split wg ho ha (gg hb _ _) (pO h (by simp)) hline (aU h'.1 _ _) (bU (es:=[]) rfl)
theorem boot_tuple:bootBuiltins "tuple"=À (.type "tuple"):=by symm
theorem yR (hm:X.mg "tuple"=Æ) (hg:Gl X "tuple") (ha:QA X EE [e] m) (h:ay [e]=Á:=by rfl):QE X EE (.Call (.Name "tuple" p) [e] [] pos) (ai mG m):=j9 wj hm hg boot_tuple ha (by decide) (by decide) h
def mH (i n:Nat) (iy:Str→Option (List D→M D)) (m:DS→M (List D)):DS→M D:=λτ G=>match τ[i]? with
 | some (À (.fn y))=>match iy y with
  | some mf=>aA n mf m τ G
  | none=>.stuck
 | _=>.stuck
theorem yS {CX:nX} {n:Nat} {iy:Str→Option (List D→M D)} (hN:X.N[i]?=À x) (hv:xu X.env.scope x) (hd:(x==("__debug__":Str))=Â∧(x==("__classdict__":Str))=Â)
  (hF:∀ y mf,iy y=À mf→∃ k f fd ps,j0 X.prog X.w X.K X.mg X.base CX k f fd ps (ir X.K X.mg n mf)∧cZ k X.A∧X.mg y=À (.ref f)∧ö X.K (.ref f)=Á∧Binds X.K fd ps []) (hx:HZ CX X EE)
  (ha:QA X EE (e::es) m) (h:ay (e::es)=Á:=by rfl):QE X EE (.Call (.Name x p) (e::es) [] pos) (mH i n iy m):=by
 have h':bQ e=Á∧ay es=Á:=by simpa [ay] using h
 intro pins s σ H Q I hq;obtain ⟨τ,ρ,G,ab,ok⟩:=hq;unfold mH at ok;cases q:τ[i]? with
 | none=>rw [q] at ok;exact ok.elim
 | some od=>
  cases od with
  | none=>rw [q] at ok;exact ok.elim
  | some d=>
   rw [q] at ok;cases d<;>try exact ok.elim
   rename_i y;dsimp only at ok;cases qt:iy y with
   | none=>rw [qt] at ok;exact ok.elim
   | some mf=>
    rw [qt] at ok;obtain ⟨k,f,fd,ps,F,hr,hm,hk,hb⟩:=hF y mf qt;obtain ⟨v,ev,rv⟩:=ab.st.2 i (.fn y) q;unfold Rep at rv;obtain ⟨a,rfl,ha'⟩:=rv;rw [hm] at ha';cases ha';obtain ⟨τ1,ρ1,G1,sN,GL⟩:=lY (k:=λ_ ds=>if ds.length=n then mf ds else M.stop) ⟨τ,ρ,G,ab,ok⟩;refine ĉ (ê (sR hN hv hd.1 hd.2 pins s σ H (λv' H'=>v'=.ref f∧H'=H) I ⟨_,ev,rfl,rfl⟩) (λu s0 hu=>?_) λ_ _ z=>z);obtain ⟨v',H',I0,r0,rfl,rfl⟩:=hu;cases r0;refine Sb (h₀:=X.base) I0.ok.mod.GD hk (eE (ha pos pins s0 σ H' _ I0 ⟨τ1,ρ1,G1,sN,GL⟩) λus s1 ⟨vs,H1,I1,r,q⟩=>⟨I1.nD,?_⟩) (aU h'.1 _ _) (bU h'.2);obtain ⟨τ2,ρ2,G2,ds,cG,rs,aO⟩:=q;by_cases hn:ds.length=n
    ·rw [if_pos hn] at aO;exact uL F hr hb hx I1 r cG rs hn aO
    ·rw [if_neg hn] at aO;exact aO.elim
def yT (c:Str) (m:DS→M D):DS→M D:=λτ=>if c.length≤Ä then (m τ).bind λd=>match d with
 | .str y=>if (c++y).length≤Ä∧y.length≤Ä then M.ret (.str (c++y)) else M.stop
 | _=>M.stop else M.stop
theorem Ft {j:Nat} (ha:QE X EE e mo):QE X EE (.JoinedStr [.Constant (.str c) j p1,.FormattedValue e (-1) Æ p2] pos) (yT c mo):=by
 intro pins s σ H Q I h;have emp:SX++c=c:=by
  cases c with
  | mk cs=>show Str.mk (#[]++cs)=_;simp
 obtain ⟨τ0,ρ0,G0,IA,IF⟩:=h;unfold yT at IF;by_cases hc:c.length≤Ä
 ·rw [if_pos hc] at IF;have h1:cC X.K X.mg EE (λτ=>(mo τ).bind λd=>match d with
    | .str y=>if (c++y).length≤Ä∧y.length≤Ä then M.ret (.str (c++y)) else M.stop
    | _=>M.stop) σ H Q:=⟨τ0,ρ0,G0,IA,IF⟩
  have h2:=fj (k:=λ_ d=>match d with
    | .str y=>if (c++y).length≤Ä∧y.length≤Ä then M.ret (.str (c++y)) else M.stop
    | _=>M.stop) h1
  refine wpAny_JoinedStr ?_;show Û _ _ (eval (.Constant (.str c) j p1) X.env) _ _ s;refine Ľ ⟨c,_,rfl,by rw [emp];exact hc,?_⟩;rw [emp];show Û _ _ (eval (.FormattedValue e (-1) Æ p2) X.env) _ _ _;refine wpAny_FormattedValue_plain (ê (ha pins {s with toks:=s.toks+1} σ H _ (I.tok _) h2) (λu s1 hu=>?_) λ_ _ z=>z);obtain ⟨v,H1,I1,r1,τ,ρ,G,d,ab,rd,ok⟩:=hu;cases d<;>try exact ok.elim
  rename_i y;unfold Rep at rd;subst rd;obtain ⟨t,rfl⟩:=r1;dsimp only at ok;by_cases hy:(c++y).length≤Ä∧y.length≤Ä
  ·rw [if_pos hy] at ok;have hq:=ok (.str (c++y)) H1 ρ .refl ab (by unfold Rep;rfl);refine wpAny_formatField_str ⟨y,_,rfl,hy.1,hy.1,.str _,H1,I1.tok _,⟨_,rfl⟩,hq⟩ ⟨y,_,rfl,hy.1,hy.1,.str _,H1,I1.tok _,⟨_,rfl⟩,hq⟩ hy.2
  ·rw [if_neg hy] at ok;exact ok.elim
 ·rw [if_neg hc] at IF;exact IF.elim
end
end
section
open Builtin Builtin.Str
section
variable {X:Cx} {EE:bz}
def rA (y z:Str):D→M D
 | .str x=>if (y==z)=Â∧x.length+(x.length+1)*z.length≤16777216 then M.ret (.str (Ö x y z)) else M.stop
 | _=>M.stop
def pP (f:D→M D) (m:DS→M D):DS→M D:=λτ=>(m τ).bind f
variable {o:Expr} {mo:DS→M D} {y z:Str} {j1 j2:Nat} {p1 p2 apos cpos:Pos}
theorem Fv (ho:QE X EE o mo) (hb:mC o=Á:=by rfl) (hline:(apos.endLine==cpos.line)=Á:=by rfl):QE X EE (.Call (.Attribute o "replace" apos) [.Constant (.str y) j1 p1,.Constant (.str z) j2 p2] [] cpos) (pP (rA y z) mo):=by
 intro pins s σ H Q I h;have h2:=fj (k:=λ_=>rA y z) h;have hst:Ô [.Constant (.str y) j1 p1,.Constant (.str z) j2 p2] X.env=[(Â,eval (.Constant (.str y) j1 p1) X.env),(Â,eval (.Constant (.str z) j2 p2) X.env)]:=by rw [aU rfl,aU rfl];rfl
 refine ņ (gg hb _ _) (pO (es:=[.Constant (.str y) j1 p1,.Constant (.str z) j2 p2]) rfl (by simp)) hline rfl (eE (ho pins s σ H _ I h2) λv s1 hv=>?_);obtain ⟨xv,H1,I1,r1,τ,ρ,G,d,ab,rd,ok⟩:=hv;cases d<;>try exact ok.elim
 rename_i x;dsimp only [rA] at ok;by_cases hc:(y==z)=Â∧x.length+(x.length+1)*z.length≤16777216
 ·rw [if_pos hc] at ok;unfold Rep at rd;subst rd;obtain ⟨t,rfl⟩:=r1;have hq:=ok (.str (Ö x y z)) H1 ρ .refl ab (by unfold Rep;rfl);obtain ⟨g1,g2⟩:=tB I1 (x:=.str x) (v:=.str x t) ⟨t,rfl⟩ (T:="str") rfl;refine ⟨"str","str.replace",SA,F.slot_str_replace,F.type_str_replace,g1,g2,?_⟩;rw [hst];refine ħ (by rfl) (İ ?_);refine ú (Ľ (k:=j1) (pos:=p1) (ú (Ľ (k:=j2) (pos:=p2) (į ?_))));show Û _ _ (call (.builtin "str.replace") [.str x t,.str y s1.toks,.str z (s1.toks+1)]) _ _ _;exact ic (ð _) (SC.replace (ŕ I1.os.2) (Nat.succ_ne_zero _) (ã (ű _)) hc.1 hc.2 λt' k=>λht=>⟨.str _,H1,I1.tok k (ht:=ht),⟨_,rfl⟩,hq⟩)
 ·rw [if_neg hc] at ok;exact ok.elim
end
section
theorem kO (a:Addr) (items:Array Ã) (n:Nat) (dd:Option Addr) (sl:Array (Option Ã)) (x:Ã) (f:Ã→Bool) (j:Nat) (hj:j<items.size) (hit:f items[j]=Á) (hno:∀ m (hm:m<items.size),m<j→f items[m]=Â) (he:∀ y∈items,MeetsSeq.EqGives y x (f y)) :
  Meets (Builtin.«tuple.index» ⟨[.ref a,x],[]⟩) (λ_ R s=>s.heap.get? a=À {cls:=.type "tuple",dict:=dd,data:=.seq items n,slots:=sl}∧R (.ok (.ret (.int j s.toks))) {s with toks:=s.toks+1}):=by
 refine .of_wp λprog w A R s h=>?_;obtain ⟨hp,g,d,tk,os⟩:=s;obtain ⟨hl,h⟩:=h
 wp_walk using wpAny_loadPart' hl
 refine (show Û (model prog w) A.in1 (forIn ([:min items.size items.size]:Ŏ) ((Æ,()):Option Fin×Unit) (λ(i:Nat) __s=>match items[i]? with
  | some y=>(do
   let b ← eqBool y x
   if b=Á then (do let r ← retInt (i:Int);pure (ForInStep.done (À r,()))) else pure (ForInStep.yield (Æ,())))
  | _=>pure (ForInStep.yield (Æ,())))) _ _ _ from ?_)
 rw [Ŏ.forIn_eq_forIn_range'];have hsz:([:min items.size items.size]:Ŏ).size=items.size:=by simp [Ŏ.size]
 rw [hsz];refine wpAny_forIn_list _ (λl b s'=>b=(Æ,())∧s'=⟨hp,g,d,tk,os⟩∧∃ i,i≤j∧l=í i (items.size - i) 1) _ ?_ ?_ _ _ ⟨rfl,rfl,0,ŀ _,rfl⟩
 ·rintro i rest b s' ⟨rfl,rfl,k,hk,hl2⟩;obtain ⟨m,hm⟩:∃ m,items.size - k=m+1:=⟨items.size - k - 1,by nofun⟩;rw [hm,đ] at hl2;obtain ⟨rfl,rfl⟩:=List.cons.inj hl2;have hlt:i<items.size:=by nofun
  rw [Š hlt];dsimp only;refine Ê (he _ (Array.getElem_mem hlt) prog w _ _ _ _ ?_);by_cases hij:i=j
  ·subst hij;rw [hit]
   wp_walk
   exact ⟨_,rfl,h⟩
  ·rw [hno i hlt (by nofun)]
   wp_walk
   exact ⟨rfl,rfl,i+1,by nofun,by rw [show items.size - (i+1)=m by nofun]⟩
 ·rintro b s' ⟨rfl,rfl,k,hk,hl2⟩;have:items.size - k≠0:=by nofun
  obtain ⟨m,hm⟩:∃ m,items.size - k=m+1:=⟨items.size - k - 1,by nofun⟩;rw [hm,đ] at hl2;cases hl2
end
section
variable {X:Cx} {EE:bz}
def mJ (y:Str):List D→Option Nat
 | []=>Æ
 | .str x::r=>if x=y then À 0 else (mJ y r).map (·+1)
 | _::_=>Æ
theorem mK {y:Str}:∀ {ds:List D} {l:List (Str×Tok)} {j:Nat},strsOf ds=À (l.map (·.1))→mJ y ds=À j→∃ hj:j<(strValues l).length,(Value.isStrOf y (strValues l)[j]=Á)∧∀ m (hm:m<(strValues l).length),m<j→Value.isStrOf y (strValues l)[m]=Â
 | [],l,j,_,h=>nomatch h
 | d::ds,l,j,e,h=>by
  cases d<;>try (cases e;done)
  rename_i x;dsimp only [strsOf] at e;cases q:strsOf ds with
  | none=>rw [q] at e;cases e
  | some ts=>
   rw [q] at e;cases l with
   | nil=>cases e
   | cons p l=>
    have e':x=p.1∧ts=l.map (·.1):=by simpa using e
    obtain ⟨rfl,rfl⟩:=e';dsimp only [mJ] at h;by_cases hx:p.1=y
    ·rw [if_pos hx] at h;cases h;exact ⟨by simp [strValues],by simp [strValues,Value.isStrOf,hx],λm _ hm=>absurd hm (Nat.not_lt_zero _)⟩
    ·rw [if_neg hx] at h;cases qi:mJ y ds with
     | none=>rw [qi] at h;cases h
     | some i=>
      rw [qi] at h;cases h;obtain ⟨h1,h2,h3⟩:=mK (l:=l) q qi;refine ⟨by simpa [strValues] using h1,by simpa [strValues] using h2,λm hm hlt=>?_⟩;cases m with
      | zero=>simpa [strValues,Value.isStrOf] using hx
      | succ m=>simpa [strValues] using h3 m (by simpa [strValues] using hm) (Nat.lt_of_succ_lt_succ hlt)
variable {p pos apos cpos:Pos} {e o:Expr} {es:List Expr} {m:DS→M (List D)} {mo:DS→M D}
end
end
section
open Builtin Builtin.ObjectAttr
structure nH (K:Å) (C P:Addr) where
 cd:ClassData
 cls:R3 K C=À cd
 mro:cd.mro=[.ref C,.ref P,.type "ValueError",.type "Exception",.type "BaseException",.type "object"]
 ga:Ę K (.ref C) "__getattribute__"=À (À (.builtin "BaseException.__getattribute__"))
 gh:Ę K (.ref C) "__getattr__"=À Æ
 ca:Ę K (.ref C) "__class__"=À (À (.builtin "object.__class__"))
 cg:ŧ K (.builtin "object.__class__") "__get__"=À (À (.builtin "getset_descriptor.__get__"))
 ct:SI K (.builtin "object.__class__")=À Á
section
variable {prog:ó} {w:Đ} {A:Around} {E:Ã→Ç→Prop} {s:Ç} {K:Å} {C P e:Addr}
theorem wk {Q:Option Ã→Ç→Prop} {oc:Obj} (F:nH K C P) (X:K.In s.heap) (J:PySem.W.InstAt s.heap e oc C Æ) (h:Q (À (.ref C)) {s with toks:=s.toks+1}):Û (model prog w) A (getAttr? (.ref e) "__class__") Q E s:=by
 unfold getAttr? getAttrBy? getAttrBy;refine Ê (wpAny_mkText (Ê (wpAny_attempt (Ū (Ê (ĩ (s:={s with toks:=s.toks+1}) J.type (Ê (ĩ (s:={s with toks:=s.toks+1}) (RT X F.ga) ?_))))))));dsimp only;have hb:(onTheHeap (Value.ref C)&&Value.builtin "BaseException.__getattribute__"==Value.builtin "object.__getattribute__")=Â:=by rw [show (Value.builtin "BaseException.__getattribute__"==Value.builtin "object.__getattribute__")=Â by symm];rfl
 rw [if_neg (by rw [hb];decide)];unfold getAttrByItsOwn hookBefore;refine Ê ?_;rw [if_pos (show onTheHeap (Value.ref C)=Á from rfl)];refine ĩ (s:={s with toks:=s.toks+1}) (RT X F.gh) ?_;refine Ê (wpAny_attempt (Ū ?_));unfold callGetattribute;rw [if_neg (by decide)];unfold boundAndCalled;have FX:=PySem.F.excAttr_ValueError;have sub:R1 (model prog w) s.heap (isInstance (.ref e) (.type "BaseException")) Á:=J.type.andThen (PySem.W.looks_mroIn X (by unfold R0;rw [F.cls,Option.bind_some,F.mro];rfl));refine Ê (wpAny_of_eq (FX.ga.bind (.ref e)) (SW ?_));refine codeAny_call_builtin FX.ga.plain PySem.F.entry_bexc_ga (@PySem.W.check_slot (model prog w) _ _ {s with toks:=s.toks+1} "BaseException.__getattribute__" "BaseException" "__getattribute__" (.ref e) [.str "__class__" s.toks] [] _ (by symm) (by symm) sub (PySem.F.args_bexc_ga _ _) ?_);have L1:=PySem.W.looks_find (M:=model prog w) X J (name:="__class__") (r:=.bind (.builtin "getset_descriptor.__get__") (.builtin "object.__class__")) (by unfold PySem.W.findObj;rw [F.cls,Option.bind_some,F.ca,Option.bind_some];dsimp only;rw [F.cg,Option.bind_some];dsimp only;rw [F.ct,Option.bind_some]);refine Ê (Ø (Ê (Ø (Ê (ĩ (s:={s with toks:=s.toks+1}) J.type (Ê (ĩ (s:={s with toks:=s.toks+1}) L1 ?_)))))));show Û _ _ (holding [Value.builtin "object.__class__"] (call (.builtin "getset_descriptor.__get__") [.builtin "object.__class__",.ref e,.ref C]) >>= ret) _ _ _;refine Ê (Ū (SW (PySem.W.class_get (s:={s with toks:=s.toks+1}) X J (by unfold R0;rw [F.cls,Option.bind_some,F.mro];rfl) (Ø ?_))));exact Ø (Ø h)
theorem rB {oc:Obj} (F:nH K C P):PySem.W.KitX K (.ref e) (.ref C) (λh=>PySem.W.InstAt h e oc C Æ) where
 ty:=λ_ _ _ I=>I.type
 it:=λ_ _ X _=>by
  have z:=F.cls;unfold R3 at z;split at z
  ·rename_i ho;intro A' Q' E' s' k q;unfold isType loadHead;exact Ê (wpAny_loadPart (k _ _ (X _ _ ho)) (Ø q))
  ·cases z
 ne:=λh tp dd its n sl X htp=>by
  refine Bool.eq_false_iff.mpr λq=>?_;have e:C=tp:=Value.ref.inj (beq_iff_eq.mp q);subst e;have z:=F.cls;unfold R3 at z;split at z
  ·rename_i ho;have y:=(X _ _ ho).symm.trans htp;cases y
  ·cases z
 ca:=λX I k=>wk F X I k
end
section
variable {X:Cx} {EE:bz} {a:Expr} {ma:DS→M D} {pos p pt:Pos} {x:Str}
theorem yU {s:Ç} {as:List D} (I:Inv X pins σ H s) (r:Rep X.K X.mg ρ H (.lW c as) v) (ru:RelV v u) :
  ∃ e cv oc vs,u=.ref e∧X.mg c=À cv∧s.heap.get? e=À oc∧oc.cls=cv∧oc.data=.fields vs∧oc.dict=Æ:=by
 unfold Rep at r;obtain ⟨e,cv,rfl,hm,he⟩:=r;cases ru;obtain ⟨⟨oc,vs,h1,h2,h3,h4⟩,_⟩:=I.hok e _ he;exact ⟨e,cv,oc,vs,rfl,hm,h1,h2,h3,h4⟩
def gW (q:Str→Option Bool):D→M D
 | .lW c _=>match q c with
  | some b=>M.ret (.bl b)
  | none=>M.stop
 | _=>M.stop
theorem Fw (hm:X.mg "isinstance"=Æ) (hmt:X.mg x=À cv) (hc:∀ c b cw,q c=À b→X.mg c=À cw→∃ C P,cw=.ref C∧Nonempty (nH X.K C P)∧Ĕ X.K cw cv=À b) (hg:Gl X "isinstance") (hgt:Gl X x) (hdt:(x==("__debug__":Str))=Â) (ha:QE X EE a ma) (h:bQ a=Á:=by rfl) :
  QE X EE (.Call (.Name "isinstance" p) [a,.Name x pt] [] pos) (pP (gW q) ma):=by
 intro pins s σ H Q I h0;have h2:=fj (k:=λ_=>gW q) h0;refine ĉ (gw I hg hm Ė ?_ (by decide) (by decide));refine Ā ?_ (aU h _ _) (bU (es:=[.Name x pt]) rfl);rw [aU h,aU (e:=.Name x pt) rfl];refine ú (eE (ha pins s σ H _ I h2) λu s1 ⟨xv,H1,I1,r1,τ,ρ,G,d,ab,rd,ok'⟩=>ú (gM I1 hgt hmt (į ?_) hdt));unfold gW at ok';split at ok'
 case h_2=>exact ok'.elim
 rename_i c as;cases hq:q c with
 | none=>rw [hq] at ok';exact ok'.elim
 | some b=>
 rw [hq] at ok';obtain ⟨e,cw,oc,vs,rfl,LM,g1,g2,g3,g4⟩:=yU I1 rd r1;obtain ⟨C,P,rfl,⟨F⟩,hk⟩:=hc c b cw hq LM;have z:=ok' (.bl b) H1 ρ .refl ab (by unfold Rep;rfl);exact ic I1.os.2 <| ć (rB (oc:=oc) F) I1.nD ⟨g1,g2,by unfold PySem.W.notCls;rw [g3],by rw [g4];trivial⟩ hk (λz=>nomatch z) λtk ht=>⟨.bl b,H1,I1.tok tk,rfl,z⟩
theorem Fx (hm:X.mg "isinstance"=Æ) (hmt:X.mg x=Æ) (LN:bootBuiltins x=À (.type T)) (hc:∀ c b cw,q c=À b→X.mg c=À cw→∃ C P,cw=.ref C∧Nonempty (nH X.K C P)∧Ĕ X.K cw (.type T)=À b) (hg:Gl X "isinstance") (hgt:Gl X x) (hnt:x≠"__name__") (hdt:(x==("__debug__":Str))=Â) (ha:QE X EE a ma) (h:bQ a=Á:=by rfl) :
  QE X EE (.Call (.Name "isinstance" p) [a,.Name x pt] [] pos) (pP (gW q) ma):=by
 intro pins s σ H Q I h0;have h2:=fj (k:=λ_=>gW q) h0;refine ĉ (gw I hg hm Ė ?_ (by decide) (by decide));refine Ā ?_ (aU h _ _) (bU (es:=[.Name x pt]) rfl);rw [aU h,aU (e:=.Name x pt) rfl];refine ú (eE (ha pins s σ H _ I h2) λu s1 ⟨xv,H1,I1,r1,τ,ρ,G,d,ab,rd,ok'⟩=>ú (gw I1 hgt hmt LN (į ?_) hnt hdt));unfold gW at ok';split at ok'
 case h_2=>exact ok'.elim
 rename_i c as;cases hq:q c with
 | none=>rw [hq] at ok';exact ok'.elim
 | some b=>
 rw [hq] at ok';obtain ⟨e,cw,oc,vs,rfl,LM,g1,g2,g3,g4⟩:=yU I1 rd r1;obtain ⟨C,P,rfl,⟨F⟩,hk⟩:=hc c b cw hq LM;have z:=ok' (.bl b) H1 ρ .refl ab (by unfold Rep;rfl);exact ic I1.os.2 <| ć (rB (oc:=oc) F) I1.nD ⟨g1,g2,by unfold PySem.W.notCls;rw [g3],by rw [g4];trivial⟩ hk (λz=>nomatch z) λtk ht=>⟨.bl b,H1,I1.tok tk,rfl,z⟩
end
end
def Fy (CX:nX) (X:Cx) (n:Nat):List (Str×(List D→M D))→Prop
 | []=>True
 | q::r=>(∃ k f fd ps,j0 X.prog X.w X.K X.mg X.base CX k f fd ps (ir X.K X.mg n q.2)∧cZ k X.A∧X.mg q.1=À (.ref f)∧ö X.K (.ref f)=Á∧Binds X.K fd ps [])∧Fy CX X n r
theorem IG {CX:nX} {X:Cx} {n:Nat}:∀ {l:List (Str×(List D→M D))},Fy CX X n l→∀ (y:Str) (mf:List D→M D),l.lookup y=À mf→∃ k f fd ps,j0 X.prog X.w X.K X.mg X.base CX k f fd ps (ir X.K X.mg n mf)∧cZ k X.A∧X.mg y=À (.ref f)∧ö X.K (.ref f)=Á∧Binds X.K fd ps []
 | [],_,_,_,h=>nomatch h
 | q::r,⟨h1,hr⟩,y,mf,h=>by
  obtain ⟨qn,qm⟩:=q;rw [æ] at h;cases e:y==qn with
  | true=>rw [e] at h;cases h;have:=eq_of_beq e;subst this;exact h1
  | false=>rw [e] at h;exact IG hr y mf h
theorem LO {m:DS→M D} (ha:QE X EE e m) (h:bQ e=Á) (hr:QA X EE es r):QA X EE (e::es) (aa m r):=BB ha hr h
section
variable {X:Cx} {EE:bz} {a b c e o:Expr} {es:List Expr} {ma mb mo:DS→M D} {m:DS→M (List D)} {t:DS→M Bool} {ms:MS} {pos p p2 pos2 apos cpos:Pos}
def fuel:Nat:=100000
def mL (t:DS→M Bool) (ms:MS):Nat→MS
 | 0=>λ_ _=>.stuck
 | n+1=>λτ=>bP (t τ) (λc G=>if c=Á then (match ms τ G with
   | .nx τ' G'=>mL t ms n τ' G'
   | .ct τ' G'=>mL t ms n τ' G'
   | .bk τ' G'=>.nx τ' G'
   | r=>r) else .nx τ G) λc G=>.xn c τ G
def mO:List D→M D
 | [.int i]=>M.ret (.int i)
 | [.bl k]=>M.ret (.int (if k then 1 else 0))
 | _=>M.stop
theorem wm:cX X (.type "int") (Br X EE mO):=by
 intro pins s σ0 H xs us Q I r zu;obtain ⟨σ,τ,ρ,G,ds,ab,xx,ok⟩:=zu
 match ds,ok with
 | [],ok=>exact ok.elim
 | d::_::_,ok=>cases d<;>exact ok.elim
 | [d],ok=>
  obtain ⟨x,rfl,rx⟩:=je xx;cases d<;>try exact ok.elim
  ·rename_i k;unfold Rep at rx;subst rx;exact nW pins s σ0 H _ us Q I r (.inr ⟨k,rfl,ok _ H ρ .refl ab (by unfold Rep;rfl)⟩)
  ·rename_i i;unfold Rep at rx;subst rx;exact nW pins s σ0 H _ us Q I r (.inl ⟨i,rfl,ok _ H ρ .refl ab (by unfold Rep;rfl)⟩)
theorem boot_int:bootBuiltins "int"=À (.type "int"):=by symm
theorem Fz (hm:X.mg "int"=Æ) (hg:Gl X "int") (ha:QA X EE [e] m) (h:ay [e]=Á:=by rfl):QE X EE (.Call (.Name "int" p) [e] [] pos) (ai mO m):=j9 wm hm hg boot_int ha (by decide) (by decide) h
end
abbrev View:=DH→Nat→Option (Option D)
def BK (g:kF) (body:MS) (vw:View):Nat→Nat→MS
 | 0,_=>λ_ _=>.stuck
 | f+1,i=>λτ G=>match vw G i with
  | none=>.stuck
  | some Æ=>.nx τ G
  | some (À d)=>match g d τ with
   | none=>.stuck
   | some τ1=>match body τ1 G with
    | .nx τ2 G2=>BK g body vw f (i+1) τ2 G2
    | .ct τ2 G2=>BK g body vw f (i+1) τ2 G2
    | .bk τ2 G2=>.nx τ2 G2
    | r=>r
abbrev MI:=DS→M (Nat×View)
section
variable {X:Cx} {EE:bz} {tg iter a b:Expr} {g:kF} {mi:MI} {ms:MS} {pos p pc:Pos} {m:DS→M (List D)}
def CW (g:kF) (mi:MI) (body:MS):MS:=λτ=>bP (mi τ) (λx G=>BK g body x.2 x.1 0 τ G) λc G=>.xn c τ G
def yV (gO:D→Option (List D)) (ks:List Bool) (tt:DS→M Bool) (te:DS→M D) (n:Nat) (vw:View):Nat→Nat→DS→DH→Out D
 | 0,_,_,_=>.stuck
 | f+1,i,τ,G=>match vw G i with
  | none=>.stuck
  | some Æ=>.ok (.obj n) G
  | some (À d)=>match bS gO ks tt te n d τ G with
   | .ok _ G'=>yV gO ks tt te n vw f (i+1) τ G'
   | .bw c G'=>.bw c G'
   | .stuck=>.stuck
variable {gO:D→Option (List D)} {ow:V→Hp→List V→Prop} {xs:List Str} {ks:List Bool} {tt:DS→M Bool} {te:DS→M D}
def FA (gO:D→Option (List D)) (ks:List Bool) (mi:MI) (tt:DS→M Bool) (te:DS→M D):DS→M D:=λτ=>(mi τ).bind λx G=>yV gO ks tt te G.length x.2 x.1 0 τ (G++[.lst []])
variable {scope:Scope} {elt:Expr} {ifs:List Expr}
def uU (d:D):View:=λG i=>match aG G d with
 | some (.lst xs)=>À (xs[i]?.map λx=>.tup [.int i,x])
 | _=>Æ
def II (m:DS→M (List D)):MI:=λτ=>(m τ).bind λds=>match ds with
 | [d]=>λG=>match aG G d with
  | some (.lst xs)=>.ok (xs.length+1,uU d) G
  | _=>.stuck
 | _=>M.stop
end
theorem lz (h:n≤2000000):n≤Ä:=by rw [sizeLine_eq];nofun
theorem CY (A:DH) (x:DO) (B:DH):(A++x::B)[A.length]?=À x:=by simp
theorem M5 (A:DH) (x y:DO) (B:DH):(A++x::y::B)[A.length+1]?=À y:=by rw [Ú (by nofun)];simp
theorem GO (A:DH) (x y:DO) (B:DH):(A++x::B).set A.length y=A++y::B:=by rw [ŋ _ _ (Ó _)];simp
theorem OC (A:DH) (x y z:DO) (B:DH):(A++x::y::B).set (A.length+1) z=A++x::z::B:=by rw [ŋ _ _ (by nofun)];simp
theorem kc {E:DH} {o:DO} (h:G[n]?=À o):(G++E)[n]?=À o:=by rw [Ñ (É.mp h).1];exact h
theorem ak (g:Bool) (i j:Int) (G:DH):eF g (.int i) (.int j) G=.ok (.bl (g ^^ (i==j))) G:=by simp [eF,qU,dg,ä,î,õ]
theorem cU (g:Bool) (a b:Str) (G:DH) (ha:Þ a=Á) (hb:Þ b=Á):eF g (.str a) (.str b) G=.ok (.bl (g ^^ (a==b))) G:=by simp [eF,qU,dg,ä,î,õ,ha,hb]
theorem iG (G:DH):∀ ws:List Str,aQ (dg G deep) (ws.map D.str)=À (ws.map ċ)
 | []=>rfl
 | w::ws=>by have ih:=iG G ws;simp only [Í,aQ,ih];rfl
theorem rC (t:Str) (ws:List Str) (G:DH) (h:Þ t=Á) (hw:á (ws.map ċ)=Á):tG (.str t) (ws.map D.str) G=À (ws.any (·==t)):=by
 have e1:dg G deep (.str t)=À (.str t):=rfl;unfold tG;rw [e1,iG];dsimp only;have c1:(ċ t).canLay0=Á:=by simpa [ä] using h
 have c3:min (ë (ws.map ċ)) (ċ t).depth≤580:=by
  have:(ċ t).depth≤580:=by simp [î]
  nofun
 rw [if_pos (by rw [c1,hw];simpa using c3)];simp only [List.any_map];congr 1
theorem BL (a b:Str):(a++b).length=a.length+b.length:=by show (a.cps++b.cps).size=a.cps.size+b.cps.size;simp
theorem jH {α:Type} {xs:List α} {i:Int} (h0:0≤i) (h1:i<xs.length):∃ v,cS xs i=À v∧xs[i.toNat]?=À v:=by
 have hi:i.toNat<xs.length:=by nofun
 refine ⟨xs[i.toNat],?_,Ð hi⟩;have:=fC (xs:=xs) (j:=i.toNat) (v:=xs[i.toNat]) (Ð hi)
 rwa [show ((i.toNat:Nat):Int)=i by nofun] at this
theorem gm (h0:0≤j) (h1:j<100000):fk [.int j]=À ((í 0 j.toNat).map λ(k:Nat)=>.int (0+(k:Int))):=by show (if -(2^62)≤j∧j<2^62 then À ((ĥ j.toNat).map λ(k:Nat)=>D.int (0+(k:Int))) else Æ)=_;rw [if_pos ⟨by nofun,by nofun⟩,List.range_eq_range']
def Res.sq (r:Res) (k:MS):Res:=match r with
 | .nx τ G=>k τ G
 | r=>r
def Out.cs (r:Out Bool) (a b:MS) (τ:DS):Res:=match r with
 | .stuck=>.stuck
 | .ok c G=>if c=Á then a τ G else b τ G
 | .bw c G=>.xn c τ G
def Out.st (r:Out D) (i:Nat) (τ:DS):Res:=match r with
 | .stuck=>.stuck
 | .ok d G=>.nx (τ.set i (À d)) G
 | .bw c G=>.xn c τ G
def Out.xp (r:Out D) (τ:DS):Res:=match r with
 | .stuck=>.stuck
 | .ok d G=>.nx τ G
 | .bw c G=>.xn c τ G
def Out.rn (r:Out D) (τ:DS):Res:=match r with
 | .stuck=>.stuck
 | .ok d G=>.rt d G
 | .bw c G=>.xn c τ G
def Out.bd {α β:Type} (r:Out α) (k:α→M β):Out β:=match r with
 | .stuck=>.stuck
 | .ok a G=>k a G
 | .bw c G=>.bw c G
def Out.sb {α:Type} (r:Out α) (τ:DS) (k:α→DH→Res):Res:=match r with
 | .stuck=>.stuck
 | .ok a G=>k a G
 | .bw c G=>.xn c τ G
def Res.fn (r:Res):Out D:=match r with
 | .stuck=>.stuck
 | .nx _ G'=>.ok .dR G'
 | .rt d G'=>.ok d G'
 | .bk _ _=>.stuck
 | .ct _ _=>.stuck
 | .xn c _ G'=>.bw c G'
def Res.lp (r:Res) (k:MS):Res:=match r with
 | .nx τ G=>k τ G
 | .ct τ G=>k τ G
 | .bk τ G=>.nx τ G
 | r=>r
def LP (m k:MS):MS:=λτ G=>(m τ G).lp k
section
variable {m k:MS} {t ta tb:DS→M Bool} {a b:MS} {τ:DS} {G:DH} {e ma mb mo:DS→M D} {i n:Nat} {d:D} {c:XD} {α β:Type} {ml:DS→M (List D)} {f:D→D→M D} {fl:List D→M D}
@[simp] theorem gX:aC m k τ G=(m τ G).sq k:=by unfold aC Res.sq;cases m τ G<;>rfl
@[simp] theorem jI:(Res.nx τ G).sq k=k τ G:=È rfl rfl
@[simp] theorem CZ:(Res.rt d G).sq k=.rt d G:=È rfl rfl
@[simp] theorem M6:Res.stuck.sq k=.stuck:=È rfl rfl
@[simp] theorem M7:(Res.bk τ G).sq k=.bk τ G:=È rfl rfl
@[simp] theorem M8:(Res.ct τ G).sq k=.ct τ G:=È rfl rfl
@[simp] theorem M9:(Res.xn c τ G).sq k=.xn c τ G:=È rfl rfl
@[simp] theorem oG:fJ t a b τ G=(t τ G).cs a b τ:=by unfold fJ bP Out.cs;cases t τ G<;>rfl
@[simp] theorem yW:(Out.ok Á G).cs a b τ=a τ G:=È rfl rfl
@[simp] theorem yX:(Out.ok Â G).cs a b τ=b τ G:=È rfl rfl
@[simp] theorem OD:(Out.bw c G).cs a b τ=.xn c τ G:=È rfl rfl
@[simp] theorem kg:aY i e τ G=(e τ G).st i τ:=by unfold aY bP Out.st;cases e τ G<;>rfl
@[simp] theorem oH:(Out.ok d G).st i τ=.nx (τ.set i (À d)) G:=È rfl rfl
@[simp] theorem OE:(Out.bw c G).st i τ=.xn c τ G:=È rfl rfl
@[simp] theorem Ke:iD e τ G=(e τ G).xp τ:=by unfold iD bP Out.xp;cases e τ G<;>rfl
@[simp] theorem Nb:(Out.ok d G).xp τ=.nx τ G:=È rfl rfl
@[simp] theorem OF:(Out.bw c G).xp τ=.xn c τ G:=È rfl rfl
@[simp] theorem yY:bg e τ G=(e τ G).rn τ:=by unfold bg bP Out.rn;cases e τ G<;>rfl
@[simp] theorem Dc:(Out.ok d G).rn τ=.rt d G:=È rfl rfl
@[simp] theorem OG:(Out.bw c G).rn τ=.xn c τ G:=È rfl rfl
@[simp] theorem pQ:aL τ G=.nx τ G:=È rfl rfl
@[simp] theorem Kf:HW τ G=.rt .dR G:=È rfl rfl
@[simp] theorem jg {x:α} {q:α→M β}:(Out.ok x G).bd q=q x G:=È rfl rfl
@[simp] theorem OH {q:α→M β}:(Out.bw c G).bd q=.bw c G:=È rfl rfl
@[simp] theorem OI {q:α→M β}:(Out.stuck (α:=α)).bd q=.stuck:=È rfl rfl
@[simp] theorem ao {mm:M α} {q:α→M β}:M.bind mm q G=(mm G).bd q:=by unfold M.bind Out.bd;cases mm G<;>rfl
@[simp] theorem uV {x:α}:M.ret x G=.ok x G:=È rfl rfl
@[simp] theorem LQ:(M.stop (α:=α)) G=.stuck:=È rfl rfl
@[simp] theorem fS:af i τ G=match τ[i]? with
 | some (À d)=>.ok d G
 | _=>.stuck:=È rfl rfl
@[simp] theorem pR:eC d τ G=.ok d G:=È rfl rfl
@[simp] theorem jJ:aj f ma mb τ G=(ma τ G).bd λx=>(mb τ).bind λy=>f x y:=ao
@[simp] theorem uW:ai fl ml τ G=(ml τ G).bd fl:=ao
@[simp] theorem tW:ah τ G=.ok [] G:=È rfl rfl
@[simp] theorem uX:aa ma ml τ G=(ma τ G).bd λx=>(ml τ).bind λxs=>M.ret (x::xs):=ao
def IJ:D→M Bool
 | .bl b=>M.ret b
 | _=>M.stop
@[simp] theorem rE:dh e τ G=(e τ G).bd IJ:=by unfold dh;rw [ao];unfold Out.bd;cases e τ G<;>try rfl
@[simp] theorem mP {b:Bool}:IJ (.bl b) G=.ok b G:=È rfl rfl
@[simp] theorem yZ {q:D→M Bool}:cO q e τ G=(e τ G).bd q:=ao
@[simp] theorem Kg:uJ t τ G=(t τ G).bd λc=>M.ret (!c):=ao
@[simp] theorem FD:j4 ta tb τ G=(ta τ G).bd λc=>if c=Á then M.ret Á else tb τ:=ao
@[simp] theorem pS:gj ta tb τ G=(ta τ G).bd λc=>if c=Á then tb τ else M.ret Â:=ao
@[simp] theorem LR {y:Ty}:vN y e τ G=(e τ G).bd (nF y):=ao
@[simp] theorem Kh {mf:List D→M D}:aA n mf ml τ G=(ml τ G).bd λds=>if ds.length=n then mf ds else M.stop:=ao
@[simp] theorem y9 {T:String} {g:D→List D→M D}:cP T g mo ml τ G=(mo τ G).bd λd G=>if fQ T G d=Á then (ml τ G).bd (g d) else .stuck:=by
 unfold cP;rw [ao];unfold Out.bd;cases mo τ G with
 | stuck=>rfl
 | bw c G=>rfl
 | ok d G'=>simp only [ao];rfl
@[simp] theorem Nc:NW t ma mb τ G=(t τ G).bd λc=>if c=Á then ma τ else mb τ:=ao
@[simp] theorem oJ {uA:List D→Option (List D)} {g:kF} {body:MS}:eY uA g ml body τ G=(ml τ G).sb τ λds G=>match uA ds with
  | some xs=>bZ g body xs τ G
  | none=>.stuck:=by
 unfold eY bP Out.sb;cases ml τ G<;>rfl
@[simp] theorem IK {g:kF} {body:MS}:j5 g e body τ G=(e τ G).sb τ λd G=>match d with
  | .obj n=>match G[n]? with
   | some (.lst xs)=>pJ g body n (xs.length+1) 0 τ G
   | _=>.stuck
  | .tup xs=>bZ g body xs τ G
  | .con xs=>bZ g body xs τ G
  | .str z=>bZ g body (z.cps.toList.map λc=>.str ⟨#[c]⟩) τ G
  | _=>.stuck:=by
 unfold j5 bP Out.sb;cases e τ G<;>rfl
@[simp] theorem Kl {g:kF} {mi:MI} {body:MS}:CW g mi body τ G=(mi τ G).sb τ λx G=>BK g body x.2 x.1 0 τ G:=by unfold CW bP Out.sb;cases mi τ G<;>rfl
@[simp] theorem De {x:α} {q:α→DH→Res}:(Out.ok x G).sb τ q=q x G:=È rfl rfl
@[simp] theorem OJ {q:α→DH→Res}:(Out.bw c G).sb τ q=.xn c τ G:=È rfl rfl
@[simp] theorem Km {gO:D→Option (List D)} {ks:List Bool} {tt:DS→M Bool} {te:DS→M D}:kI gO ks e tt te τ G=(e τ G).bd λd G=>match d with
  | .obj k=>match G[k]? with
   | some (.lst xs)=>kH gO ks tt te G.length k (xs.length+1) 0 τ (G++[.lst []])
   | _=>.stuck
  | .tup xs=>bE gO ks tt te G.length xs τ (G++[.lst []])
  | .con xs=>bE gO ks tt te G.length xs τ (G++[.lst []])
  | .str z=>bE gO ks tt te G.length (z.cps.toList.map λc=>.str ⟨#[c]⟩) τ (G++[.lst []])
  | _=>.stuck:=ao
@[simp] theorem IL {uA:List D→Option (List D)} {gO:D→Option (List D)} {ks:List Bool} {tt:DS→M Bool} {te:DS→M D}:gx uA gO ks ml tt te τ G=(ml τ G).bd λds G=>match uA ds with
  | some xs=>bE gO ks tt te G.length xs τ (G++[.lst []])
  | none=>.stuck:=ao
@[simp] theorem IM {gO:D→Option (List D)} {ks:List Bool} {mi:MI} {tt:DS→M Bool} {te:DS→M D}:FA gO ks mi tt te τ G=(mi τ G).bd λx G=>yV gO ks tt te G.length x.2 x.1 0 τ (G++[.lst []]):=ao
@[simp] theorem za {ds:List D}:cD n m ds G=(m (ds.map À++Ì (n - ds.length) Æ) G).fn:=by unfold cD Res.fn;cases m (ds.map À++Ì (n - ds.length) Æ) G<;>rfl
@[simp] theorem Nd:(Res.nx τ G).fn=.ok .dR G:=È rfl rfl
@[simp] theorem Df:(Res.rt d G).fn=.ok d G:=È rfl rfl
@[simp] theorem OL:(Res.xn c τ G).fn=.bw c G:=È rfl rfl
@[simp] theorem Nf {lo hi:DS→M (Option Int)}:qK e lo hi τ G=(e τ G).bd λd=>(lo τ).bind λl=>(hi τ).bind λh=>jW d l h:=ao
@[simp] theorem Kn:e7 τ G=.ok Æ G:=È rfl rfl
def Dg:D→M (Option Int)
 | .int i=>M.ret (À i)
 | _=>M.stop
@[simp] theorem Ko:dU e τ G=(e τ G).bd Dg:=by unfold dU;rw [ao];unfold Out.bd;cases e τ G<;>try rfl
@[simp] theorem Kp {i:Int}:Dg (.int i) G=.ok (À i) G:=È rfl rfl
def IP:D→M D
 | .int i=>M.ret (.int (-i))
 | _=>M.stop
@[simp] theorem FE:tL e τ G=(e τ G).bd IP:=by unfold tL;rw [ao];unfold Out.bd;cases e τ G<;>try rfl
@[simp] theorem FF {i:Int}:IP (.int i) G=.ok (.int (-i)) G:=È rfl rfl
@[simp] theorem Kq:II ml τ G=(ml τ G).bd λds=>match ds with
 | [d]=>λG=>match aG G d with
  | some (.lst xs)=>.ok (xs.length+1,uU d) G
  | _=>.stuck
 | _=>M.stop:=ao
@[simp] theorem IQ {iy:Str→Option (List D→M D)}:mH i n iy ml τ G=match τ[i]? with
 | some (À (.fn y))=>match iy y with
  | some mf=>aA n mf ml τ G
  | none=>.stuck
 | _=>.stuck:=È rfl rfl
@[simp] theorem Ng:LP m k τ G=(m τ G).lp k:=È rfl rfl
@[simp] theorem kJ:(Res.nx τ G).lp k=k τ G:=È rfl rfl
@[simp] theorem Nh:(Res.ct τ G).lp k=k τ G:=È rfl rfl
@[simp] theorem Ni:(Res.bk τ G).lp k=.nx τ G:=È rfl rfl
@[simp] theorem Nj:(Res.rt d G).lp k=.rt d G:=È rfl rfl
@[simp] theorem IS:(Res.xn c τ G).lp k=.xn c τ G:=È rfl rfl
@[simp] theorem IT:mL t m (n+1) τ G=(t τ G).cs (LP m (mL t m n)) aL τ:=by
 rw [mL];unfold bP Out.cs;dsimp only;cases t τ G with
 | stuck=>rfl
 | bw c G=>rfl
 | ok b G'=>
  cases b with
  | false=>rfl
  | true=>simp only [if_true];unfold LP Res.lp;cases m τ G'<;>rfl
theorem cV {g:kF} {body:MS} {x:D} {r:List D} {τ1:DS} (h:g x τ=À τ1):bZ g body (x::r) τ G=(body τ1 G).lp (bZ g body r):=by rw [bZ,h];dsimp only;unfold Res.lp;cases body τ1 G<;>rfl
end
def bT (l:List Nat):Str:=⟨l.toArray⟩
theorem fT (l:List Nat):(bT l).cps.toList=l:=by simp [bT]
theorem oK (s:Str):bT s.cps.toList=s:=by cases s;simp [bT]
theorem pT {a b:Str} (h:a.cps.toList=b.cps.toList):a=b:=by rw [← oK a,← oK b,h]
def aJ (c:Nat):List Nat→List (List Nat)
 | []=>[[]]
 | x::xs=>if x=c then []::aJ c xs else match aJ c xs with
  | p::ps=>(x::p)::ps
  | []=>[[x]]
def fU (s:List Nat):List (List Nat)→List Nat
 | []=>[]
 | [p]=>p
 | p::q::ps=>p++s++fU s (q::ps)
def rp (c:Nat) (s:List Nat) (l:List Nat):List Nat:=l.flatMap λx=>if x=c then s else [x]
theorem kh (c:Nat):∀ l,aJ c l≠[]
 | []=>by simp [aJ]
 | x::xs=>by
  unfold aJ;split
  ·simp
  ·split<;>simp
theorem iH (c:Nat):∀ l,c∉l→aJ c l=[l]
 | [],_=>rfl
 | x::xs,h=>by have h1:¬ x=c:=λe=>h (by simp [e]);rw [aJ,if_neg h1,iH c xs λz=>h (by simp [z])]
theorem dN (c:Nat):∀ p l,aJ c (p++c::l)=aJ c p++aJ c l
 | [],l=>by simp [aJ]
 | x::xs,l=>by
  rw [Ē,aJ,aJ,dN c xs l];by_cases h:x=c
  ·rw [if_pos h,if_pos h];rfl
  ·rw [if_neg h,if_neg h];cases e:aJ c xs with
   | nil=>exact absurd e (kh c xs)
   | cons q qs=>rfl
theorem jK (c:Nat):∀ ps:List (List Nat),ps≠[]→aJ c (fU [c] ps)=ps.flatMap (aJ c)
 | [],h=>absurd rfl h
 | [p],_=>by simp [fU]
 | p::q::ps,_=>by rw [fU,Ü,List.singleton_append,dN,jK c (q::ps) (by simp)];simp
theorem mQ (c:Nat) (ps:List (List Nat)) (hn:ps≠[]) (h:∀ p∈ps,c∉p):aJ c (fU [c] ps)=ps:=by
 rw [jK c ps hn];clear hn
 induction ps with
 | nil=>rfl
 | cons p ps ih=>rw [Sq,iH c p (h p (by simp)),ih λq hq=>h q (by simp [hq])];rfl
theorem jL (c:Nat) (s:List Nat):∀ l,fU s (aJ c l)=rp c s l
 | []=>rfl
 | x::xs=>by
  have ih:=jL c s xs;unfold aJ rp;rw [Sq];by_cases h:x=c
  ·rw [if_pos h,if_pos h];cases e:aJ c xs with
   | nil=>exact absurd e (kh c xs)
   | cons q qs=>rw [e] at ih;rw [fU,ih];rfl
  ·rw [if_neg h,if_neg h];cases e:aJ c xs with
   | nil=>exact absurd e (kh c xs)
   | cons q qs=>
    rw [e] at ih;cases qs with
    | nil=>rw [fU] at ih ⊢;rw [ih];rfl
    | cons r rs=>rw [fU] at ih ⊢;rw [Ē,Ē,ih];rfl
theorem zc (y:Str):∀ ps:List Str,(y.join ps).cps.toList=fU y.cps.toList (ps.map λp=>p.cps.toList)
 | []=>by rw [← RI];simp [Ss,fU,SX]
 | p::ps=>by
  rw [← RI];have key:∀ (ps:List Str) (a:Array Nat),(R8 (λacc (p:Str)=>acc++y.cps++p.cps) a ps).toList=fU y.cps.toList (a.toList::ps.map λp=>p.cps.toList):=by
   intro ps
   induction ps with
   | nil=>intro a;simp [fU]
   | cons q qs ih=>
    intro a;rw [SJ,ih];cases qs with
    | nil=>simp [fU]
    | cons r rs=>simp [fU]
  simpa [Ss] using key ps p.cps
theorem zd (x:Str) (c:Nat):Ĭ x ⟨#[c]⟩≠[]:=by
 unfold Ĭ;split
 ·simp
 ·split
  ·simp
  ·rw [StrLaws.partsBetween_eq];obtain ⟨p,r,e⟩:=StrLaws.partsFrom_ne x (Str.mk #[c]).length 0 (à x ⟨#[c]⟩ 0 x.length (x.length+1));rw [e];simp
theorem uY (x:Str) (c:Nat):(Ĭ x ⟨#[c]⟩).map (λp=>p.cps.toList)=aJ c x.cps.toList:=by have h1:=congrArg (λs:Str=>s.cps.toList) (StrLaws.join_split x ⟨#[c]⟩);rw [zc] at h1;rw [← h1];refine (mQ c _ (by simp [zd]) λp hp=>?_).symm;obtain ⟨q,hq,rfl⟩:=ĵ.mp hp;exact StrLaws.split_free x c q hq
theorem ze (x:Str) (c:Nat):Ĭ x ⟨#[c]⟩=(aJ c x.cps.toList).map bT:=by
 rw [← uY,ň]
 conv=>lhs;rw [← List.map_id (Ĭ x ⟨#[c]⟩)]
 exact RY λp _=>(oK p).symm
theorem ki (x z:Str) (c:Nat):(Ö x ⟨#[c]⟩ z).cps.toList=rp c z.cps.toList x.cps.toList:=by rw [StrLaws.replace_one,zc,uY,jL]
def LS (t:Str):List Nat:=rp 41 [32,41,32] (rp 40 [32,40,32] t.cps.toList)
section
variable {m k mb me:MS} {τ:DS} {G:DH} {e:DS→M D} {c:XD} {x:Str} {ml:DS→M (List D)} {d:D}
@[simp] theorem IU:cy x ml τ G=(ml τ G).sb τ λds G=>if ds.length≤Ä then .xn (.mk x ds) τ G else .stuck:=by unfold cy bP Out.sb;cases ml τ G<;>rfl
@[simp] theorem Nk {f:D→M D}:pP f e τ G=(e τ G).bd f:=ao
def FG (c:Str):D→M D
 | .str y=>if (c++y).length≤Ä∧y.length≤Ä then M.ret (.str (c++y)) else M.stop
 | _=>M.stop
theorem zf {c:Str} (h:c.length≤Ä):yT c e τ G=(e τ G).bd (FG c):=by unfold yT;rw [if_pos h,ao];unfold Out.bd;cases e τ G<;>try rfl
def Res.tr (r:Res) (mh:XD→MS) (me:MS):Res:=match r with
 | .nx τ' G'=>me τ' G'
 | .xn c τ' G'=>mh c τ' G'
 | r=>r
theorem zg:rj mb mh me τ G=(mb τ G).tr mh me:=by unfold rj Res.tr;cases mb τ G<;>rfl
theorem IV:(Res.nx τ G).tr mh me=me τ G:=È rfl rfl
theorem IW:(Res.xn c τ G).tr mh me=mh c τ G:=È rfl rfl
end
mutual
def D.closed:D→Bool
 | .tup ds=>aM ds
 | .con ds=>aM ds
 | .obj _=>Â
 | .lW _ _=>Â
 | .sM _ _=>Â
 | _=>Á
def aM:List D→Bool
 | []=>Á
 | d::r=>d.closed&&aM r
end
def kP (a b:DH):Bool:=@decide (a=b) (Ł _)
theorem iW (a:DH):kP a a=Á:=@decide_eq_true _ (Ł _) rfl
theorem jM (a b:DH) (h:kP a b=Á):a=b:=@of_decide_eq_true _ (Ł _) h
section
variable {K:Å} {mg:Str→Option Ã} {H H':Hp} {ρ ρ':List Addr} {G G':DH}
mutual
theorem jm:∀ (d:D) (v:V),d.closed=Á→Rep K mg ρ H d v→Rep K mg ρ' H d v
 | .dR,v,c,h=>by unfold Rep at h ⊢;exact h
 | .bl b,v,c,h=>by unfold Rep at h ⊢;exact h
 | .int i,v,c,h=>by unfold Rep at h ⊢;exact h
 | .str x,v,c,h=>by unfold Rep at h ⊢;exact h
 | .tup ds,v,c,h=>by unfold Rep at h ⊢;obtain ⟨a,xs,e,s,r⟩:=h;exact ⟨a,xs,e,s,e8 ds xs (by simpa [D.closed] using c) r⟩
 | .con ds,v,c,h=>by unfold Rep at h ⊢;obtain ⟨a,xs,e,s,r⟩:=h;exact ⟨a,xs,e,s,e8 ds xs (by simpa [D.closed] using c) r⟩
 | .obj n,v,c,h=>by simp [D.closed] at c
 | .fn x,v,c,h=>by unfold Rep at h ⊢;exact h
 | .lW _ _,v,c,h=>by simp [D.closed] at c
 | .sM _ _,v,c,h=>by simp [D.closed] at c
theorem e8:∀ (ds:List D) (vs:List V),aM ds=Á→aq K mg ρ H ds vs→aq K mg ρ' H ds vs
 | [],vs,c,h=>by unfold aq at h ⊢;exact h
 | d::ds,vs,c,h=>by
  have c':d.closed=Á∧aM ds=Á:=by simpa [aM] using c
  unfold aq at h ⊢;obtain ⟨v,r,e,h1,h2⟩:=h;exact ⟨v,r,e,jm d v c'.1 h1,e8 ds r c'.2 h2⟩
end
mutual
theorem Rep.back (p:∃ r,ρ'=ρ++r):∀ (d:D) (v0 v:V),Rep K mg ρ H d v0→Rep K mg ρ' H' d v→Rep K mg ρ H' d v
 | .dR,v0,v,h0,h=>by unfold Rep at h ⊢;exact h
 | .bl b,v0,v,h0,h=>by unfold Rep at h ⊢;exact h
 | .int i,v0,v,h0,h=>by unfold Rep at h ⊢;exact h
 | .str x,v0,v,h0,h=>by unfold Rep at h ⊢;exact h
 | .tup ds,v0,v,h0,h=>by unfold Rep at h0 h ⊢;obtain ⟨a,xs,e,s,r⟩:=h;obtain ⟨a0,tX,e0,s0,r0⟩:=h0;exact ⟨a,xs,e,s,aq.back p ds tX xs r0 r⟩
 | .con ds,v0,v,h0,h=>by unfold Rep at h0 h ⊢;obtain ⟨a,xs,e,s,r⟩:=h;obtain ⟨a0,tX,e0,s0,r0⟩:=h0;exact ⟨a,xs,e,s,aq.back p ds tX xs r0 r⟩
 | .obj n,v0,v,h0,h=>by unfold Rep at h0 h ⊢;obtain ⟨a,e,q⟩:=h;obtain ⟨a0,e0,q0⟩:=h0;obtain ⟨r,rfl⟩:=p;rw [Ñ (É.mp q0).1] at q;exact ⟨a,e,q⟩
 | .fn x,v0,v,h0,h=>by unfold Rep at h ⊢;exact h
 | .lW c as,v0,v,h0,h=>by unfold Rep at h ⊢;exact h
 | .sM y ds,v0,v,h0,h=>by unfold Rep at h0 h ⊢;obtain ⟨k,a,cs,xs,e,q0,q1,q2,r⟩:=h;obtain ⟨_,_,_,tX,_,_,_,_,r0⟩:=h0;exact ⟨k,a,cs,xs,e,q0,q1,q2,aq.back p ds tX xs r0 r⟩
theorem aq.back (p:∃ r,ρ'=ρ++r):∀ (ds:List D) (LU vs:List V),aq K mg ρ H ds LU→aq K mg ρ' H' ds vs→aq K mg ρ H' ds vs
 | [],LU,vs,h0,h=>by unfold aq at h ⊢;exact h
 | d::ds,LU,vs,h0,h=>by unfold aq at h0 h ⊢;obtain ⟨v,r,e,h1,h2⟩:=h;obtain ⟨v0,r0,e0,Fc,OM⟩:=h0;exact ⟨v,r,e,Rep.back p d v0 v Fc h1,aq.back p ds r0 r OM h2⟩
end
theorem fO.cut (h:fO K mg H ρ G) (p:∃ r,ρ'=ρ++r) (h':fO K mg H' ρ' G') (e:G'.take G.length=G):fO K mg H' ρ G:=by
 refine ⟨h.hl,h.nd,λn o q=>?_⟩;have hn:n<G.length:=(É.mp q).1;have q':G'[n]?=À o:=by rw [← e,List.getElem?_take] at q;rw [if_pos hn] at q;exact q
 obtain ⟨a0,e0,r0⟩:=h.ob n o q;obtain ⟨a,e1,r1⟩:=h'.ob n o q';have ea:a=a0:=by obtain ⟨r,rfl⟩:=p;rw [Ñ (by rw [h.hl];exact hn),e0] at e1;exact (ą e1).symm
 subst ea;refine ⟨a,e0,?_⟩;cases o with
 | dct kv=>obtain ⟨xs,e2,rs⟩:=r1;obtain ⟨tX,_,BN⟩:=r0;exact ⟨xs,e2,aq.back p _ tX xs BN rs⟩
 | GI f kv=>obtain ⟨xs,e2,rs⟩:=r1;obtain ⟨tX,_,BN⟩:=r0;exact ⟨xs,e2,aq.back p _ tX xs BN rs⟩
 | J5 kv=>obtain ⟨xs,e2,rs⟩:=r1;obtain ⟨tX,_,BN⟩:=r0;exact ⟨xs,e2,aq.back p _ tX xs BN rs⟩
 | ins c fs=>obtain ⟨C,dx,xs,m,e2,rs⟩:=r1;obtain ⟨_,_,tX,_,_,BN⟩:=r0;exact ⟨C,dx,xs,m,e2,aq.back p _ tX xs BN rs⟩
 | lst ds=>obtain ⟨xs,e2,rs⟩:=r1;obtain ⟨tX,_,BN⟩:=r0;exact ⟨xs,e2,aq.back p ds tX xs BN rs⟩
 | _=>exact r1
theorem lD {o:Obj} (e:H a=À (.lst xs)) (ρ:List Addr):cK K H (upd H a (.di o (.lst xs))) ρ ρ:=by
 refine ⟨λb zs h=>?_,λb q u h=>by rw [aD (iz h e (by intro z;cases z))];exact h,⟨[],by simp⟩,λb φ h=>by rw [aD (iz h e (by intro z;cases z))];exact h⟩
 ·rw [tE] at h ⊢;rw [aD (iz h e (by intro z;cases z))];exact h
theorem fO.di {o:Obj} (h:fO K mg H ρ G) (hn:ρ[n]?=À a) (e:H a=À (.lst xs)):fO K mg (upd H a (.di o (.lst xs))) ρ (G.set n .dead):=by
 have f:cK K H (upd H a (.di o (.lst xs))) ρ ρ:=lD e ρ;refine ⟨by simp [h.hl],h.nd,λm ob q=>?_⟩;by_cases hm:n=m
 ·subst hm;rw [ù,if_pos rfl] at q;split at q
  ·cases q;exact ⟨a,hn,_,cB⟩
  ·cases q
 ·rw [ß hm] at q;obtain ⟨b,e1,r'⟩:=h.ob m ob q;have hb:b≠a:=by rintro rfl;obtain ⟨h1,AD⟩:=É.mp hn;obtain ⟨h2,AE⟩:=É.mp e1;exact hm ((Ō h.nd).mp (AD.trans AE.symm))
  exact ⟨b,e1,r'.mono f λu q=>by rw [aD hb];exact q⟩
end
section
variable {X:Cx} {EE:bz}
theorem uZ {s:Ç} (I:Inv X pins σ H s) (e:H a=À (.lst xs)):∃ o,Inv X pins σ (upd H a (.di o (.lst xs))) s:=by
 obtain ⟨z,its,n,r,hg⟩:=I.hok a _ e;refine ⟨_,I.un (H':=upd H a (.di {cls:=.type "list",data:=.seq its.toArray n} (.lst xs))) (h':=s.heap) (t':=s.toks) ⟨λb o q _ _ _=>q,λb o q _ _ _=>⟨o.slots,q⟩,λb o q hn _=>?_,λb o q _=>⟨o,q⟩,λb ys q=>?_,λb o u q=>?_,λb ps q=>⟨#[],?_⟩⟩ λb u q=>?_⟩
 ·rw [aD (by rintro rfl;rw [e] at hn;cases hn)];exact hn
 ·rw [aD (iz q e (by intro z;cases z))];exact q
 ·rw [aD (iz q e (by intro z;cases z))];exact q
 ·rw [aD (iz q e (by intro z;cases z)),q];simp
 ·have ho:∀ c y,H c=À (.own y)→upd H a (.di {cls:=.type "list",data:=.seq its.toArray n} (.lst xs)) c=À (.own y):=λc y w=>by rw [aD (iz w e (by intro z;cases z))];exact w
  have ht:∀ c ys,H c=À (.tup ys)→upd H a (.di {cls:=.type "list",data:=.seq its.toArray n} (.lst xs)) c=À (.tup ys):=λc ys w=>by rw [aD (iz w e (by intro z;cases z))];exact w
  by_cases hb:b=a
  ·subst hb;rw [cB] at q;cases q;exact ⟨hg,(I.hok b _ e).stay (λ_ _ _ w=>w) (λc w=>ho c b w) ht⟩
  ·rw [aD hb] at q;exact (I.hok b u q).stay (λ_ _ _ w=>w) (λc w=>ho c b w) ht
def zh (m:DS→M D):DS→M D:=λτ G=>match m τ G with
 | .ok (.obj n) G'=>match G'[n]? with
  | some (.lst ds)=>.ok (.con ds) (G'.set n .dead)
  | _=>.stuck
 | r=>r
def eFn (m:DS→M D):DS→M D:=λτ G=>match m τ G with
 | .ok (.obj n) G'=>match G'[n]? with
  | some (.lst ds)=>if n=G.length∧G'.length=n+1∧kP (G'.take G.length) G=Á∧aM ds=Á then .ok (.con ds) G else .stuck
  | _=>.stuck
 | r=>r
theorem zj {Q Q':VK} {s:Ç} (h:EP X pins σ Q' u s) (hq:∀ v H',Q' v H'→Q v H'∨∃ a xs,v=.ref a∧H' a=À (.lst xs)∧∀ o,Q v (upd H' a (.di o (.lst xs)))):EP X pins σ Q u s:=by
 obtain ⟨v,H',I,r,q⟩:=h;rcases hq v H' q with q | ⟨a,xs,rfl,e,q⟩
 ·exact ⟨v,H',I,r,q⟩
 ·obtain ⟨o,I'⟩:=uZ I e;exact ⟨_,_,I',r,q o⟩
theorem IX {m:DS→M D} (ha:QE X EE e m):QE X EE e (zh m):=by
 intro pins s σ H Q I zu;obtain ⟨τ,ρ,G,ab,ok⟩:=zu;dsimp only [zh] at ok;cases q:m τ G with
 | stuck=>rw [q] at ok;exact ok.elim
 | bw c G'=>rw [q] at ok;exact ha pins s σ H Q I ⟨τ,ρ,G,ab,by rw [q];exact ok⟩
 | ok d G'=>
  rw [q] at ok;by_cases hd:∃ n,d=.obj n
  ·obtain ⟨n,rfl⟩:=hd;dsimp only at ok;cases g:G'[n]? with
   | none=>rw [g] at ok;exact ok.elim
   | some o=>
    rw [g] at ok;cases o with
    | lst ds=>refine eE (ha pins s σ H (λv H'=>∃ a xs,v=.ref a∧H' a=À (.lst xs)∧∀ o,Q v (upd H' a (.di o (.lst xs)))) I ⟨τ,ρ,G,ab,?_⟩) λu s' h=>zj h λv H' q=>.inr q;rw [q];intro v H' ρ' f bF r;unfold Rep at r;obtain ⟨a,rfl,hn⟩:=r;obtain ⟨a',xs,e1,e2,rs⟩:=bF.hp.lst g;rw [hn] at e1;cases e1;refine ⟨a,xs,rfl,e2,λob=>?_⟩;have f2:cK X.K H' (upd H' a (.di ob (.lst xs))) ρ' ρ':=lD e2 ρ';refine ok _ _ ρ' (f.trans f2) ⟨bF.st.mono f2,bF.hp.di hn e2⟩ ?_;unfold Rep;exact ⟨a,xs,rfl,.inl ⟨ob,cB⟩,rs.mono f2⟩
    | _=>exact ok.elim
  ·have ok':gR X.K X.mg EE H σ τ ρ (.ok d G') Q:=by cases d<;>first | exact ok | exact absurd ⟨_,rfl⟩ hd
   exact ha pins s σ H Q I ⟨τ,ρ,G,ab,by rw [q];exact ok'⟩
theorem FH {m:DS→M D} (ha:QE X EE e m):QE X EE e (eFn m):=by
 intro pins s σ H Q I zu;obtain ⟨τ,ρ,G,ab,ok⟩:=zu;dsimp only [eFn] at ok;cases q:m τ G with
 | stuck=>rw [q] at ok;exact ok.elim
 | bw c G'=>rw [q] at ok;exact ha pins s σ H Q I ⟨τ,ρ,G,ab,by rw [q];exact ok⟩
 | ok d G'=>
  rw [q] at ok;by_cases hd:∃ n,d=.obj n
  ·obtain ⟨n,rfl⟩:=hd;dsimp only at ok;cases g:G'[n]? with
   | none=>rw [g] at ok;exact ok.elim
   | some o=>
    rw [g] at ok;cases o with
    | lst ds=>
     dsimp only at ok;by_cases hc:n=G.length∧G'.length=n+1∧kP (G'.take G.length) G=Á∧aM ds=Á
     ·rw [if_pos hc] at ok;obtain ⟨hn0,hl,hb,hcl⟩:=hc;refine eE (ha pins s σ H (λv H'=>∃ a xs,v=.ref a∧H' a=À (.lst xs)∧∀ o,Q v (upd H' a (.di o (.lst xs)))) I ⟨τ,ρ,G,ab,?_⟩) λu s' h=>zj h λv H' q=>.inr q;rw [q];intro v H' ρ' f bF r;unfold Rep at r;obtain ⟨a,rfl,hn⟩:=r;obtain ⟨a',xs,e1,e2,rs⟩:=bF.hp.lst g;rw [hn] at e1;cases e1;refine ⟨a,xs,rfl,e2,λob=>?_⟩;have f2:cK X.K H' (upd H' a (.di ob (.lst xs))) ρ' ρ':=lD e2 ρ';have f3:cK X.K H (upd H' a (.di ob (.lst xs))) ρ ρ:=⟨λb ys w=>f2.tup b ys (f.tup b ys w),λb o u w=>f2.di b o u (f.di b o u w),⟨[],by simp⟩,λb φ w=>f2.ext b φ (f.ext b φ w)⟩;have hp2:=bF.hp.di (o:=ob) hn e2;have kQ:fO X.K X.mg (upd H' a (.di ob (.lst xs))) ρ G:=ab.hp.cut f.pre hp2 (by rw [RZ (by nofun)];exact jM _ _ hb)
      refine ok _ _ ρ f3 ⟨ab.st.mono f3,kQ⟩ ?_;unfold Rep;exact ⟨a,xs,rfl,.inl ⟨ob,cB⟩,e8 ds xs hcl (rs.mono f2)⟩
     ·rw [if_neg hc] at ok;exact ok.elim
    | _=>exact ok.elim
  ·have ok':gR X.K X.mg EE H σ τ ρ (.ok d G') Q:=by cases d<;>first | exact ok | exact absurd ⟨_,rfl⟩ hd
   exact ha pins s σ H Q I ⟨τ,ρ,G,ab,by rw [q];exact ok'⟩
end
def aZ (m:List D→M D):List D→M D:=λds G=>match m ds G with
 | .ok d G'=>if kP (G'.take G.length) G=Á∧d.closed=Á then .ok d G else .stuck
 | .bw c G'=>if kP (G'.take G.length) G=Á then .bw c G else .stuck
 | .stuck=>.stuck
section
variable {K:Å} {mg:Str→Option Ã} {n:Nat} {m:List D→M D}
theorem jN (f:cK K H H' ρ ρ'):cK K H H' ρ ρ:=⟨f.tup,f.di,⟨[],by simp⟩,f.ext⟩
theorem u0 (vs:List V) (H:Hp) (Q:VK) (E:XK) (h:ir K mg n (aZ m) vs H Q E):ir K mg n m vs H Q E:=by
 obtain ⟨ds,ρ,G,hl,hp,rs,ok⟩:=h;refine ⟨ds,ρ,G,hl,hp,rs,?_⟩;dsimp only [aZ] at ok;cases q:m ds G with
 | stuck=>rw [q] at ok;exact ok
 | ok d G'=>
  rw [q] at ok;dsimp only at ok;by_cases hc:kP (G'.take G.length) G=Á∧d.closed=Á
  ·rw [if_pos hc] at ok;intro v H' ρ' f AF r;exact ok v H' ρ (jN f) (hp.cut f.pre AF (jM _ _ hc.1)) (jm d v hc.2 r)
  ·rw [if_neg hc] at ok;exact ok.elim
 | bw c G'=>
  rw [q] at ok;dsimp only at ok;by_cases hc:kP (G'.take G.length) G=Á
  ·rw [if_pos hc] at ok;intro cls H' ρ' hcl f AF;exact ok cls H' ρ hcl (jN f) (hp.cut f.pre AF (jM _ _ hc))
  ·rw [if_neg hc] at ok;exact ok.elim
end
def IY (d:D) (n:Nat):View:=λG i=>match aG G d with
 | some (.lst xs)=>if xs.length=n then (if i=n then À Æ else if i<n then À xs[n - 1 - i]? else Æ) else Æ
 | _=>Æ
def LV (m:DS→M (List D)):MI:=λτ=>(m τ).bind λds=>match ds with
 | [d]=>λG=>match aG G d with
  | some (.lst xs)=>.ok (xs.length+1,IY d xs.length) G
  | _=>.stuck
 | _=>M.stop
def IZ (d e:D):View:=λG i=>match aG G d,aG G e with
 | some (.lst xs),À (.lst ys)=>À (match xs[i]?,ys[i]? with
  | some x,À y=>À (.tup [x,y])
  | _,_=>Æ)
 | _,_=>Æ
def LX (m:DS→M (List D)):MI:=λτ=>(m τ).bind λds=>match ds with
 | [d,e]=>λG=>match aG G d,aG G e with
  | some (.lst xs),À (.lst ys)=>.ok (min xs.length ys.length+1,IZ d e) G
  | _,_=>.stuck
 | _=>M.stop
section
open PyProof.Rows
section
variable {X:Cx} {EE:bz} {a b e:Expr} {ma mb:DS→M D} {pos:Pos}
theorem BO:gB X (binaryOp .Add) (λx y H Q=>∃ l b xs zs,x=.ref l∧y=.ref b∧kD X.K H l xs∧kD X.K H b zs∧xs.length+zs.length≤Ä∧∀ p,H p=Æ→Q (.ref p) (upd H p (.lst (xs++zs)))):=by
 intro pins s σ H x y v u Q I rx ry h;obtain ⟨l,b,xs,zs,rfl,rfl,hH,hB,hz,q⟩:=h;cases rx;cases ry;obtain ⟨its,r,⟨o,n,e,c,dn,d⟩,hl⟩:=I.list hH;obtain ⟨its2,r2,⟨o2,n2,e2,c2,Nl,d2⟩,hl2⟩:=I.list hB;obtain ⟨cls,dd,data,sl⟩:=o;obtain ⟨Hy,dd2,data2,sl2⟩:=o2;simp only at c dn d c2 Nl d2;subst c dn d c2 Nl d2;have hlen:=r.length;have hlen2:=r2.length;have ea:its.toArray++its2.toArray=(its++its2).toArray:=by simp
 refine concat_meets ⟨_,e,rfl⟩ ⟨_,e2,rfl⟩ noFill_list_add seq_list_add PySem.F.slot_list_add PySem.F.entry_list_add (PySem.F.args_list_add_2 _ _) (list_addW l b its.toArray its2.toArray n n2 _ _ sl sl2 (by simp only [Õ];nofun)) ⟨e,e2,?_⟩;rw [ea];exact ⟨.ref _,_,I.HF (t':=s.toks) (r.append r2) (by rw [ü];nofun),rfl,q _ I.fresh⟩
theorem BP:gB X (binaryOp .Add) (λx y H Q=>∃ a b ys,x=.ref a∧y=.ref b∧kZ X.K H a []∧kZ X.K H b ys∧Q (.ref b) H):=by
 intro pins s σ H x y v u Q I rx ry h;obtain ⟨a,b,ys,rfl,rfl,ha,hb,q⟩:=h;cases rx;cases ry;obtain ⟨its,r1,p1,_⟩:=I.tuple ha;obtain ⟨its2,r2,p2,_⟩:=I.tuple hb;have e0:its=[]:=by cases r1;rfl
 subst e0;obtain ⟨⟨cls,dd,data,sl⟩,ho,hc,n,hd⟩:=id p1;obtain ⟨⟨Hy,dd2,data2,sl2⟩,ho2,hc2,n2,hd2⟩:=id p2;simp only at hc hd hc2 hd2;subst hc hd hc2 hd2
 exact concat_meets ⟨_,ho,rfl⟩ ⟨_,ho2,rfl⟩ noFill_tuple_add seq_tuple_add Ņ Ŀ (Ĺ _ _)
   (tuple_addW0 a b _ _ n n2 dd dd2 sl sl2 (by simp)) ⟨ho,ho2,⟨.ref b,H,I,rfl,q⟩⟩
def iI (G:DH):D→Option (List D)
 | .con xs=>À xs
 | .obj n=>match G[n]? with
  | some (.lst xs)=>À xs
  | _=>Æ
 | _=>Æ
theorem rF {xs:List D} (h:iI G d=À xs):aG G d=À (.lst xs):=by
 cases d with
 | con ys=>cases h;rfl
 | obj n=>
  dsimp only [iI] at h;dsimp only [aG];cases g:G[n]? with
  | none=>rw [g] at h;cases h
  | some o=>
   cases o with
   | lst ys=>rw [g] at h;cases h;rfl
   | _=>rw [g] at h;cases h
 | _=>cases h
def aB (d e:D):M D:=λG=>match d,e with
 | .int i,.int j=>.ok (.int (i+j)) G
 | .str i,.str j=>if i.length+j.length≤Ä then .ok (.str (i++j)) G else .stuck
 | .tup [],.tup ys=>.ok (.tup ys) G
 | .tup (x::xs),.tup ys=>dJ (x::xs++ys) G
 | d,e=>match iI G d,iI G e with
  | some xs,À ys=>aI (xs++ys) G
  | _,_=>.stuck
theorem BQ:gB X (binaryOp .Add) (rD X EE aB):=by
 intro pins s σ0 H x y v u Q I rx ry zu;obtain ⟨σ,τ,ρ,G,d,e,ab,r1,r2,ok⟩:=zu;have lists:∀ xs ys,iI G d=À xs→iI G e=À ys→gR X.K X.mg EE H σ τ ρ (aI (xs++ys) G) Q→Û (model X.prog X.w) X.A (binaryOp .Add v u) (EP X pins σ0 Q) X.xe s:=λxs ys h1 h2 ok=>by obtain ⟨l,vs,rfl,s1,t1⟩:=cT (pins:=pins) (σ0:=σ0) (s:=s) ab.hp r1 (rF h1);obtain ⟨l2,ws,rfl,s2,t2⟩:=cT (pins:=pins) (σ0:=σ0) (s:=s) ab.hp r2 (rF h2);obtain ⟨hl,q1⟩:=lZ ab (t1.append t2) ok;rw [ü] at hl;exact BO pins s σ0 H _ _ v u Q I rx ry ⟨l,l2,vs,ws,rfl,rfl,s1,s2,hl,q1⟩
 have rest:(gR X.K X.mg EE H σ τ ρ (match iI G d,iI G e with
  | some xs,À ys=>aI (xs++ys) G
  | _,_=>.stuck) Q)→Û (model X.prog X.w) X.A (binaryOp .Add v u) (EP X pins σ0 Q) X.xe s:=λok=>by
  cases h1:iI G d with
  | none=>rw [h1] at ok;exact ok.elim
  | some xs=>
   cases h2:iI G e with
   | none=>rw [h1,h2] at ok;exact ok.elim
   | some ys=>rw [h1,h2] at ok;exact lists xs ys h1 h2 ok
 cases d with
 | int i=>
  cases e with
  | int j=>unfold Rep at r1 r2;subst r1 r2;exact DV pins s σ0 H _ _ v u Q I rx ry ⟨i,j,rfl,rfl,ok _ H ρ .refl ab (by unfold Rep;rfl)⟩
  | _=>exact rest ok
 | str i=>
  cases e with
  | str j=>
   unfold Rep at r1 r2;subst r1 r2;dsimp only [aB] at ok;by_cases h:i.length+j.length≤Ä
   ·rw [if_pos h] at ok;exact sX pins s σ0 H _ _ v u Q I rx ry ⟨i,j,rfl,rfl,h,ok _ H ρ .refl ab (by unfold Rep;rfl)⟩
   ·rw [if_neg h] at ok;exact ok.elim
  | _=>exact rest ok
 | tup xs=>
  cases e with
  | tup ys=>
   have r2':=r2;unfold Rep at r1 r2;obtain ⟨p,vs,rfl,s1,t1⟩:=r1;obtain ⟨q,ws,rfl,s2,t2⟩:=r2;cases xs with
   | nil=>
    have hv:vs=[]:=by have:=t1.length;cases vs with | nil=>rfl | cons _ _=>simp at this
    subst hv;exact BP pins s σ0 H _ _ v u Q I rx ry ⟨p,q,ws,rfl,rfl,s1,s2,ok _ H ρ .refl ab r2'⟩
   | cons x xs=>
    have ok':gR X.K X.mg EE H σ τ ρ (dJ (x::xs++ys) G) Q:=ok;have ON:=t1.append t2;obtain ⟨hl,q1⟩:=pI ab ON ok';rw [ü] at hl;have hv:vs≠[]:=by intro z;subst z;have:=t1.length;simp at this
    refine A2 pins s σ0 H _ _ v u Q I rx ry ⟨p,q,vs,ws,rfl,rfl,s1,s2,hv,hl,λz=>?_,λz p hp=>q1 p hp⟩;subst z;have hy:ys=[]:=by
     have:=t2.length;cases ys with
     | nil=>rfl
     | cons _ _=>simp at this
    subst hy;unfold dJ at ok';split at ok'
    ·exact ok' _ H ρ .refl ab (by rw [ò];unfold Rep;exact ⟨p,vs,rfl,s1,t1⟩)
    ·exact ok'.elim
  | _=>cases xs<;>exact rest ok
 | _=>exact rest (by cases e<;>exact ok)
theorem BR (ha:QE X EE a ma) (hb:QE X EE b mb):QE X EE (.BinOp a .Add b pos) (aj aB ma mb):=oj BQ gD ha hb
theorem FI {f:Flow} {s:Ç} (h:SP X pins D' f s) (hb:D'.bk=Dd.bk) (hc:D'.ct=Dd.ct) (hr:D'.rt=Dd.rt)
  (hq:∀ σ H,D'.nx σ H→Dd.nx σ H∨∃ a xs,H a=À (.lst xs)∧∀ o,Dd.nx σ (upd H a (.di o (.lst xs)))):SP X pins Dd f s:=by
 obtain ⟨nx,bk,ct,rt⟩:=D';subst hb hc hr;cases f with
 | next=>
  obtain ⟨σ',H',I,q⟩:=h;rcases hq σ' H' q with q | ⟨a,xs,e,q⟩
  ·exact ⟨σ',H',I,q⟩
  ·obtain ⟨o,I'⟩:=uZ I e;exact ⟨σ',_,I',q o⟩
 | _=>exact h
theorem I8 {st:Stmt} {m:DS→M D} (hs:QS X EE st (aY i m)):QS X EE st (aY i (eFn m)):=by
 intro pins s σ H Dd I zu;obtain ⟨τ,ρ,G,ab,ok⟩:=zu;dsimp only [aY,bP,eFn] at ok;cases q:m τ G with
 | stuck=>rw [q] at ok;exact ok.elim
 | bw c G'=>rw [q] at ok;exact hs pins s σ H Dd I ⟨τ,ρ,G,ab,by dsimp only [aY,bP];rw [q];exact ok⟩
 | ok d G'=>
  rw [q] at ok;by_cases hd:∃ n,d=.obj n
  ·obtain ⟨n,rfl⟩:=hd;dsimp only at ok;cases g:G'[n]? with
   | none=>rw [g] at ok;exact ok.elim
   | some o=>
    rw [g] at ok;cases o with
    | lst ds=>
     dsimp only at ok;by_cases hc:n=G.length∧G'.length=n+1∧kP (G'.take G.length) G=Á∧aM ds=Á
     ·rw [if_pos hc] at ok;obtain ⟨hn0,hl,hb,hcl⟩:=hc;refine eE (hs pins s σ H {Dd with nx:=λσ' H'=>∃ a xs,H' a=À (.lst xs)∧∀ o,Dd.nx σ' (upd H' a (.di o (.lst xs)))} I ⟨τ,ρ,G,ab,?_⟩) λu s' h=>FI h rfl rfl rfl λσ' H' q=>.inr q;dsimp only [aY,bP];rw [q];intro σ' H' ρ' f bF;obtain ⟨a,xs,e1,e2,rs⟩:=bF.hp.lst g;refine ⟨a,xs,e2,λob=>?_⟩;have f2:cK X.K H' (upd H' a (.di ob (.lst xs))) ρ' ρ':=lD e2 ρ';have f3:cK X.K H (upd H' a (.di ob (.lst xs))) ρ ρ:=⟨λb ys w=>f2.tup b ys (f.tup b ys w),λb o u w=>f2.di b o u (f.di b o u w),⟨[],by simp⟩,λb φ w=>f2.ext b φ (f.ext b φ w)⟩;have kQ:fO X.K X.mg (upd H' a (.di ob (.lst xs))) ρ G:=ab.hp.cut f.pre (bF.hp.di (o:=ob) e1 e2) (by rw [RZ (by nofun)];exact jM _ _ hb)
      refine ok σ' _ ρ f3 ⟨⟨by rw [bF.st.1];simp,λj dj ej=>?_⟩,kQ⟩;by_cases hij:i=j
      ·subst hij;by_cases hi:i<τ.length
       ·rw [ù,if_pos rfl,if_pos hi] at ej;cases ej;obtain ⟨vv,ev,rv⟩:=bF.st.2 i (.obj n) (by rw [ù,if_pos rfl,if_pos hi]);unfold Rep at rv;obtain ⟨a',rfl,hn'⟩:=rv;rw [e1] at hn';cases hn';refine ⟨_,ev,?_⟩;unfold Rep;exact ⟨a,xs,rfl,.inl ⟨ob,cB⟩,e8 ds xs hcl (rs.mono f2)⟩
       ·rw [ù,if_pos rfl,if_neg hi] at ej;cases ej
      ·have Qq:=ej;rw [ß hij] at ej;obtain ⟨v',ev',OO⟩:=bF.st.2 j dj (by rw [ß hij];exact ej);obtain ⟨v0,LY,OP⟩:=ab.st.2 j dj ej;exact ⟨v',ev',Rep.back f.pre dj v0 v' OP (OO.mono f2)⟩
     ·rw [if_neg hc] at ok;exact ok.elim
    | _=>exact ok.elim
  ·have ok':qS X.K X.mg EE H ρ Dd (.nx (τ.set i (À d)) G'):=by cases d<;>first | exact ok | exact absurd ⟨_,rfl⟩ hd
   exact hs pins s σ H Dd I ⟨τ,ρ,G,ab,by dsimp only [aY,bP];rw [q];exact ok'⟩
end
end
section
open PyProof.Rows
def BS (lo hi c:Int):Nat:=if lo<hi then ((hi - lo - 1) / c+1).toNat else 0
def Ja (lo c:Int) (n:Nat):View:=λ_ i=>À (if i<n then À (.int (lo+(i:Int)*c)) else Æ)
def ints3:List D→Option (Int×Int×Int)
 | [.int lo,.int hi,.int c]=>À (lo,hi,c)
 | _=>Æ
def Jb (m:DS→M (List D)):MI:=λτ=>(m τ).bind λds=>match ints3 ds with
 | some (lo,hi,c)=>λG=>if -(2^30)≤lo∧lo<2^30∧-(2^30)≤hi∧hi<2^30∧0<c∧c<2^30 then .ok (BS lo hi c+1,Ja lo c (BS lo hi c)) G else .stuck
 | none=>M.stop
end
def Jc:D→Option Key
 | .int i=>À (Sum.inl i)
 | .str x=>À (Sum.inr x)
 | _=>Æ
def LZ {κ:Type} [DecidableEq κ] (kvs:List (κ×D)) (k:κ):Option D:=(kvs.find? λkv=>decide (kv.1=k)).map (·.2)
def Jd {κ:Type} [DecidableEq κ] (kvs:List (κ×D)) (k:κ) (v:D):List (κ×D):=
 if (kvs.any λkv=>decide (kv.1=k))=Á then kvs.map (λkv=>if kv.1=k then (kv.1,v) else kv) else kvs++[(k,v)]
section
variable {K:Å} {mg:Str→Option Ã} {H:Hp} {ρ:List Addr} {G:DH}
theorem fO.dct {kvs:List (Key×D)} (h:fO K mg H ρ G) (e:G[n]?=À (.dct kvs)):∃ a xs,ρ[n]?=À a∧H a=À (.dK ((kvs.map (·.1)).zip xs))∧aq K mg ρ H (kvs.map (·.2)) xs:=by obtain ⟨a,e1,xs,e2,r⟩:=h.ob n _ e;exact ⟨a,xs,e1,e2,r⟩
theorem fO.Je (h:fO K mg H ρ G) (hp:H p=Æ):fO K mg (upd H p (.dK [])) (ρ++[p]) (G++[.dct []]):=by
 have f:cK K H (upd H p (.dK [])) ρ (ρ++[p]):=(eX hp ρ).trans (fP ρ p);refine ⟨by simp [h.hl],?_,λn ob e=>?_⟩
 ·rw [Sl];refine ⟨h.nd,by simp,λa ha b hb=>?_⟩;have e:b=p:=by simpa using hb
  subst e;rintro rfl;exact h.not_mem hp ha
 ·by_cases hn:n<G.length
  ·rw [Ñ hn] at e;obtain ⟨a,e1,r'⟩:=h.ob n ob e;exact ⟨a,f.get e1,r'.mono f λu q=>by rw [aD (aS q hp)];exact q⟩
  ·have hl:n<(G++[DO.dct []]).length:=(É.mp e).1;have hn':n=G.length:=by simp at hl;nofun
   subst hn';rw [aH] at e;cases e;exact ⟨p,by rw [← h.hl,aH],[],cB,.nil⟩
end
section
variable {X:Cx} {EE:bz} {e f o i a:Expr} {pos apos cpos tpos:Pos} {mo me mf mv mi:DS→M D}
def zk:DS→M D:=λ_ G=>.ok (.obj G.length) (G++[.dct []])
theorem BU:QE X EE (.Dict [] [] pos) zk:=PE.mono xW λσ H Q ⟨τ,ρ,G,ab,ok⟩=>λp hp=>by refine ok (.ref p) _ (ρ++[p]) ((eX hp ρ).trans (fP ρ p)) ⟨ab.st.mono ((eX hp ρ).trans (fP ρ p)),ab.hp.Je hp⟩ ?_;unfold Rep;exact ⟨p,rfl,by rw [← ab.hp.hl,aH]⟩
def Dh (G:DH):D→Bool
 | .obj n=>match G[n]? with
  | some (.dct _)=>Á
  | _=>Â
 | _=>Â
def Di (d k x:D):M D:=λG=>match d,Jc k with
 | .obj n,À y=>match G[n]? with
  | some (.dct kvs)=>.ok ((LZ kvs y).getD x) G
  | _=>.stuck
 | _,_=>.stuck
def zl (mo me mf:DS→M D):DS→M D:=λτ=>(mo τ).bind λd G=>if Dh G d=Á then ((me τ).bind λk=>(mf τ).bind λx=>Di d k x) G else .stuck
def zm (v d k:D):M D:=λG=>match d,Jc k with
 | .obj n,À y=>match G[n]? with
  | some (.dct kvs)=>if kvs.length<Ä then .ok .dR (G.set n (.dct (Jd kvs y v))) else .stuck
  | _=>.stuck
 | _,_=>.stuck
def xU (mv mo mi:DS→M D):MS:=λτ=>bP ((mv τ).bind λv=>(mo τ).bind λo=>(mi τ).bind λi=>zm v o i) (λ_ G=>.nx τ G) λc G=>.xn c τ G
end
section
open PyProof.Rows
end
def zp (xs:List D):View:=λ_ i=>if i≤xs.length then À (xs[i]?.map λx=>.tup [.int i,x]) else Æ
def FJ (m:DS→M (List D)):MI:=λτ=>(m τ).bind λds=>match ds with
 | [d]=>λG=>match aG G d with
  | some (.lst xs)=>.ok (xs.length+1,uU d) G
  | some (.tup xs)=>.ok (xs.length+1,zp xs) G
  | _=>.stuck
 | _=>M.stop
abbrev DN (s:Str):Prop:=(s==("__debug__":Str))=Â∧(s==("__classdict__":Str))=Â
def Out.fw (r:Out D) (G:DH):Out D:=match r with
 | .ok (.obj n) G'=>match G'[n]? with
  | some (.lst ds)=>if n=G.length∧G'.length=n+1∧kP (G'.take G.length) G=Á∧aM ds=Á then .ok (.con ds) G else .stuck
  | _=>.stuck
 | r=>r
def Out.fz (r:Out D):Out D:=match r with
 | .ok (.obj n) G'=>match G'[n]? with
  | some (.lst ds)=>.ok (.con ds) (G'.set n .dead)
  | _=>.stuck
 | r=>r
section
variable {τ:DS} {G G' A B R:DH} {e ma mb mc:DS→M D} {n i:Nat} {d:D} {c:XD} {ml:DS→M (List D)} {ds xs ys:List D} {m:List D→M D}
theorem aR:eFn e τ G=(e τ G).fw G:=È rfl rfl
@[simp] theorem Nn:zh e τ G=(e τ G).fz:=È rfl rfl
@[simp] theorem L0:(Out.ok (.tup xs) G').fw G=.ok (.tup xs) G':=È rfl rfl
@[simp] theorem L4:(Out.ok (.con xs) G').fw G=.ok (.con xs) G':=È rfl rfl
@[simp] theorem L5 {z:Str}:(Out.ok (.str z) G').fw G=.ok (.str z) G':=È rfl rfl
@[simp] theorem L6 {j:Int}:(Out.ok (.int j) G').fw G=.ok (.int j) G':=È rfl rfl
theorem L7:(Out.bw c G').fw G=.bw c G':=È rfl rfl
theorem kj (h:aM ds=Á):(Out.ok (.obj G.length) (G++[.lst ds])).fw G=.ok (.con ds) G:=by simp [Out.fw,h,iW]
theorem fD (hz:ds.length≤Ä) (h:aM ds=Á):(aI ds G).fw G=.ok (.con ds) G:=by rw [aI,if_pos hz,kj h]
@[simp] theorem Jf:(Out.ok (.obj A.length) (A++.lst ds::B)).fz=.ok (.con ds) (A++.dead::B):=by simp [Out.fz,GO]
theorem zq {o:DO}:(Out.ok (.obj (A.length+1)) (A++o::.lst ds::B)).fz=.ok (.con ds) (A++o::.dead::B):=by simp [Out.fz,OC,M5]
theorem jO (h:m ds G=.ok d (G++R)) (hc:d.closed=Á):aZ m ds G=.ok d G:=by simp [aZ,h,hc,iW]
theorem av (h:m ds G=.ok d G) (hc:d.closed=Á):aZ m ds G=.ok d G:=jO (R:=[]) (by simpa using h) hc
@[simp] theorem L8:LV ml τ G=(ml τ G).bd λds=>match ds with
 | [d]=>λG=>match aG G d with
  | some (.lst xs)=>.ok (xs.length+1,IY d xs.length) G
  | _=>.stuck
 | _=>M.stop:=ao
@[simp] theorem Ma:LX ml τ G=(ml τ G).bd λds=>match ds with
 | [d,e]=>λG=>match aG G d,aG G e with
  | some (.lst xs),À (.lst ys)=>.ok (min xs.length ys.length+1,IZ d e) G
  | _,_=>.stuck
 | _=>M.stop:=ao
@[simp] theorem Jg:FJ ml τ G=(ml τ G).bd λds=>match ds with
 | [d]=>λG=>match aG G d with
  | some (.lst xs)=>.ok (xs.length+1,uU d) G
  | some (.tup xs)=>.ok (xs.length+1,zp xs) G
  | _=>.stuck
 | _=>M.stop:=ao
@[simp] theorem Kr:Jb ml τ G=(ml τ G).bd λds=>match ints3 ds with
 | some (lo,hi,c)=>λG=>if -(2^30)≤lo∧lo<2^30∧-(2^30)≤hi∧hi<2^30∧0<c∧c<2^30 then .ok (BS lo hi c+1,Ja lo c (BS lo hi c)) G else .stuck
 | none=>M.stop:=ao
@[simp] theorem Ks:zk τ G=.ok (.obj G.length) (G++[.dct []]):=È rfl rfl
@[simp] theorem Jh:zl ma mb mc τ G=(ma τ G).bd λd G=>if Dh G d=Á then (mb τ G).bd (λk=>(mc τ).bind λx=>Di d k x) else .stuck:=by
 unfold zl;rw [ao];unfold Out.bd;cases ma τ G with
 | stuck=>rfl
 | bw c G=>rfl
 | ok d G'=>simp only [ao];rfl
@[simp] theorem Ku:xU ma mb mc τ G=((ma τ G).bd λv=>(mb τ).bind λo=>(mc τ).bind λi=>zm v o i).xp τ:=by unfold xU bP Out.xp;rw [ao];cases ((ma τ G).bd λv=>(mb τ).bind λo=>(mc τ).bind λi=>zm v o i)<;>rfl
theorem mR {x v:D} (h1:gO x=À os) (h2:te (os.map À++mask ks τ) (G++[.lst acc])=.ok v (G++[.lst acc])) (hz:acc.length<Ä) :
  bS gO ks gF te G.length x τ (G++[.lst acc])=.ok () (G++[.lst (acc++[v])]):=by
 simp only [bS,h1,gF,M.ret,h2,CY,if_pos hz,GO]
theorem oM {gO:D→Option (List D)} {ks:List Bool} {te:DS→M D} {own:D→List D} {f:D→D}:∀ (xs acc:List D),acc.length+xs.length≤1000000→(∀ x∈xs,gO x=À (own x))→(∀ x∈xs,∀ acc,te ((own x).map À++mask ks τ) (G++[.lst acc])=.ok (f x) (G++[.lst acc])) →
  bE gO ks gF te G.length xs τ (G++[.lst acc])=.ok (.obj G.length) (G++[.lst (acc++xs.map f)])
 | [],acc,_,_,_=>by simp [bE]
 | x::xs,acc,hl,h1,h2=>by have hz:acc.length<Ä:=Ë (by simp at hl;nofun) (lz (n:=1000001) (by nofun));rw [bE,mR (h1 x (by simp)) (h2 x (by simp) acc) hz];dsimp only;rw [oM xs (acc++[f x]) (by simp at hl ⊢;nofun) (λy hy=>h1 y (by simp [hy])) (λy hy=>h2 y (by simp [hy]))];simp
end
theorem gY:∀ {xs:List D},(∀ x∈xs,x.closed=Á)→aM xs=Á
 | [],_=>rfl
 | x::xs,h=>by rw [aM,h x (by simp),gY λy hy=>h y (by simp [hy])];rfl
theorem cF {α:Type} {f:α→D} {l:List α} (h:∀ x,(f x).closed=Á):aM (l.map f)=Á:=gY (by intro x hx;obtain ⟨a,_,rfl⟩:=ĵ.mp hx;exact h a)
theorem bR {xs:List D}:(D.con xs).closed=aM xs:=by rw [D.closed]
theorem eN {xs:List D}:(D.tup xs).closed=aM xs:=by rw [D.closed]
theorem fV {i:Int}:(D.int i).closed=Á:=by rw [D.closed]<;>simp
theorem bh {i:Str}:(D.str i).closed=Á:=by rw [D.closed]<;>simp
theorem tY:D.dR.closed=Á:=by rw [D.closed]<;>simp
theorem rG:aM []=Á:=rfl
theorem aV {x:D} {xs:List D}:aM (x::xs)=(x.closed&&aM xs):=by rw [aM]
mutual
def D.pd:D→PyData
 | .bl b=>.bool b
 | .int i=>.int i
 | .str x=>.str x
 | .tup ds=>.tuple (sP ds)
 | .con ds=>.list (sP ds)
 | _=>.none
def sP:List D→List PyData
 | []=>[]
 | d::r=>d.pd::sP r
end
mutual
def D.plain:D→Bool
 | .tup ds=>gZ ds
 | .con ds=>gZ ds
 | .str x=>Þ x
 | .obj _=>Â
 | .lW _ _=>Â
 | .sM _ _=>Â
 | .fn _=>Â
 | _=>Á
def gZ:List D→Bool
 | []=>Á
 | d::r=>d.plain&&gZ r
end
mutual
def D.dp:D→Nat
 | .tup ds=>FL ds+1
 | .con ds=>FL ds+1
 | _=>0
def FL:List D→Nat
 | []=>0
 | d::r=>max d.dp (FL r)
end
mutual
theorem FN (G:DH):∀ (d:D) (n:Nat),d.plain=Á→d.dp<n→dg G n d=À d.pd
 | .dR,n+1,_,_=>by simp [dg,D.pd]
 | .bl b,n+1,_,_=>by simp [dg,D.pd]
 | .int b,n+1,_,_=>by simp [dg,D.pd]
 | .str b,n+1,_,_=>by simp [dg,D.pd]
 | .tup ds,n+1,h,hn=>by rw [dg,pU G ds n (by simpa [D.plain] using h) (by rw [D.dp] at hn;nofun),D.pd];rfl
 | .con ds,n+1,h,hn=>by rw [dg,pU G ds n (by simpa [D.plain] using h) (by rw [D.dp] at hn;nofun),D.pd];rfl
 | .obj k,n+1,h,_=>by simp [D.plain] at h
 | .lW _ _,n+1,h,_=>by simp [D.plain] at h
 | .sM _ _,n+1,h,_=>by simp [D.plain] at h
 | .fn _,n+1,h,_=>by simp [D.plain] at h
theorem pU (G:DH):∀ (ds:List D) (n:Nat),gZ ds=Á→FL ds<n→aQ (dg G n) ds=À (sP ds)
 | [],n,_,_=>by simp [aQ,sP]
 | d::ds,n,h,hn=>by
  have h':d.plain=Á∧gZ ds=Á:=by simpa [gZ] using h
  rw [FL] at hn;rw [aQ,FN G d n h'.1 (by nofun),pU G ds n h'.2 (by nofun),sP]
end
mutual
theorem lay_of:∀ (d:D),d.plain=Á→d.pd.canLay0=Á
 | .dR,_=>by simp [D.pd,ä]
 | .bl b,_=>by simp [D.pd,ä]
 | .int b,_=>by simp [D.pd,ä]
 | .str b,h=>by simpa [D.pd,ä,D.plain] using h
 | .tup ds,h=>by rw [D.pd,ä];exact pV ds (by simpa [D.plain] using h)
 | .con ds,h=>by rw [D.pd,ä];exact pV ds (by simpa [D.plain] using h)
 | .obj k,h=>by simp [D.plain] at h
 | .lW _ _,h=>by simp [D.plain] at h
 | .sM _ _,h=>by simp [D.plain] at h
 | .fn _,h=>by simp [D.plain] at h
theorem pV:∀ (ds:List D),gZ ds=Á→á (sP ds)=Á
 | [],_=>by simp [sP,á]
 | d::ds,h=>by
  have h':d.plain=Á∧gZ ds=Á:=by simpa [gZ] using h
  rw [sP,á,lay_of d h'.1,pV ds h'.2];rfl
end
mutual
theorem Ji:∀ (d:D),d.pd.depth≤d.dp
 | .dR=>by simp [D.pd,î]
 | .bl b=>by simp [D.pd,î]
 | .int b=>by simp [D.pd,î]
 | .str b=>by simp [D.pd,î]
 | .tup ds=>by rw [D.pd,î,D.dp];exact SD (tZ ds)
 | .con ds=>by rw [D.pd,î,D.dp];exact SD (tZ ds)
 | .obj k=>by simp [D.pd,î]
 | .lW _ _=>by simp [D.pd,î]
 | .sM _ _=>by simp [D.pd,î]
 | .fn _=>by simp [D.pd,î]
theorem tZ:∀ (ds:List D),ë (sP ds)≤FL ds
 | []=>by simp [sP,ë]
 | d::ds=>by rw [sP,ë,FL];have:=Ji d;have:=tZ ds;nofun
end
mutual
theorem zu:∀ (d:D),õ d.pd d.pd=Á
 | .dR=>by simp [D.pd,õ]
 | .bl b=>by simp [D.pd,õ]
 | .int b=>by simp [D.pd,õ]
 | .str b=>by simp [D.pd,õ]
 | .tup ds=>by rw [D.pd,õ];exact ko ds
 | .con ds=>by rw [D.pd,õ];exact ko ds
 | .obj k=>by simp [D.pd,õ]
 | .lW _ _=>by simp [D.pd,õ]
 | .sM _ _=>by simp [D.pd,õ]
 | .fn _=>by simp [D.pd,õ]
theorem ko:∀ (ds:List D),Ő (sP ds) (sP ds)=Á
 | []=>by simp [sP,Ő]
 | d::ds=>by rw [sP,Ő,zu d,ko ds];rfl
end
def zv (G:DH) (d:D):Option (Bool×List D):=match aG G d with
 | some (.lst xs)=>À (Â,xs)
 | some (.tup xs)=>À (Á,xs)
 | _=>Æ
section
variable {K:Å} {mg:Str→Option Ã} {H:Hp} {ρ:List Addr} {G:DH}
def FO (fz:Bool) (H:Hp) (a:Addr) (u:List (List Key×V)):Prop:=if fz=Á then ∃ o,H a=À (.di o (.dT u)) else H a=À (.dT u)
theorem FO.rd {fz:Bool} {u:List (List Key×V)} (h:FO fz H a u):Rd H a (.dT u):=by
 cases fz
 ·exact .inl h
 ·exact .inr h
theorem fO.GI {fz:Bool} (h:fO K mg H ρ G) (e:G[n]?=À (.GI fz kvs)):∃ a xs,ρ[n]?=À a∧FO fz H a ((kvs.map (·.1)).zip xs)∧aq K mg ρ H (kvs.map (·.2)) xs:=by obtain ⟨a,e1,xs,e2,r⟩:=h.ob n _ e;exact ⟨a,xs,e1,e2,r⟩
end
section
open PyProof.Rows
section
variable {X:Cx} {EE:bz} {p pos apos cpos:Pos} {e o:Expr} {m:DS→M (List D)} {mo:DS→M D}
def mS:List D→M D
 | [.int i]=>if i.natAbs.log2<1920 then M.ret (.str (toString i)) else M.stop
 | _=>M.stop
theorem wo:cX X (.type "str") (Br X EE mS):=by
 intro pins s σ0 H xs us Q I r zu;obtain ⟨σ,τ,ρ,G,ds,ab,xx,ok⟩:=zu
 match ds,ok with
 | [],ok=>exact ok.elim
 | d::_::_,ok=>cases d<;>exact ok.elim
 | [d],ok=>
  obtain ⟨x,rfl,rx⟩:=je xx;cases d<;>try exact ok.elim
  rename_i i;unfold Rep at rx;subst rx;dsimp only [mS] at ok;by_cases hc:i.natAbs.log2<1920
  ·rw [if_pos hc] at ok;exact pe pins s σ0 H _ us Q I r ⟨i,rfl,hc,ok _ H ρ .refl ab (by unfold Rep;rfl)⟩
  ·rw [if_neg hc] at ok;exact ok.elim
theorem boot_str:bootBuiltins "str"=À (.type "str"):=by symm
theorem BV (hm:X.mg "str"=Æ) (hg:Gl X "str") (ha:QA X EE [e] m) (h:ay [e]=Á:=by rfl):QE X EE (.Call (.Name "str" p) [e] [] pos) (ai mS m):=j9 wo hm hg boot_str ha (by decide) (by decide) h
end
section
variable {X:Cx} {EE:bz} {o i:Expr} {mo mi:DS→M D} {y:Str} {j1:Nat} {p1 lp sp apos cpos:Pos}
def zw (y:Str) (zs:List Str) (x:Str):D→M D
 | .int k=>if 0≤k∧k<1000 then (match zs[k.toNat]? with
  | some z=>if x.length+(x.length+1)*z.length≤16777216 then M.ret (.str (Ö x y z)) else M.stop
  | none=>M.stop) else M.stop
 | _=>M.stop
def FP (y:Str) (zs:List Str) (m:M D):D→M D
 | .str x=>m.bind (zw y zs x)
 | _=>M.stop
def FQ (y:Str) (zs:List Str) (mo mi:DS→M D):DS→M D:=λτ=>(mo τ).bind (FP y zs (mi τ))
end
end
theorem zx {i:Int}:aB (.int i) (.int j) G=.ok (.int (i+j)) G:=È rfl rfl
section
variable {τ:DS} {G:DH} {ma mb mo mi:DS→M D}
@[simp] theorem Np:NX ma mb τ G=(ma τ G).bd λd=>match d with
 | .bl Â=>mb τ
 | .bl Á=>M.ret (.bl Á)
 | _=>M.stop:=ao
@[simp] theorem Mb:EK ma mb τ G=(ma τ G).bd λd=>match d with
 | .bl Á=>mb τ
 | .bl Â=>M.ret (.bl Â)
 | _=>M.stop:=ao
@[simp] theorem Jj {y:Str} {zs:List Str}:FQ y zs mo mi τ G=(mo τ G).bd (FP y zs (mi τ)):=ao
@[simp] theorem Mc {y x:Str} {zs:List Str} {m:M D}:FP y zs m (.str x) G=(m G).bd (zw y zs x):=ao
theorem zy (hne:(y==z)=Â) (hl:x.length≤1000000) (hz':z.length≤10):rA y z (.str x) G=.ok (.str (Ö x y z)) G:=by have:(x.length+1)*z.length≤(1000000+1)*10:=Nat.mul_le_mul (by nofun) hz';simp only [rA];rw [if_pos ⟨hne,by nofun⟩];rfl
theorem FT {i:Int} (h:0≤i∧i<1000):mS [.int i] G=.ok (.str (toString i)) G:=by
 have h1:i.natAbs.log2<1920:=by
  rcases Nat.eq_zero_or_pos i.natAbs with e | e
  ·rw [e];decide
  ·exact (Nat.log2_lt (by nofun)).mpr (Ë (show i.natAbs<2^10 by nofun) (Nat.pow_le_pow_right (by decide) (by decide)))
 simp only [mS,if_pos h1];rfl
theorem t6 {x:D} (h1:gO x=À os) (h2:tt (os.map À++mask ks τ) (G++[.lst acc])=.ok Â (G++[.lst acc])) :
  bS gO ks tt te G.length x τ (G++[.lst acc])=.ok () (G++[.lst acc]):=by
 simp only [bS,h1,h2]
theorem rH {x v:D} (h1:gO x=À os) (h2:tt (os.map À++mask ks τ) (G++[.lst acc])=.ok Á (G++[.lst acc])) (h3:te (os.map À++mask ks τ) (G++[.lst acc])=.ok v (G++[.lst acc])) (hz:acc.length<Ä) :
  bS gO ks tt te G.length x τ (G++[.lst acc])=.ok () (G++[.lst (acc++[v])]):=by
 simp only [bS,h1,h2,h3,CY,if_pos hz,GO]
theorem fE {gO:D→Option (List D)} {ks:List Bool} {tt:DS→M Bool} {te:DS→M D} {α:Type} {own:α→List D} {dat f:α→D} {c:α→Bool}:∀ (as:List α) (acc:List D),acc.length+as.length≤1000000→(∀ x∈as,gO (dat x)=À (own x)) →
  (∀ x∈as,∀ acc,tt ((own x).map À++mask ks τ) (G++[.lst acc])=.ok (c x) (G++[.lst acc]))→(∀ x∈as,∀ acc,te ((own x).map À++mask ks τ) (G++[.lst acc])=.ok (f x) (G++[.lst acc])) →
  bE gO ks tt te G.length (as.map dat) τ (G++[.lst acc])=.ok (.obj G.length) (G++[.lst (acc++(as.filter c).map f)])
 | [],acc,_,_,_,_=>by simp [bE]
 | x::as,acc,hl,h1,h2,h3=>by
  have hz:acc.length<Ä:=Ë (by simp at hl;nofun) (lz (n:=1000001) (by nofun));rw [Í,bE];have hp:=h2 x (by simp) acc;cases hc:c x with
  | false=>rw [hc] at hp;rw [t6 (h1 x (by simp)) hp];dsimp only;rw [fE as acc (by simp at hl;nofun) (λq hq=>h1 q (by simp [hq])) (λq hq=>h2 q (by simp [hq])) (λq hq=>h3 q (by simp [hq])),Ŵ (by rw [hc];decide)]
  | true=>rw [hc] at hp;rw [rH (h1 x (by simp)) hp (h3 x (by simp) acc) hz];dsimp only;rw [fE as (acc++[f x]) (by simp at hl ⊢;nofun) (λq hq=>h1 q (by simp [hq])) (λq hq=>h2 q (by simp [hq])) (λq hq=>h3 q (by simp [hq])),ł hc];simp
end
def pW (cur:List Nat):List (List Nat):=if cur.isEmpty then [] else [cur]
def dX:List Nat→List Nat→List (List Nat)
 | cur,[]=>pW cur
 | cur,c::r=>if c=32 then pW cur++dX [] r else if c=10 then pW cur++dX [] r else if c=40 then pW cur++[40]::dX [] r else if c=41 then pW cur++[41]::dX [] r else dX (cur++[c]) r
def pX (x:List Nat):List Nat:=rp 41 [32,41,32] (rp 40 [32,40,32] (rp 10 [32] x))
theorem gG (h:32∉cur):(aJ 32 cur).filter (λl=>!l.isEmpty)=pW cur:=by rw [iH 32 cur h];unfold pW;cases cur<;>rfl
theorem jP:pW []=[]:=rfl
theorem wl:∀ (x cur:List Nat),32∉cur→(aJ 32 (cur++pX x)).filter (λl=>!l.isEmpty)=dX cur x
 | [],cur,h=>by show (aJ 32 (cur++[])).filter _=_;rw [ò,gG h];rfl
 | c::r,cur,h=>by
  have one:∀ {s:List Nat},(pX (c::r))=s++32::pX r→32∉s→(aJ 32 (cur++pX (c::r))).filter (λl=>!l.isEmpty)=(aJ 32 (cur++s)).filter (λl=>!l.isEmpty)++dX [] r:=λ{s} e hs=>by rw [e,← Ü,dN,Ī];have:=wl r [] (by simp);rw [â] at this;rw [this]
  by_cases Me:c=32
  ·subst Me;rw [one (s:=[]) rfl (by simp),ò,gG h];rfl
  ·by_cases Fc:c=10
   ·subst Fc;rw [one (s:=[]) rfl (by simp),ò,gG h];rfl
   ·by_cases Jk:c=40
    ·subst Jk;have e:pX (40::r)=[32,40]++32::pX r:=rfl;rw [e,← Ü,dN,Ī,show cur++[32,40]=cur++32::[40] from rfl,dN,Ī,gG h];have:=wl r [] (by simp);rw [â] at this;rw [this];show (pW cur++[[40]])++dX [] r=pW cur++[40]::dX [] r;simp
    ·by_cases Mf:c=41
     ·subst Mf;have e:pX (41::r)=[32,41]++32::pX r:=rfl;rw [e,← Ü,dN,Ī,show cur++[32,41]=cur++32::[41] from rfl,dN,Ī,gG h];have:=wl r [] (by simp);rw [â] at this;rw [this];show (pW cur++[[41]])++dX [] r=pW cur++[41]::dX [] r;simp
     ·have e:pX (c::r)=[c]++pX r:=by simp [pX,rp,Fc,Jk,Mf]
      rw [e,← Ü,wl r (cur++[c]) (by simp [h];exact λz=>Me z.symm)];rw [dX,if_neg Me,if_neg Fc,if_neg Jk,if_neg Mf]
theorem pY (c k:Nat) (b:List Nat) (hb:b.length≤k) (hk:1≤k):∀ x:List Nat,(rp c b x).length≤k*x.length
 | []=>by simp [rp]
 | d::r=>by
  have ih:=pY c k b hb hk r;have e:rp c b (d::r)=(if d=c then b else [d])++rp c b r:=by simp [rp]
  rw [e,ü,ŵ,Nat.mul_add];split<;>simp<;>nofun
section
open PyProof.Rows
end
section
variable {X:Cx} {EE:bz} {a b:Expr} {pos:Pos} {ma mb m:DS→M D}
def kK (d e:D):M D:=λG=>match d,e with
 | .obj n,.int k=>match G[n]? with
  | some (.lst xs)=>if k<1000∧-1000<k∧xs.length*k.toNat≤Ä then aI (Ì k.toNat xs).flatten G else .stuck
  | _=>.stuck
 | _,_=>.stuck
theorem aq.rep (r:aq K mg ρ H ds vs):∀ k:Nat,aq K mg ρ H (Ì k ds).flatten (Ì k vs).flatten
 | 0=>.nil
 | k+1=>by rw [ă,ğ,ă,ğ];exact r.append (r.rep k)
theorem BW:gB X (binaryOp .Mult) (rD X EE kK):=by
 intro pins s σ0 H x y v u Q I rx ry zu;obtain ⟨σ,τ,ρ,G,d,e,ab,r1,r2,ok⟩:=zu;cases d<;>try exact ok.elim
 rename_i n;cases e<;>try exact ok.elim
 rename_i k;dsimp only [kK] at ok;cases g:G[n]? with
 | none=>rw [g] at ok;exact ok.elim
 | some o=>
  cases o with
  | lst zs=>
   rw [g] at ok;dsimp only at ok;unfold Rep at r1 r2;subst r2;obtain ⟨p,rfl,e1⟩:=r1;obtain ⟨p',vs,e2,hp,rs⟩:=ab.hp.lst g;rw [e1] at e2;cases e2;by_cases hk:k<1000∧-1000<k∧zs.length*k.toNat≤Ä
   ·rw [if_pos hk] at ok;obtain ⟨hl,q1⟩:=lZ ab (rs.rep k.toNat) ok;exact Eg pins s σ0 H _ _ v u Q I rx ry ⟨p,k,vs,rfl,rfl,hp,by nofun,by nofun,by rw [← rs.length];exact hk.2.2,q1⟩
   ·rw [if_neg hk] at ok;exact ok.elim
  | _=>rw [g] at ok;exact ok.elim
theorem FU (ha:QE X EE a ma) (hb:QE X EE b mb):QE X EE (.BinOp a .Mult b pos) (aj kK ma mb):=oj BW gD ha hb
end
section
variable {τ:DS} {G:DH} {e:DS→M D} {ml:DS→M (List D)} {d:D}
end
section
variable {X:Cx} {EE:bz}
theorem aq.eraseIdx:∀ (n:Nat) {ds:List D} {vs:List V},aq K mg ρ H ds vs→aq K mg ρ H (ds.eraseIdx n) (vs.eraseIdx n)
 | _,[],vs,h=>by unfold aq at h;subst h;exact .nil
 | 0,d::ds,vs,h=>by unfold aq at h;obtain ⟨v,r,rfl,h1,h2⟩:=h;exact h2
 | n+1,d::ds,vs,h=>by unfold aq at h;obtain ⟨v,r,rfl,h1,h2⟩:=h;exact .cons h1 (aq.eraseIdx n h2)
end
structure Jl (N ps names:List Str) (sc:Scope):Prop where
 kind:sc.kind=.function
 co:sc.isCoroutine=Â
 gen:sc.isGenerator=Â
 nd:N.Nodup
 pre:N.take (ps.length+names.length)=ps++names
 par:∀ x∈ps,sc.names.lookup x=À .local
 fr:∀ x∈names,sc.names.lookup x=À .free
 tS:∀ y∈sc.names,y.2≠.cell
 frs:∀ y∈sc.names,y.2=.free→y.1∈names
def u6 (r:Out D):Out D:=match r with
 | .bw _ _=>.stuck
 | r=>r
def Cx.held (X:Cx) (ns:List Str):Cx:={X with fn:=λx=>X.fn x&&!(ns.contains x)}
structure OR (X:Cx) (H':Hp) (s':Ç):Prop where
 os:s'.os=X.s₀.os∧0<s'.toks
 bare:RS s'.gens
 base:Un X.fs X.ex X.H₀ H' X.s₀.heap s'.heap
 hok:iA X.prog X.w H' s'.heap
section
variable {X:Cx} {EE:bz} {pins:List (Addr×Obj)} {σ:L2.St} {H:Hp} {s:Ç} {st:Stmt} {rest:List Stmt} {ms mt:MS}
structure Made (P c':Addr) (H:Hp) (h h':Heap) (ps ps':Array Ã) (oc:Obj):Prop where
 ext:∀ b o,b≠P→h.get? b=À o→h'.get? b=À o
 tab:h'.get? P=À (PySem.W.tabObj ps')
 code:h'.get? c'=À oc
 sz:h.objs.size≤h'.objs.size
 old:(H c'=Æ∧h.objs.size≤c')∨H c'=À (.di oc (.own 0))
 grow:∃ more,ps'=ps++more
structure Jm (X:Cx) (k:lV) (y:Str) (js:List Nat) (cs:List Addr) (c P:Addr):Prop where
 hk:xX X.K X.mg y=À k
 hcode:X.env.code=.ref c
 htab:PySem.W.tabIn X.K y=À (c,P)
 hC:PySem.W.CodeHd X.base c P
 hB:X.base.BuiltinsAt X.mg P
 hcl:closureFor k.scope X.env=pure (k.names.zip cs)
 hlen:cs.length=k.names.length
 hnd:cs.Nodup
 hcs:∀ (l:Nat) (z:Str),k.names[l]?=À z→∃ d,cs[l]?=À d∧X.env.cells.lookup z=À d
 Qs:js.length=k.names.length
 hjn:∀ (l j:Nat) (z:Str),js[l]?=À j→k.names[l]?=À z→X.N[j]?=À z
 hcell:∀ z∈k.names,X.env.scope.names.lookup z=À .cell
 hfn:∀ x,X.fn x=Á
end
section
open PyProof.Rows
end
section
open PyProof.Rows
end
section
open PyProof.Rows
end
theorem BX {M:Model} {s:Ç} {Q:Env→Ç→Prop} (hk:scope.kind=.function) (hy:scope.names.lookup y=À .local)
  (h:∀ env,env=newEnv scope s.heap.objs.size gl (cellsFrom (s.heap.objs.size+1) scope.names []) qual func code Æ bi→∀ s',InCallC s env.locals (bindL env.kindOf [(y,u)] λ_=>Æ) env.cells (bindC env.kindOf [(y,u)] λ_=>Æ) s'→0<s'.toks→Q env s') :
  Û M A (newFunctionEnv scope gl [] [(y,u)] qual func code Æ bi) Q E s:=by
 have e:newFunctionEnv scope gl [] [(y,u)] qual func code Æ bi=(newFunctionEnv scope gl [] [] qual func code Æ bi >>= λenv=>storeName env y u >>= λ_=>pure env):=by simp [newFunctionEnv]
 rw [e];refine Ê (ř hk (by simp) λenv he s1 x=>?_);have Mg:env.kindOf y=À .local:=by subst he;exact hy
 have hks:env.scope.kind=.function:=by subst he;exact hk
 have hlo:env.locals=s.heap.objs.size:=by subst he;rfl
 refine Ê (Ŋ Mg x.toInCall.ns (λh' hns sb=>Ø (h env he _ ⟨⟨?_,?_,λb o eb=>?_,x.toInCall.fresh⟩,λn c ec=>?_,x.apart,x.above⟩ (ð _))) (by rw [hks];rfl))
 ·obtain ⟨h1,tk,e1⟩:=x.toInCall.same;rw [e1];exact ⟨h',tk+1,rfl⟩
 ·have q:(λz=>if z=y then À u else bindL env.kindOf [] (λ_=>Æ) z)=bindL env.kindOf [(y,u)] λ_=>Æ:=by funext z;simp [bindL,Mg]
  rw [← q];exact hns
 ·refine (sb.2 b ?_).trans (x.toInCall.keep b o eb);rw [hlo];exact ã (Ï eb)
 ·have q:=x.cell n c ec;have ne:c≠env.locals:=ŕ (x.above n c (mem_of_lookup ec));have qc:bindC env.kindOf [(y,u)] (λ_=>Æ) n=bindC env.kindOf [] (λ_=>Æ) n:=by simp [bindC,Mg]
  rw [qc];obtain ⟨o,e1,e2⟩:=q;exact ⟨o,(sb.2 c ne).trans e1,e2⟩
section
variable {P:ó} {w:Đ} {K:Å} {mg:Str→Option Ã} {base:Heap} {f:Addr} {fd:FuncData}
theorem Jo {st:Stmt} {k:Nat} {m:List D→M D} (F:A8 K x qual st f fd) (S:iS N [y] (aF st)) (hy:(aF st).names.lookup y=À .local) (hN:N.length=nn) (hm:∀ ds G,m ds G=u6 (cD nn ms ds G))
  (hbody:∀ (X:Cx) (EE:bz) (cdv:Ã) (A:Around) (outer:List Env) (s:Ç) (H:Hp) (E:XK),X=lS (tR P w) P w K mg base N qual (aF st) f cdv A outer s H E→cZ k (A.deeper (ķ qual (aF st) s.heap.objs.size f cdv)) →
   fm X EE→PassesOwn (model P w) X.A X.env X.xe→lq X EE (dS st) ms) :
  jc P w K mg base (tR P w) (k+1) f fd [y] (ir K mg 1 m):=by
 subst hN;obtain ⟨oc,od,kV,doc,pm,an,cdv,ct,osl,rfl,lk,hcd⟩:=F.ex;refine ⟨λvs H Q E h=>h.len,λA outer s H args us vs Q E hr e0 hb r qP=>?_⟩;have hl:=qP.len;obtain ⟨ds,ρ,G,hn,hp,rs,ok⟩:=qP;have KX:K.In s.heap:=e0.mod.GD.keeps λb o e=>(e0.bs b o e).1;have lim:s.heap.NoLimit:=e0.mod.nolimit.keeps λb o e=>(e0.bs b o e).1;have OS:us.length=1:=by rw [← r.length];exact hl
 obtain ⟨u,rfl⟩:=List.length_eq_one_iff.mp OS;refine codeAny_call_function hr.depth (KX _ _ lk) rfl S.co S.gen rfl (R7 KX hcd) (hb _ _ _ _ ?_);refine BX S.kind hy λenv he s1 x htk=>?_;subst he;refine ⟨lim.keeps x.toInCall.keep,codeAny_func ?_⟩;have hB:=hbody _ (λ_ _ _=>False) cdv A outer s H E rfl (hr.deeper _) (λ_ _ _ _ _ _ _ _ _ _ z=>z.elim) So;have I:Inv (lS (tR P w) P w K mg base N qual (aF st) f cdv A outer s H E) [] (L2.start N vs) H s1:=n8 S hr.hd e0 hl r x (n:=s1.toks) htk;have hq:gi K mg (λ_ _ _=>False) ms {nx:=λ_ H'=>Q .dR H',rt:=Q} (L2.start N vs) H:=by
  refine ⟨ds.map À++Ì (N.length - ds.length) Æ,ρ,G,⟨l5 rs,hp⟩,?_⟩;rw [hm] at ok;dsimp only [cD] at ok;cases q:ms (ds.map À++Ì (N.length - ds.length) Æ) G with
  | stuck=>rw [q] at ok;exact ok
  | nx τ G'=>rw [q] at ok;exact λσ' H' ρ' f ab=>ok .dR H' ρ' f ab.hp (by unfold Rep;rfl)
  | rt d G'=>rw [q] at ok;exact λv H' ρ' f hp r=>ok v H' ρ' f hp r
  | bk τ G'=>rw [q] at ok;exact ok.elim
  | ct τ G'=>rw [q] at ok;exact ok.elim
  | xn c τ G'=>rw [q] at ok;exact ok.elim
 refine ê (hB [] s1 (L2.start N vs) H _ I hq) (λfl s' hs=>?_) λe s' hs=>hs
 have fin:∀ {σ':St} {H':Hp} {v:V} {u:Ã},Inv (lS (tR P w) P w K mg base N qual (aF st) f cdv A outer s H E) [] σ' H' s'→RelV v u→Q v H'→CE outer P w H s Q u s':=
  λ{σ' H' v u} J rv q=>⟨v,H',J.os,J.bare,J.base,J.hok,rv,q⟩
 cases fl with
 | ret u=>obtain ⟨v,σ',H',J,rv,q⟩:=hs;exact fin J rv q
 | next=>obtain ⟨σ',H',J,q⟩:=hs;exact fin (v:=V.dR) (u:=Value.none) J rfl q
 | brk=>obtain ⟨_,_,_,q⟩:=hs;exact Ĉ q
 | cont=>obtain ⟨_,_,_,q⟩:=hs;exact Ĉ q
end
structure jQ where
 P:ó
 w:Đ
 K:Å
 mg:Str→Option Ã
 base:Heap
def ie (g:jQ) (x:Str) (k n:Nat) (m:List D→M D):Prop:=∃ f fd ps,j0 g.P g.w g.K g.mg g.base (tR g.P g.w) k f fd ps (ir g.K g.mg n m)∧g.mg x=À (.ref f)∧ö g.K (.ref f)=Á∧Binds g.K fd ps []
def FW (g:jQ) (x:Str):Prop:=∃ f,g.mg x=À (.ref f)
def u7 (x:Str):Bool:=!(x=="__debug__")&&!(x=="__classdict__")
def jX (sc:Scope) (x:Str) (k:NameKind):Bool:=decide (sc.names.lookup x=À k)
def BY (sc:Scope) (N:List Str):List (Option Str):=N.map λx=>if (jX sc x .local||jX sc x .cell||jX sc x .free)=Á then À x else Æ
def FY (c:Bool) (sc:Scope) (N:List Str):List (Option Str):=N.map λx=>if (jX sc x .local||(c&&jX sc x .cell))=Á then À x else Æ
def zz (scope:Scope) (xs N:List Str):List (Option Str):=xs.map À++N.map λx=>if jX scope x .free=Á then À x else Æ
structure Cf (X:Cx) (EE:bz) (g:jQ) (k:Nat) (B:List Str) (sc:Scope) (V W:List (Option Str)):Prop where
 eq:X.prog=g.P∧X.w=g.w∧X.K=g.K∧X.mg=g.mg∧X.base=g.base
 vis:∀ (i:Nat) (x:Str),V[i]?=À (À x)→X.N[i]?=À x∧xu X.env.scope x
 gl:∀ x,jX sc x .globalImplicit=Á→Gl X x
 st:∀ (i:Nat) (x:Str),W[i]?=À (À x)→X.N[i]?=À x∧Loc X.env.scope x∧(X.fn x=Á∨X.env.scope.names.lookup x=À .local)
 bl:∀ b,B.contains b=Á→X.mg b=Æ
 hx:fm X EE
 hr:cZ k X.A
 hc:X.calm=Á
structure Cs (X:Cx) (sc:Scope) (N:List Str):Prop where
 nd:X.N.Nodup
 hf:rq X
 po:PassesOwn (model X.prog X.w) X.A X.env X.xe
 hs:X.env.scope=sc
 hN:X.N=N
 bk:(X.env.blockKind==.function)=Á
 stk:X.stack=X.env::X.outer
 ex:X.ex=[]
theorem aW {a:Bool} (h:(a&&b)=Á):a=Á∧b=Á:=by simpa using h
theorem iJ (h:u7 x=Á):DN x:=by obtain ⟨h1,h2⟩:=aW h;exact ⟨by simpa using h1,by simpa using h2⟩
theorem map_some {α:Type} {f:α→Bool} {l:List α} {x:α} (h:(l.map λx=>if f x=Á then À x else Æ)[i]?=À (À x)):l[i]?=À x∧f x=Á:=by
 rw [å] at h;cases e:l[i]? with
 | none=>rw [e] at h;cases h
 | some y=>
  rw [e] at h;dsimp only [Option.map] at h;by_cases q:f y=Á
  ·rw [if_pos q] at h;cases h;exact ⟨rfl,q⟩
  ·rw [if_neg q] at h;cases h
theorem jh {k:NameKind} (h:jX sc x k=Á):sc.names.lookup x=À k:=of_decide_eq_true h
section
variable {X:Cx} {EE:bz} {g:jQ} {k k' n i j:Nat} {B N xs:List Str} {sc scope:Scope} {V W:List (Option Str)} {x y:Str} {pos p px py:Pos} {e a b elt tg iter:Expr} {es ifs:List Expr} {m:DS→M (List D)} {ma te:DS→M D} {mf:List D→M D} {ks:List Bool} {gO:D→Option (List D)} {tt:DS→M Bool} {mi:MI}
theorem Cf.hu (c:Cf X EE g k B sc V W):X.A.units+600<cLine:=BA c.hr
theorem Cf.Nq (c:Cf X EE g k B sc V W) (h:(decide (V[i]?=À (À x))&&u7 x)=Á):(X.N[i]?=À x∧xu X.env.scope x)∧DN x:=⟨c.vis i x (of_decide_eq_true (aW h).1),iJ (aW h).2⟩
theorem BZ (c:Cf X EE g k B sc V W) (h:(decide (V[i]?=À (À x))&&u7 x)=Á):QE X EE (.Name x pos) (af i):=by obtain ⟨⟨h1,h2⟩,h3⟩:=c.Nq h;exact yM i h2 h3 h1
theorem ie.at (c:Cf X EE g k B sc V W) (C:ie g x k' n mf) (h:k'≤k):∃ f fd ps,j0 X.prog X.w X.K X.mg X.base (tR X.prog X.w) k' f fd ps (ir X.K X.mg n mf)∧cZ k' X.A∧X.mg x=À (.ref f)∧ö X.K (.ref f)=Á∧Binds X.K fd ps []:=by obtain ⟨f,fd,ps,h1,h2,h3,h4⟩:=C;have r:=c.hr.mono h;obtain ⟨e1,e2,e3,e4,e5⟩:=c.eq;rw [e1,e2,e3,e4,e5];exact ⟨f,fd,ps,h1,r,h2,h3,h4⟩
theorem rJ (c:Cf X EE g k B sc V W) (C:ie g x k' n mf) (h:(decide (k'≤k)&&(jX sc x .globalImplicit&&(u7 x&&ay (e::es))))=Á) (ha:QA X EE (e::es) m):QE X EE (.Call (.Name x p) (e::es) [] pos) (aA n mf m):=by obtain ⟨h1,h⟩:=aW h;obtain ⟨h2,h⟩:=aW h;obtain ⟨h3,h4⟩:=aW h;obtain ⟨f,fd,ps,q1,q2,q3,q4,q5⟩:=C.at c (of_decide_eq_true h1);exact BE q1 q2 q3 q4 q5 (Ik c.hx) (c.gl x h2) (iJ h3) ha h4
theorem t7 (c:Cf X EE g k B sc V W) (C:FW g x) (h:(jX sc x .globalImplicit&&u7 x)=Á):QE X EE (.Name x pos) (eC (.fn x)):=by obtain ⟨h2,h3⟩:=aW h;obtain ⟨f,hf⟩:=C;exact ID (f:=f) (by rw [c.eq.2.2.2.1];exact hf) (c.gl x h2) (iJ h3)
def wu (g:jQ) (k n:Nat):List (Str×(List D→M D))→Prop
 | []=>True
 | q::r=>(∃ k',ie g q.1 k' n q.2∧k'≤k)∧wu g k n r
theorem wu.at (c:Cf X EE g k B sc V W):∀ {l:List (Str×(List D→M D))},wu g k n l→Fy (tR X.prog X.w) X n l
 | [],h=>trivial
 | q::r,⟨⟨k',h1,h2⟩,hr⟩=>by obtain ⟨f,fd,ps,q1,q2,q3,q4,q5⟩:=h1.at c h2;exact ⟨⟨k',f,fd,ps,q1,q2,q3,q4,q5⟩,wu.at c hr⟩
theorem wz (c:Cf X EE g k B sc V W) (C:wu g k n l) (h:((decide (V[i]?=À (À x))&&u7 x)&&ay (e::es))=Á) (ha:QA X EE (e::es) m):QE X EE (.Call (.Name x p) (e::es) [] pos) (mH i n (λy=>ï y l) m):=by obtain ⟨h1,h⟩:=aW h;obtain ⟨⟨q1,q2⟩,q3⟩:=c.Nq h1;exact yS q1 q2 q3 (IG (C.at c)) (Ik c.hx) ha h
theorem Cf.Mh (c:Cf X EE g k B sc V W) (h:decide (W[i]?=À (À x))=Á):X.N[i]?=À x∧Loc X.env.scope x∧(X.fn x=Á∨X.env.scope.names.lookup x=À .local):=c.st i x (of_decide_eq_true h)
theorem B0 (c:Cf X EE g k B sc V W) (s:Cs X scope N) (h:(decide (W[i]?=À (À x))&&pN a)=Á) (he:QE X EE a ma):QS X EE (.Assign [.Name x px] a pos) (aY i ma):=by obtain ⟨h1,h2⟩:=aW h;obtain ⟨q1,q2,q3⟩:=c.Mh h1;exact Fo s.nd q2 he q3 q1 h2
theorem zA (c:Cf X EE g k B sc V W) (s:Cs X scope N) (h:decide (W[i]?=À (À x))=Á):QG X (.Name x pos) (gN i):=by obtain ⟨q1,q2,q3⟩:=c.Mh h;exact BG s.nd q2 q3 q1
def Jp (tg:Expr) (xs:List Str) (gO:D→Option (List D)):Prop:=(∃ x p,tg=.Name x p∧xs=[x]∧gO=oN)∨∃ x y p q k r,tg=.Tuple [.Name x p,.Name y q] k r∧xs=[x,y]∧gO=oT 2
theorem Nr {q:Pos}:Jp (.Name x q) [x] oN:=.inl ⟨_,_,rfl,rfl,rfl⟩
theorem Nt {q r:Pos} {k:Nat}:Jp (.Tuple [.Name x p,.Name y q] k r) [x,y] (oT 2):=.inr ⟨_,_,_,_,_,_,rfl,rfl,rfl⟩
theorem zB (c:X.calm=Á) (h:Jp tg xs gO) (S:bA X.env.scope X.N scope xs ks):∃ ow,Own X scope xs ks tg ow∧j8 X.K X.mg ow gO:=by
 rcases h with ⟨x,p,rfl,rfl,rfl⟩ | ⟨x,y,p,q,k,r,rfl,rfl,rfl⟩
 ·exact ⟨_,yF S,vW⟩
 ·exact ⟨_,yG c S,yI⟩
instance {a:Scope} {N:List Str} {b:Scope} {xs:List Str} {ks:List Bool}:Decidable (bA a N b xs ks):=
 decidable_of_iff (xs.Nodup∧b.kind=.function∧(∀ y∈b.names,y.2≠.cell)∧(∀ y∈b.names,y.2=.local→b.names.lookup y.1=À .local)∧(∀ x∈xs,b.names.lookup x=À .local)∧(∀ y∈b.names,y.2=.free→a.names.lookup y.1=À .cell∨a.names.lookup y.1=À .free)∧((ks.zip N).all λp=>!p.1||decide (b.names.lookup p.2=À .free))=Á)
  ⟨λzz=>by obtain ⟨a,b,c,d,e,f,g⟩:=zz;exact ⟨a,b,c,d,e,f,g⟩,λzz=>by obtain ⟨a,b,c,d,e,f,g⟩:=zz;exact ⟨a,b,c,d,e,f,g⟩⟩
theorem lE (c:Cf X EE g k B sc V W) (s:Cs X sc N) (S:bA X.env.scope X.N scope xs ks) (hx:fm (jG X scope cl xs C pins s0 H0 fp E) yy) :
  Cf (jG X scope cl xs C pins s0 H0 fp E) yy g k B scope (zz scope xs N) []:=by
 refine ⟨c.eq,λi x h=>?_,λx h=>BJ (jh h),λi x h=>by simp at h,c.bl,hx,c.hr,c.hc⟩;unfold zz at h;by_cases q:i<xs.length
 ·rw [Ñ (by simpa using q),å] at h;cases e:xs[i]? with
  | none=>rw [e] at h;cases h
  | some z=>rw [e] at h;cases h;exact ⟨by show (xs++X.N)[i]?=À x;rw [Ñ q,e],Fq S (û e)⟩
 ·rw [Ú (by simpa using q),ý] at h;obtain ⟨h1,h2⟩:=map_some h;exact ⟨by show (xs++X.N)[i]?=À x;rw [Ú (by nofun),s.hN,h1],BI S (jh h2)⟩
def Jq (g:jQ) (k:Nat) (B:List Str) (scope:Scope) (xs N:List Str) (ifs:List Expr) (elt:Expr) (tt:DS→M Bool) (te:DS→M D):Prop:=
 ∀ (X:Cx) (EE:bz),Cf X EE g k B scope (zz scope xs N) []→(match ifs with
  | []=>tt=gF
  | [c]=>QT X EE c tt
  | _=>False)∧QE X EE elt te
theorem Mi (h:∀ (X:Cx) (EE:bz),Cf X EE g k B scope (zz scope xs N) []→QE X EE elt te):Jq g k B scope xs N [] elt gF te:=λX EE c=>⟨rfl,h X EE c⟩
theorem Mj (h:∀ (X:Cx) (EE:bz),Cf X EE g k B scope (zz scope xs N) []→QT X EE a tt∧QE X EE elt te):Jq g k B scope xs N [a] elt tt te:=h
theorem rK (c:Cf X EE g k B sc V W) (s:Cs X sc N) (S:bA X.env.scope X.N scope xs ks) (h:Jq g k B scope xs N ifs elt tt te):mz X scope xs ifs elt tt te:=by
 match ifs,h with
 | [],h=>have e:tt=gF:=(h _ _ (lE (cl:=[]) (C:=0) (pins:=[]) (s0:=X.s₀) (H0:=X.H₀) (fp:=[]) (E:=λ_ _=>True) (yy:=EE) c s S (λ_ _ _ _ _ _ _ _ _ _ _=>trivial))).1;subst e;exact vZ λcl C pins s0 H0 fp E1 OU hx=>(h _ _ (lE c s S hx)).2
 | [_],h=>exact v5 λcl C pins s0 H0 fp E1 OU hx=>h _ _ (lE c s S hx)
 | _::_::_,h=>exact ((h _ _ (lE (cl:=[]) (C:=0) (pins:=[]) (s0:=X.s₀) (H0:=X.H₀) (fp:=[]) (E:=λ_ _=>True) (yy:=EE) c s S (λ_ _ _ _ _ _ _ _ _ _ _=>trivial))).1).elim
theorem Cs.S (s:Cs X sc N) (h:bA sc N scope xs ks):bA X.env.scope X.N scope xs ks:=by rw [s.hs,s.hN];exact h
theorem rL (c:Cf X EE g k B sc V W) (s:Cs X sc N) (t:Jp tg xs gO) (S:bA sc N scope xs ks) (h:jl iter=Á) (ha:QE X EE iter ma) (hb:Jq g k B scope xs N ifs elt tt te):QE X EE (.ListComp elt [⟨tg,iter,ifs,0⟩] scope pos) (kI gO ks ma tt te):=by obtain ⟨_,o1,o2⟩:=zB c.hc t (s.S S);exact BH c.hx s.hf (s.S S) o1 o2 c.hc ha (rK c s (s.S S) hb) h
def Nu (W:List (Option Str)) (sc scope:Scope) (i:Nat) (y:Str) (py pos:Pos):Bool:=(decide (W[i]?=À (À y))&&jX sc y .local)&&((py.line==pos.line)&&!(scope.names.any λx=>x.1==y&&(x.2==.local||x.2==.cell)))
theorem Cf.sw {l:Nat} (c:Cf X EE g k B sc V W) (s:Cs X sc N) (h:Nu W sc scope i y py pos=Á):X.env.scope.names.lookup y=À .local∧swapsWith (.ListComp elt gens scope pos) (À (.Name y py)) l X.env=pure Á∧X.N[i]?=À y:=by
 obtain ⟨h1,h2⟩:=aW h;have hl:X.env.scope.names.lookup y=À .local:=by rw [s.hs];exact jh (aW h1).2
 exact ⟨hl,we s.bk hl (aW h2).1 (by simpa using (aW h2).2),(c.Mh (aW h1).1).1⟩
theorem mT (c:Cf X EE g k B sc V W) (s:Cs X sc N) (t:Jp tg xs gO) (S:bA sc N scope xs ks) (h:(Nu W sc scope i y py pos&&(B.contains "range"&&(jX sc "range" .globalImplicit&&bQ a)))=Á) (ha:QA X EE [a] m) (hb:Jq g k B scope xs N ifs elt tt te):QS X EE (.Assign [.Name y py] (.ListComp elt [⟨tg,.Call (.Name "range" p) [a] [] px,ifs,0⟩] scope pos) spos) (aY i (gx fk gO ks m tt te)):=by obtain ⟨_,o1,o2⟩:=zB c.hc t (s.S S);obtain ⟨w1,w2,w3⟩:=c.sw s (aW h).1;exact wc c.hx s.hf (s.S S) o1 o2 c.hc s.nd w1 (c.bl _ (aW (aW h).2).1) (c.gl _ (aW (aW (aW h).2).2).1) ha (rK c s (s.S S) hb) w2 w3 (aW (aW (aW h).2).2).2
end
theorem B3 {p:List Ã→Prop} (h:∀ a0,p [a0]):∀ us:List Ã,us.length=1→p us:=λus e=>by rcases us with _ | ⟨a0,_ | ⟨z,zs⟩⟩<;>first | exact h a0 | (cases e;done)
theorem FZ {p:List Ã→Prop} (h:∀ a0 a1,p [a0,a1]):∀ us:List Ã,us.length=2→p us:=λus e=>by rcases us with _ | ⟨a0,_ | ⟨a1,_ | ⟨z,zs⟩⟩⟩<;>first | exact h a0 a1 | (cases e;done)
theorem F0 {p:List Ã→Prop} (h:∀ a0 a1 a2,p [a0,a1,a2]):∀ us:List Ã,us.length=3→p us:=λus e=>by rcases us with _ | ⟨a0,_ | ⟨a1,_ | ⟨a2,_ | ⟨z,zs⟩⟩⟩⟩<;>first | exact h a0 a1 a2 | (cases e;done)
theorem F1 {p:List Ã→Prop} (h:∀ a0 a1 a2 a3,p [a0,a1,a2,a3]):∀ us:List Ã,us.length=4→p us:=λus e=>by rcases us with _ | ⟨a0,_ | ⟨a1,_ | ⟨a2,_ | ⟨a3,_ | ⟨z,zs⟩⟩⟩⟩⟩<;>first | exact h a0 a1 a2 a3 | (cases e;done)
abbrev zC:=Str×Nat×List Str×Stmt
def t8 (K:Å) (mg:Str→Option Ã) (x:Str) (n:Nat) (N:List Str) (st:Stmt):Prop:=∃ f fd,A8 K x x st f fd∧mg x=À (.ref f)
def jR (K:Å) (mg:Str→Option Ã):List zC→Prop
 | []=>True
 | (x,n,N,st)::r=>t8 K mg x n N st∧jR K mg r
section
variable {K:Å} {mg:Str→Option Ã} {h:Heap} {x:Str} {n:Nat} {N:List Str} {st:Stmt}
theorem jR.at:∀ {l:List zC} (T:jR K mg l) (i:Nat) {x:Str} {n:Nat} {N:List Str} {st:Stmt},l[i]?=À (x,n,N,st)→t8 K mg x n N st
 | d::l,T,0,_,_,_,_,h=>by cases h;exact T.1
 | d::l,T,i+1,_,_,_,_,h=>jR.at T.2 i (by simpa using h)
theorem jR.cons {l:List zC} (X:K.In h) (G:h.Ns mainGlobals mg) {f:Addr} {od an:Option Addr} {sl:Array (Option Ã)} {oc kV dc pm cd ct:Ã} (a:ė K mainGlobals x=À (À (.ref f)))
  (l0:K.lookup f=À ⟨oc,od,.func (Ĝ x x (gQ st) (dS st) (aF st) .none kV dc pm an cd ct),sl⟩) (c:ń K cd x=Á) (k:ö K (.ref f)=Á) (r:jR K mg l):jR K mg ((x,n,N,st)::l):=⟨⟨f,_,Eh l0 c k,ŭ X G a⟩,r⟩
def iK (mg:Str→Option Ã):List Str→Prop
 | []=>True
 | x::r=>mg x=Æ∧iK mg r
theorem iK.cons {l:List Str} (X:K.In h) (G:h.Ns mainGlobals mg) (a:ė K mainGlobals x=À Æ) (r:iK mg l):iK mg (x::l):=⟨PySem.W.mg_none_of X G a,r⟩
theorem iK.at:∀ {l:List Str},iK mg l→∀ b,l.contains b=Á→mg b=Æ
 | x::l,T,b,h=>by
  rw [List.contains_cons] at h;cases e:b==x with
  | true=>rw [eq_of_beq e];exact T.1
  | false=>rw [e] at h;exact iK.at T.2 b (by simpa using h)
end
section
variable {g:jQ} {k n nn:Nat} {x:Str} {N B ps:List Str} {st:Stmt} {ms:MS} {me:DS→M D} {m:List D→M D} {c:lV}
def zD (st:Stmt) (x:Str) (ps:List Str):Prop:=∀ (kV doc pm:Ã) (an:Option Addr) (cdv ct:Ã) (us:List Ã),us.length=ps.length→bindArgs (Ĝ x x (gQ st) (dS st) (aF st) .none kV doc pm an cdv ct) ⟨us,[]⟩=pure (ps.zip us)
theorem F2 (h:(BY sc N)[i]?=À (À x)):N[i]?=À x∧xu sc x:=by
 obtain ⟨h1,h2⟩:=map_some (f:=λx=>jX sc x .local||jX sc x .cell||jX sc x .free) h;refine ⟨h1,?_⟩;simp only [ž] at h2;rcases h2 with (h2 | h2) | h2
 ·exact .inl (jh h2)
 ·exact .inr (.inl (jh h2))
 ·exact .inr (.inr (jh h2))
theorem zE {f:Addr} {s:Ç} {E:XK} (hB:iK mg B)
  (hr:cZ k (A.deeper (ķ x sc s.heap.objs.size f cdv))) (hx:fm (lS (tR P w) P w K mg base N x sc f cdv A outer s H E) EE):Cf (lS (tR P w) P w K mg base N x sc f cdv A outer s H E) EE ⟨P,w,K,mg,base⟩ k B sc (BY sc N) (FY Á sc N):=by
 refine ⟨⟨rfl,rfl,rfl,rfl,rfl⟩,λi x h=>F2 h,λx h=>jh h,λi x h=>?_,hB.at,hx,hr,rfl⟩;obtain ⟨h1,h2⟩:=map_some (f:=λx=>jX sc x .local||(Á&&jX sc x .cell)) h;refine ⟨h1,?_,.inl rfl⟩;simp only [ž,Bool.true_and] at h2;exact h2.imp jh jh
theorem Dj (h:sc.kind=.function):((if sc.kind.isAnnotationScope then Sf else sc.kind)==Sf)=Á:=by rw [h];rfl
theorem pZ (Dd:t8 g.K g.mg x n N st) (hB:iK g.mg B) (S:iS N (N.take n) (aF st)) (hps:(N.take n).length=n) (hN:N.length=nn) (hb:zD st x (N.take n))
  (body:∀ (X:Cx) (EE:bz),Cf X EE g k B (aF st) (BY (aF st) N) (FY Á (aF st) N)→Cs X (aF st) N→lq X EE (dS st) ms):ie g x (k+1) n (λds=>cD nn ms ds):=by
 obtain ⟨f,fd,F,hm⟩:=Dd;refine ⟨f,fd,_,N1 (k:=k) (ms:=ms) F S hps hN (λ_=>rfl) ?_,hm,F.kp,F.binds hb⟩;intro X EE cdv A outer s H E hX hr hx Ml;subst hX;exact body _ EE (zE hB hr hx) ⟨S.nd,⟨_,outer,s.heap.objs.size,rfl,rfl,rfl⟩,Ml,rfl,rfl,Dj S.kind,rfl,rfl⟩
theorem ie.pure (h:ie g x k n m):ie g x k n (aZ m):=by obtain ⟨f,fd,ps,h1,h2⟩:=h;exact ⟨f,fd,ps,h1.imp u0,h2⟩
theorem t8.has (h:t8 g.K g.mg x n N st):FW g x:=by obtain ⟨f,_,_,h⟩:=h;exact ⟨f,h⟩
theorem zF {f:Addr} (F:A8 g.K x x st f fd) (hB:iK g.mg B) (S:iS N [y] (aF st)) (hy:(aF st).names.lookup y=À .local) (hN:N.length=nn)
  (body:∀ (X:Cx) (EE:bz),Cf X EE g k B (aF st) (BY (aF st) N) (FY Á (aF st) N)→Cs X (aF st) N→lq X EE (dS st) ms):jc g.P g.w g.K g.mg g.base (tR g.P g.w) (k+1) f fd [y] (ir g.K g.mg 1 (aZ λds G=>u6 (cD nn ms ds G))):=by
 refine jc.imp (Jo (k:=k) (ms:=ms) F S hy hN (λ_ _=>rfl) ?_) u0;intro X EE c A outer s H E hX hr hx Ml;subst hX;exact body _ EE (zE hB hr hx) ⟨S.nd,⟨_,outer,s.heap.objs.size,rfl,rfl,rfl⟩,Ml,rfl,rfl,Dj S.kind,rfl,rfl⟩
theorem wB {f:Addr} (F:A8 K x x st f fd) (hb:zD st x [y]) (s:Ç) (u:Ã):BindsTo s fd ⟨[u],[]⟩ [(y,u)]:=by obtain ⟨oc,od,kV,doc,pm,an,cdv,ct,osl,rfl,lk,hcd⟩:=F.ex;exact .of_eq (hb kV doc pm an cdv ct [u] rfl)
structure Hl (X:Cx) (EE:bz) (k:lV) (y:Str) (js:List Nat):Prop where
 tx:∃ cs c P,Jm X k y js cs c P
 hx:fm (Cx.held X k.names) EE
 hq:X.env.qual=y++".<locals>."
end
def qL (o:Obj):Bool:=match o.cls,o.data with
 | .none,.fields _=>Â
 | _,_=>Á
abbrev fK (K:Params→Å) (P:Params):Å:=(K P).filter λp=>qL p.2
section
variable {K:Å}
theorem iL {a:Addr} {o:Obj} (ht:qL o=Á):∀ {K:Å},K.lookup a=À o→(K.filter λp=>qL p.2).lookup a=À o
 | (b,u)::K,h=>by
  rw [æ] at h;by_cases e:a=b
  ·subst e;rw [show (a==a)=Á by simp] at h;cases h;rw [ł (by exact ht),æ,show (a==a)=Á by simp]
  ·have e':(a==b)=Â:=beq_eq_false_iff_ne.mpr e;rw [e'] at h;have ih:=iL ht h;by_cases q:qL u=Á
   ·rw [ł (by exact q),æ,e'];exact ih
   ·rw [Ŵ (by exact q)];exact ih
theorem zG:qL ⟨oc,od,.func fd,sl⟩=Á:=by cases oc<;>rfl
theorem zH {es:Array DictEntry}:qL ⟨oc,od,.dict es ep,sl⟩=Á:=by cases oc<;>rfl
theorem bG {ns:Addr} {r:Option Ã} (h:ė K ns x=À r):ė (K.filter λp=>qL p.2) ns x=À r:=by
 unfold ė at h ⊢;cases e:K.lookup ns with
 | none=>rw [e] at h;cases h
 | some o=>
  rw [e] at h;obtain ⟨oc,od,dt,sl⟩:=o;cases dt with
  | dict es ep=>rw [iL zH e];exact h
  | _=>cases h
variable {mg:Str→Option Ã} {h:Heap} {x:Str} {n:Nat} {N:List Str} {st:Stmt}
theorem jR.zI {l:List zC} (X:ī (K.filter λp=>qL p.2) h) (G:h.Ns mainGlobals mg) {f cA:Addr} {od an o2:Option Addr} {sl s2:Array (Option Ã)} {oc kV dc pm ct v0:Ã} {T:String} {tk:Tok} {vs:Array Ã} {rest:List Ã} (a:ė K mainGlobals x=À (À (.ref f)))
  (l0:K.lookup f=À ⟨oc,od,.func (Ĝ x x (gQ st) (dS st) (aF st) .none kV dc pm an (.ref cA) ct),sl⟩) (lc:K.lookup cA=À ⟨.type T,o2,.fields vs,s2⟩) (hv:vs.toList=v0::.str x tk::rest) (r:jR (K.filter λp=>qL p.2) mg l):jR (K.filter λp=>qL p.2) mg ((x,n,N,st)::l):=by
 have l1:=iL zG l0;have l2:=iL (show qL ⟨.type T,o2,.fields vs,s2⟩=Á from rfl) lc;refine jR.cons X G (bG a) l1 ?_ ?_ r
 ·unfold ń;dsimp only;rw [l2];dsimp only;rw [hv];simp
 ·unfold ö;dsimp only;rw [l1]
theorem iK.zI {l:List Str} (X:ī (K.filter λp=>qL p.2) h) (G:h.Ns mainGlobals mg) (a:ė K mainGlobals x=À Æ) (r:iK mg l):iK mg (x::l):=iK.cons X G (bG a) r
end
theorem zJ {a:Addr} {o:Obj}:∀ {K:Å},K.lookup a=À o→(a,o)∈K
 | (b,u)::K,h=>by
  rw [æ] at h;by_cases e:a=b
  ·subst e;rw [show (a==a)=Á by simp] at h;cases h;simp
  ·rw [show (a==b)=Â from beq_eq_false_iff_ne.mpr e] at h;exact Ù _ (zJ h)
theorem zK {q:ó} {K:Params→Å} {t:Nat} {r:PySem.W.RowW} {d:DefRec} {run:Ã→List Ã→Sem Ã} (has:∀ P,as=(K P).map (·.1))
  (h:R4 q loose XP (λw h=>ī (fK K w.params) h) r d kwd run):PySem.W.WalkX q loose XP (PySem.W.X.obsZ as) (PySem.W.X.valZ K n t) r d kwd run:=by
 intro w s₀ s₁ mg mb G e a o pm cd doc dV kV h1 h2 h3 h4 h5 h6 args vals as' L p1 p2 p3 p4 p5;refine h w s₀ s₁ mg mb G (λb u hb=>?_) a o pm cd doc dV kV h1 h2 h3 h4 h5 h6 args vals as' p1 p2 p3 p4 p5;have hm:=(Ļ.mp (zJ hb)).1;have e1:as.map s₀.heap.get?=(K w.params).map λp=>À p.2:=congrArg (·.1) e;rw [has w.params,ň] at e1;exact L.keeps b u (List.map_inj_left.mp e1 (b,u) hm)
section
variable {X:Cx} {EE:bz} {g:jQ} {k n i:Nat} {B N:List Str} {sc:Scope} {Vs W:List (Option Str)} {x:Str} {pos p px np cpos pt apos:Pos} {e a:Expr} {es:List Expr} {m:DS→M (List D)} {ma:DS→M D} {iy:List (Str×Bool)}
theorem Cf.to (c:Cf X EE g k B sc Vs W) (hx:fm (Cx.to X E' pn) yy):Cf (Cx.to X E' pn) yy g k B sc Vs W:=⟨c.eq,c.vis,c.gl,c.st,c.bl,hx,c.hr,c.hc⟩
theorem Cs.to (s:Cs X sc N) (h:PassesOwn (model X.prog X.w) X.A X.env E'):Cs (Cx.to X E' pn) sc N:=⟨s.nd,s.hf,h,s.hs,s.hN,s.bk,s.stk,s.ex⟩
structure Ch (X:Cx) (g:jQ) (B:List Str) (sc:Scope) (Vs:List (Option Str)):Prop where
 eq:X.K=g.K∧X.mg=g.mg
 vis:∀ (i:Nat) (x:Str),Vs[i]?=À (À x)→X.N[i]?=À x∧xu X.env.scope x
 gl:∀ x,jX sc x .globalImplicit=Á→Gl X x
 bl:∀ b,B.contains b=Á→X.mg b=Æ
structure Ck (X:Cx) (g:jQ) (B:List Str) (sc:Scope) (N:List Str) (Vs:List (Option Str)):Prop where
 h:Ch X g B sc Vs
 nd:X.N.Nodup
 hs:X.env.scope=sc
 hN:X.N=N
 ex:X.ex=[]
theorem B4 (c:Ch X g B sc Vs) (h:(decide (Vs[i]?=À (À x))&&u7 x)=Á):QE X EE (.Name x pos) (af i):=by obtain ⟨h1,h2⟩:=aW h;obtain ⟨q1,q2⟩:=c.vis i x (of_decide_eq_true h1);exact yM i q2 (iJ h2) q1
theorem B5 {mb me:MS} (c:Cf X EE g k B sc Vs W) (s:Cs X sc N)
  (hb:∀ (X:Cx) (EE:bz),Cf X EE g k B sc Vs W→Cs X sc N→lq X EE body mb) (hh:∀ (X:Cx) (EE:bz),Ck X g B sc N Vs→QH X EE (h0::hs) mh) (he:lq X EE orelse me):QS X EE (.Try body (h0::hs) orelse [] pos) (rj mb mh me):=by
 obtain ⟨eZ,eL,L,f1,f2,f3⟩:=s.hf;exact E3 s.stk ⟨L,f2.trans f3⟩ (λE' pn yy hx hp=>hb _ _ (c.to hx) (s.to hp)) (λpn=>hh _ _ ⟨⟨⟨c.eq.2.2.1,c.eq.2.2.2.1⟩,c.vis,c.gl,c.bl⟩,s.nd,s.hs,s.hN,s.ex⟩) he
def t9 (g:jQ) (x:Str) (iy:List (Str×Bool)):Prop:=∃ cv,g.mg x=À cv∧∀ n b cls,iy.lookup n=À b→g.mg n=À cls→Ŝ g.K cls cv=À b
theorem zL {b0:Stmt} {rest:List ExceptHandler} {m:MS} (c:Ck X g B sc N Vs) (C:t9 g x iy) (h:(jX sc x .globalImplicit&&u7 x)=Á)
  (hb:∀ (X:Cx),Ch X g B sc Vs→lq X J6 (b0::suite) m) (hr:QH X EE rest mr):QH X EE (.ExceptHandler (À (.Name x np)) Æ (b0::suite) pos::rest) (ri (λn=>iy.lookup n) m mr):=by
 obtain ⟨cv,h1,h2⟩:=C;exact Bv (by rw [c.h.eq.2];exact h1) (by rw [c.h.eq.1,c.h.eq.2];exact h2) (c.h.gl x (aW h).1) (iJ (aW h).2).1 (λe=>hb _ ⟨c.h.eq,c.h.vis,c.h.gl,c.h.bl⟩) hr
theorem wC {nn:Str} {b0:Stmt} {rest:List ExceptHandler} {m:MS} (c:Ck X g B sc N Vs) (C:t9 g x iy) (h:((jX sc x .globalImplicit&&u7 x)&&(decide (N[i]?=À nn)&&jX sc nn .local))=Á)
  (hb:∀ (X:Cx),Ch X g B sc Vs→lq X J6 (b0::suite) m) (hr:QH X EE rest mr):QH X EE (.ExceptHandler (À (.Name x np)) (À nn) (b0::suite) pos::rest) (l8 (λn=>iy.lookup n) i m mr):=by
 obtain ⟨cv,h1,h2⟩:=C;obtain ⟨ha,hc⟩:=aW h;exact yD (by rw [c.h.eq.2];exact h1) (by rw [c.h.eq.1,c.h.eq.2];exact h2) (c.h.gl x (aW ha).1) (iJ (aW ha).2).1 c.ex c.nd (by rw [c.hN];exact of_decide_eq_true (aW hc).1) (by rw [c.hs];exact jh (aW hc).2) (λe=>hb _ ⟨c.h.eq,c.h.vis,c.h.gl,c.h.bl⟩) hr
def jx (g:jQ) (x:Str) (iy:List (Str×Bool)):Prop:=∃ cv,g.mg x=À cv∧∀ c b cw,iy.lookup c=À b→g.mg c=À cw→∃ C P,cw=.ref C∧Nonempty (nH g.K C P)∧Ĕ g.K cw cv=À b
def GP (g:jQ) (T:String) (iy:List (Str×Bool)):Prop:=∀ c b cw,iy.lookup c=À b→g.mg c=À cw→∃ C P,cw=.ref C∧Nonempty (nH g.K C P)∧Ĕ g.K cw (.type T)=À b
theorem B6 (c:Ch X g B sc Vs) (C:jx g x iy) (h:((B.contains "isinstance"&&jX sc "isinstance" .globalImplicit)&&((jX sc x .globalImplicit&&u7 x)&&bQ a))=Á) (ha:QE X EE a ma):QE X EE (.Call (.Name "isinstance" p) [a,.Name x pt] [] pos) (pP (gW λy=>iy.lookup y) ma):=by obtain ⟨cv,h1,h2⟩:=C;obtain ⟨q1,q2⟩:=aW h;obtain ⟨q3,q4⟩:=aW q2;exact Fw (c.bl _ (aW q1).1) (by rw [c.eq.2];exact h1) (by rw [c.eq.1,c.eq.2];exact h2) (c.gl _ (aW q1).2) (c.gl _ (aW q3).1) (iJ (aW q3).2).1 ha q4
theorem B7 (c:Ch X g B sc Vs) (C:GP g T iy) (LN:bootBuiltins x=À (.type T)) (h:(((B.contains "isinstance"&&jX sc "isinstance" .globalImplicit)&&((jX sc x .globalImplicit&&u7 x)&&bQ a))&&(B.contains x&&!(x=="__name__")))=Á) (ha:QE X EE a ma):QE X EE (.Call (.Name "isinstance" p) [a,.Name x pt] [] pos) (pP (gW λy=>iy.lookup y) ma):=by obtain ⟨h,h'⟩:=aW h;obtain ⟨q1,q2⟩:=aW h;obtain ⟨q3,q4⟩:=aW q2;exact Fx (c.bl _ (aW q1).1) (c.bl _ (aW h').1) LN (by rw [c.eq.1,c.eq.2];exact C) (c.gl _ (aW q1).2) (c.gl _ (aW q3).1) (by have:=(aW h').2;simpa using this) (iJ (aW q3).2).1 ha q4
def F3 (g:jQ) (x:Str):Prop:=∃ C,g.mg x=À (.ref C)∧ŏ g.K C vS "ValueError.__new__"=Á
theorem wD (c:Cf X EE g k B sc Vs W) (C:F3 g x) (h:((jX sc x .globalImplicit&&u7 x)&&ay (e::es))=Á) (ha:QA X EE (e::es) m):QS X EE (.Raise (À (.Call (.Name x np) (e::es) [] cpos)) Æ pos) (cy x m):=by obtain ⟨Ca,h1,h2⟩:=C;exact yP c.hc c.hx (by rw [c.eq.2.2.2.1];exact h1) (by rw [c.eq.2.2.1];exact h2) (c.gl x (aW (aW h).1).1) (iJ (aW (aW h).1).2) ha (aW h).2
theorem zM (c:Cf X EE g k B sc Vs W) (C:gC g.K g.mg x d) (h:(jX sc x .globalImplicit&&u7 x)=Á):QE X EE (.Name x pos) (eC d):=BC (by rw [c.eq.2.2.1,c.eq.2.2.2.1];exact C) (c.gl x (aW h).1) (iJ (aW h).2)
def fW (K:Å) (mg:Str→Option Ã) (x:Str) (ds:List Str):Prop:=∃ (q:Addr) (o:Obj) (its:Array Ã) (n:Nat),mg x=À (.ref q)∧K.lookup q=À o∧o.cls=.type "tuple"∧o.dict=Æ∧o.data=.seq its n∧its.size≤Ä∧Vals (ds.map V.str) its.toList
theorem fW.has {ds:List Str} (C:fW g.K g.mg x ds):FW g x:=by obtain ⟨q,_,_,_,h,_⟩:=C;exact ⟨q,h⟩
def fF (c:Str) (ds:List Str) (neg:Bool) (d e:D):M D:=λG=>match e with
 | .fn y=>if y=c then match tG d (ds.map D.str) G with
  | some b=>.ok (.bl (neg ^^ b)) G
  | none=>.stuck
  else .stuck
 | _=>.stuck
theorem zN {ds:List Str} {neg:Bool} {s:Ç} {e:D} {vx vy:V} {v:Ã} {Q:VK} (C:fW X.K X.mg x ds) (I:Inv X pins σ0 H s) (rx:RelV vx v) (ry:RelV vy u) (ab:Ab X.K X.mg σ H τ ρ G) (r1:Rep X.K X.mg ρ H d vx) (r2:Rep X.K X.mg ρ H e vy)
  (ok:gR X.K X.mg EE H σ τ ρ (fF x ds neg d e G) Q):∃ (q:Addr) (pd:PyData) (qs:List PyData) (as bs:List Addr),u=.ref q∧Reads s.heap v pd as∧Reads s.heap (.ref q) (.tuple qs) bs∧á qs=Á∧pd.canLay0=Á∧min (ë qs) pd.depth≤580∧Q (.bl (neg ^^ (qs.any λy=>õ y pd))) H:=by
 obtain ⟨q,o,its,n,hm,hk,hc,hn,hd,hz,hv⟩:=C;unfold fF at ok;cases e<;>try exact ok.elim
 rename_i y;dsimp only at ok;by_cases hy:y=x
 ·rw [if_pos hy] at ok;subst hy;cases qb:tG d (ds.map D.str) G with
  | none=>rw [qb] at ok;exact ok.elim
  | some b=>rw [qb] at ok;obtain ⟨pd,qs,e1,e2,h1,h2,h3,rfl⟩:=iC qb;unfold Rep at r2;obtain ⟨q',rfl,hm'⟩:=r2;rw [hm] at hm';cases hm';cases ry;obtain ⟨as,ra⟩:=bY I ab.hp deep d vx v pd r1 rx e1;obtain ⟨bs,rb⟩:=tK I ab.hp (.inr ⟨o,its,n,hk,hc,hd,hz,hv⟩) (aq.strs ds) e2;exact ⟨q,pd,qs,as,bs,rfl,ra,rb,h2,h1,h3,ok (.bl _) H ρ .refl ab (by unfold Rep;rfl)⟩
 ·rw [if_neg hy] at ok;exact ok.elim
theorem F4 {ds:List Str} (hu:X.A.units+600<cLine) (C:fW X.K X.mg x ds):gB X (compareOp .In) (rD X EE (fF x ds Â)):=by intro pins s σ0 H vx vy v u Q I rx ry zu;obtain ⟨σ,τ,ρ,G,d,e,ab,r1,r2,ok⟩:=zu;obtain ⟨q,pd,qs,as,bs,rfl,ra,rb,h2,h1,h3,hQ⟩:=zN C I rx ry ab r1 r2 ok;refine RQ rb ra h2 h1 (by nofun) ⟨.bl _,H,I,rfl,?_⟩;simpa using hQ
theorem wF {ds:List Str} (hu:X.A.units+600<cLine) (C:fW X.K X.mg x ds):gB X (compareOp .NotIn) (rD X EE (fF x ds Á)):=by intro pins s σ0 H vx vy v u Q I rx ry zu;obtain ⟨σ,τ,ρ,G,d,e,ab,r1,r2,ok⟩:=zu;obtain ⟨q,pd,qs,as,bs,rfl,ra,rb,h2,h1,h3,hQ⟩:=zN C I rx ry ab r1 r2 ok;refine Ű rb ra h2 h1 (by nofun) ⟨.bl _,H,I,rfl,?_⟩;simpa using hQ
theorem Cf.tup {ds:List Str} (c:Cf X EE g k B sc Vs W) (C:fW g.K g.mg x ds):fW X.K X.mg x ds:=by rw [c.eq.2.2.1,c.eq.2.2.2.1];exact C
def iX (ds:List Str):List D→M D
 | [.str y]=>λG=>match mJ y (ds.map D.str) with
  | some j=>.ok (.int j) G
  | none=>.stuck
 | _=>M.stop
theorem jn:∀ (ds:List Str),strsOf (ds.map D.str)=À ds
 | []=>rfl
 | d::ds=>by simp [strsOf,jn ds]
theorem wG {ds:List Str} (c:Cf X EE g k B sc Vs W) (C:fW g.K g.mg x ds) (h:((jX sc x .globalImplicit&&u7 x)&&(ay [e]&&(apos.endLine==cpos.line)))=Á) (ha:QA X EE [e] m):QE X EE (.Call (.Attribute (.Name x p) "index" apos) [e] [] cpos) (ai (iX ds) m):=by
 obtain ⟨q1,q2⟩:=aW h;obtain ⟨hst,hline⟩:=aW q2;have h':bQ e=Á∧ay []=Á:=by simpa [ay] using hst
 obtain ⟨q,ob,its,nn,hm,hk,hc,hn,hd,hz,hv⟩:=c.tup C;intro pins s σ H Q I hq;have h2:=lY (k:=λ_ ds'=>iX ds ds') hq;refine ņ (gg (e:=.Name x p) rfl _ _) (pO hst (by simp)) hline rfl (gM I (c.gl x (aW q1).1) hm ?_ (iJ (aW q1).2).1);refine ⟨"tuple","tuple.index",F.plainAttrs_tuple,Sg,F.type_tuple_index,⟨ob,I.nD _ _ hk,hc⟩,λa ea=>?_,?_⟩
 ·cases ea;exact ⟨ob,I.nD _ _ hk,hn⟩
 ·have hA:=ha cpos pins s σ H _ I h2;rw [aU h'.1] at hA ⊢;refine ħ (by rfl) (İ ?_);refine eE hA λus s2 zz=>?_;obtain ⟨vs,H2,I2,r2,q2⟩:=zz;obtain ⟨τ,ρ,G,ds',ab,rs,ok⟩:=q2
  match ds',ok with
  | [],ok=>exact ok.elim
  | a::_::_,ok=>cases a<;>exact ok.elim
  | [y],ok=>
   cases y<;>try exact ok.elim
   rename_i y;obtain ⟨yv,rfl,ry⟩:=je rs;unfold Rep at ry;subst ry;obtain ⟨u,rfl,ru⟩:=vals1 r2;obtain ⟨t',rfl⟩:=ru;dsimp only [iX] at ok;cases q2:mJ y (ds.map D.str) with
   | none=>rw [q2] at ok;exact ok.elim
   | some j=>
    rw [q2] at ok;have hq:=ok (.int j) H2 ρ .refl ab (by unfold Rep;rfl);obtain ⟨its',rv,⟨ob,e1,e2,n,e3⟩,_⟩:=I2.tuple (a:=q) (.inr ⟨ob,its,nn,hk,hc,hd,hz,hv⟩);obtain ⟨l,rfl,hl⟩:=mF (K:=X.K) (mg:=X.mg) (ρ:=ρ) (H:=H2) (aq.strs ds) rv (jn ds);obtain ⟨h1,h2,h3⟩:=mK (l:=l) (by rw [jn,hl]) q2;obtain ⟨c,dd,dt,sl⟩:=ob;dsimp only at e2 e3;subst e2 e3;refine call_meets Sg (show s2.TypeIs (.ref q) "tuple" from ⟨_,e1,rfl⟩) F.entry_tuple_index (F.args_tuple_index_2 _ _) (kO q (strValues l).toArray n dd sl (.str y t') (Value.isStrOf y) j (by simpa using h1) (by simpa using h2) (λm hm hlt=>by simpa using h3 m (by simpa using hm) hlt) λz hz=>?_) ⟨e1,⟨.int j,H2,I2.tok _,⟨_,rfl⟩,hq⟩⟩;have hz':z∈strValues l:=by simpa using hz
    obtain ⟨pp,_,rfl⟩:=ĵ.mp hz';intro prog w A E s Q hQ;refine Sv ?_;have e:Value.isStrOf y (.str pp.1 pp.2)=decide (pp.1=y):=by
     by_cases hc:pp.1=y
     ·simp [Value.isStrOf,hc]
     ·simp [Value.isStrOf,hc]
    rw [← e];exact hQ
end
theorem F5 {m:List D→M D} (hm:∀ ns:List Int,ns.length≤63→∃ G,m [.con (ns.map .int)] []=.ok (.bl Á) G) (hl:ns.length≤63) (hO:A7 H) (hS:kD K H a (ns.map V.int)) :
  ir K mg 1 m [.ref a] H (λv _=>v=.bl Á) λ_ _ _=>False:=by
 obtain ⟨G,e⟩:=hm ns hl;have hC:GJ K H a (ns.map V.int):=by
  rcases hS with (h | h) | h
  ·rcases hO a with z | ⟨o,xs,z⟩
   ·rw [h] at z;cases z
   ·rw [h] at z;cases z
  ·exact .inl h
  ·exact .inr h
 refine ⟨[.con (ns.map .int)],[],[],rfl,⟨rfl,by simp,λn o e=>by simp at e⟩,.cons (by unfold Rep;exact ⟨a,_,rfl,hC,.ints ns⟩) .nil,?_⟩;rw [e];intro v H' ρ' _ _ r;unfold Rep at r;exact r
section
open PyProof.Rows
theorem zO {l:SN} {k:Nat} {q:ó} {d:DefRec} {K:Params→Å} {CX:Đ→nX}
  (hn:l.most=À n) (hn2:n≤Ä) (hdf:d.params.defaults=[]) (hr:cZ k callerA) (hY:∀ (w:Đ) (h:Heap),YP w h→(K w.params).In h)
  (F:∀ (w:Đ) (mg:Str→Option Ã) (fa:Addr) (h:Heap),(K w.params).In h→h.Ns mainGlobals mg→mg d.name=À (.ref fa) →
   ∃ (fd:FuncData) (sp:Sp),(∀ (s:Ç) (u:Ã),BindsTo s fd ⟨[u],[]⟩ [(x,u)])∧(∀ base:Heap,jc l.prog w (K w.params) mg base (CX w) k fa fd [x] sp) ∧
    ∀ (H:Hp) (a:Addr) (ns:List Int),ns.length≤n→A7 H→kD (K w.params) H a (ns.map V.int)→sp [.ref a] H (λv _=>v=.bl Á) λ_ _ _=>False)
  (Lh:∀ (w:Đ) (H:Hp) (s:Ç) (e:Ã) (s':Ç),CX w [] H s (λ_ _ _=>False) e s'→False) :
  R4 q loose XP YP l.row.toRowW d [] (λf vs=>SS f vs):=by
 refine MR.qR hn hdf λw s₀ s₁ mg mb fa o pm cd doc a vs ns G Y ho hd hcd hmg hobj hints hlen hg=>?_;have KX:=hY w _ Y;obtain ⟨fd,sp,hb,hF,qP⟩:=F w mg fa _ KX G.T.g hmg;exact xT KX G.T.g G.T.b G.T.builtins G.T.nolimit hg hobj hints (Ć hlen hn2) hr (λbase _ _=>hF base) hb (λH hO hS=>qP H a ns hlen hO hS) λH e s'=>Lh w H s₁ e s'
def zP:List Str→List Ã→Bool
 | [],[]=>Á
 | d::ds,.str x _::us=>(x==d)&&zP ds us
 | _,_=>Â
theorem mU:∀ {ds:List Str} {us:List Ã},zP ds us=Á→Vals (ds.map V.str) us
 | [],[],_=>.nil
 | d::ds,u::us,h=>by
  cases u<;>try (cases h;done)
  obtain ⟨h1,h2⟩:=aW h;rw [beq_iff_eq] at h1;subst h1;exact .cons ⟨_,rfl⟩ (mU h2)
 | [],_::_,h=>by cases h
 | _::_,[],h=>by cases h
section
variable {K:Å} {mg:Str→Option Ã} {h:Heap} {x:Str} {g:jQ}
theorem fW.Kv {ds:List Str} {q:Addr} (X:ī (K.filter λp=>qL p.2) h) (G:h.Ns mainGlobals mg) (a:ė K mainGlobals x=À (À (.ref q))) (l:K.lookup q=À ⟨.type "tuple",Æ,.seq its n,sl⟩) (hz:decide (its.size≤100)=Á) (hv:zP ds its.toList=Á):fW (K.filter λp=>qL p.2) mg x ds:=
 ⟨q,_,its,n,ŭ X G (bG a),iL rfl l,rfl,rfl,rfl,Ć (of_decide_eq_true hz) (by decide),mU hv⟩
theorem gC.Mm {d:Str} {t:Tok} (X:ī (K.filter λp=>qL p.2) h) (G:h.Ns mainGlobals mg) (a:ė K mainGlobals x=À (À (.str d t))):gC (K.filter λp=>qL p.2) mg x (.str d):=⟨_,.str d,ŭ X G (bG a),⟨_,rfl⟩,λ_ _=>by unfold Rep;rfl⟩
theorem gC.Mn {d:Int} {t:Tok} (X:ī (K.filter λp=>qL p.2) h) (G:h.Ns mainGlobals mg) (a:ė K mainGlobals x=À (À (.int d t))):gC (K.filter λp=>qL p.2) mg x (.int d):=⟨_,.int d,ŭ X G (bG a),⟨_,rfl⟩,λ_ _=>by unfold Rep;rfl⟩
theorem t9.one (m1:g.mg x=À cv) (m2:g.mg n0=À c0) (e:Ŝ g.K c0 cv=À b0):t9 g x [(n0,b0)]:=by
 refine ⟨cv,m1,λn b cls h1 h2=>?_⟩;rw [æ] at h1;cases q:n==n0 with
 | true=>rw [q] at h1;cases h1;rw [beq_iff_eq] at q;subst q;rw [m2] at h2;cases h2;exact e
 | false=>rw [q] at h1;cases h1
theorem jx.at {n0:Str} {b0:Bool} {cv:Ã} {C P:Addr} (m2:g.mg n0=À (.ref C)) (F:nH g.K C P) (e:Ĕ g.K (.ref C) cv=À b0) (c:Str) (b:Bool) (cw:Ã) (h1:[(n0,b0)].lookup c=À b) (h2:g.mg c=À cw):∃ C P,cw=.ref C∧Nonempty (nH g.K C P)∧Ĕ g.K cw cv=À b:=by
 rw [æ] at h1;cases q:c==n0 with
 | true=>rw [q] at h1;cases h1;rw [beq_iff_eq] at q;subst q;rw [m2] at h2;cases h2;exact ⟨C,P,rfl,⟨F⟩,e⟩
 | false=>rw [q] at h1;cases h1
theorem jx.one {P:Addr} (m1:g.mg x=À cv) (m2:g.mg n0=À (.ref C)) (F:nH g.K C P) (e:Ĕ g.K (.ref C) cv=À b0):jx g x [(n0,b0)]:=⟨cv,m1,jx.at m2 F e⟩
theorem GP.one {P:Addr} (m2:g.mg n0=À (.ref C)) (F:nH g.K C P) (e:Ĕ g.K (.ref C) (.type T)=À b0):GP g T [(n0,b0)]:=jx.at m2 F e
end
def mV (c:Ty) (d:D):M D:=λG=>match d with
 | .obj n=>match G[n]? with
  | some (.dct _)=>.ok (.bl (Ty.dct.is c)) G
  | _=>nF c d G
 | _=>nF c d G
def oO (c:Ty) (m:DS→M D):DS→M D:=λτ=>(m τ).bind (mV c)
section
variable {X:Cx} {EE:bz} {a:Expr} {ma:DS→M D} {pos p pt:Pos} {x:Str}
theorem zQ {c:Ty} (hc:c≠.dR) {pins:List (Addr×Obj)} {s:Ç} {σ0 σ:L2.St} {H:Hp} {τ:DS} {ρ:List Addr} {G:DH} {d:D} {x:V} {u:Ã} {Q:VK} (I:Inv X pins σ0 H s) (ab:Ab X.K X.mg σ H τ ρ G) (rx:Rep X.K X.mg ρ H d x) (ru:RelV x u)
  (ok:gR X.K X.mg EE H σ τ ρ (mV c d G) Q):Û (model X.prog X.w) X.A (call (.builtin "isinstance") [u,.type c.nm]) (EP X pins σ0 Q) X.xe s:=by
 cases d with
 | obj n=>
  dsimp only [mV] at ok;cases g:G[n]? with
  | none=>rw [g] at ok;exact lB hc I ab rx ru ok
  | some o=>
   cases o with
   | dct kvs=>rw [g] at ok;have q:=ok (.bl _) H ρ .refl ab (by unfold Rep;rfl);unfold Rep at rx;obtain ⟨p,rfl,e1⟩:=rx;cases ru;obtain ⟨p',xs,e2,eH,_⟩:=ab.hp.dct g;rw [e1] at e2;cases e2;obtain ⟨_,_,vs,_,ob,es,ep,e,hcl,_⟩:=I.hok p _ eH;exact ic I.os.2 <| ć PySem.W.kitx_dict I.nD ⟨ob,e,hcl.1⟩ (iE X.K .dct c hc) (λz=>nomatch z) λtk ht=>⟨.bl _,H,I.tok tk,rfl,q⟩
   | _=>rw [g] at ok;exact lB hc I ab rx ru ok
 | _=>exact lB hc I ab rx ru ok
theorem B8 (c:Ty) (hc:c≠.dR) (hm:X.mg "isinstance"=Æ) (hmt:X.mg x=Æ) (hg:Gl X "isinstance") (hgt:Gl X x) (ha:QE X EE a ma) (hb:bootBuiltins x=À (.type c.nm)) (hnt:x≠"__name__") (hdt:(x==("__debug__":Str))=Â) (h:bQ a=Á:=by rfl) :
  QE X EE (.Call (.Name "isinstance" p) [a,.Name x pt] [] pos) (oO c ma):=by
 intro pins s σ H Q I h0;have h2:=fj (k:=λ_=>mV c) h0;refine ĉ (gw I hg hm Ė ?_ (by decide) (by decide));refine Ā ?_ (aU h _ _) (bU (es:=[.Name x pt]) rfl);rw [aU h,aU (e:=.Name x pt) rfl];refine ú (eE (ha pins s σ H _ I h2) λu s1 ⟨xv,H1,I1,r1,τ,ρ,G,d,ab,rd,ok'⟩=>ú (gw I1 hgt hmt hb (į ?_) hnt hdt));exact zQ hc I1 ab rd r1 ok'
end
section
variable {X:Cx} {EE:bz} {a:Expr} {m:DS→M D}
def B9 (m:DS→M D):DS→M D:=λτ G=>match m τ G with
 | .ok d G'=>if kP (G'.take G.length) G=Á∧d.closed=Á then .ok d G else .stuck
 | r=>r
theorem Jr (ha:QE X EE a m):QE X EE a (B9 m):=PE.mono ha λσ H Q zz=>by
 obtain ⟨τ,ρ,G,ab,ok⟩:=zz;refine ⟨τ,ρ,G,ab,?_⟩;dsimp only [B9] at ok;cases q:m τ G with
 | stuck=>rw [q] at ok;exact ok
 | bw c G'=>rw [q] at ok;exact ok
 | ok d G'=>
  rw [q] at ok;dsimp only at ok;by_cases hc:kP (G'.take G.length) G=Á∧d.closed=Á
  ·rw [if_pos hc] at ok;intro v H' ρ' f bF r;exact ok v H' ρ (jN f) ⟨ab.st.mono (jN f),ab.hp.cut f.pre bF.hp (jM _ _ hc.1)⟩ (jm d v hc.2 r)
  ·rw [if_neg hc] at ok;exact ok.elim
end
end
section
variable {τ r:DS} {G:DH} {x y d:D} {f:D→D→M D} {ma mb:DS→M D} {ml:DS→M (List D)} {a b c e g h i j k l m n o:Option D}
@[simp high] theorem Qt:(a::r)[0]?=À a:=È rfl rfl
@[simp high] theorem Qu {w:Option D}:(a::r).set 0 w=w::r:=È rfl rfl
@[simp high] theorem LY:af 0 (À x::r) G=.ok x G:=È rfl rfl
@[simp high] theorem OV:aj f (af 0) (eC d) (À x::r) G=f x d G:=È rfl rfl
@[simp high] theorem Qv:aj f (af 0) mb (À x::r) G=(mb (À x::r) G).bd (f x):=ao
@[simp high] theorem Qw:aa (af 0) ml (À x::r) G=(ml (À x::r) G).bd λz=>M.ret (x::z):=ao
@[simp high] theorem Qx:(a::b::r)[1]?=À b:=È rfl rfl
@[simp high] theorem Qy {w:Option D}:(a::b::r).set 1 w=a::w::r:=È rfl rfl
@[simp high] theorem Qz:af 1 (a::À x::r) G=.ok x G:=È rfl rfl
@[simp high] theorem OW:aj f (af 1) (eC d) (a::À x::r) G=f x d G:=È rfl rfl
@[simp high] theorem QB:aj f (af 1) mb (a::À x::r) G=(mb (a::À x::r) G).bd (f x):=ao
@[simp high] theorem QC:aa (af 1) ml (a::À x::r) G=(ml (a::À x::r) G).bd λz=>M.ret (x::z):=ao
@[simp high] theorem QD:(a::b::c::r)[2]?=À c:=È rfl rfl
@[simp high] theorem QF {w:Option D}:(a::b::c::r).set 2 w=a::b::w::r:=È rfl rfl
@[simp high] theorem Nv:af 2 (a::b::À x::r) G=.ok x G:=È rfl rfl
@[simp high] theorem OX:aj f (af 2) (eC d) (a::b::À x::r) G=f x d G:=È rfl rfl
@[simp high] theorem QI:aj f (af 2) mb (a::b::À x::r) G=(mb (a::b::À x::r) G).bd (f x):=ao
@[simp high] theorem QJ:aa (af 2) ml (a::b::À x::r) G=(ml (a::b::À x::r) G).bd λz=>M.ret (x::z):=ao
@[simp high] theorem QK:(a::b::c::e::r)[3]?=À e:=È rfl rfl
@[simp high] theorem QL {w:Option D}:(a::b::c::e::r).set 3 w=a::b::c::w::r:=È rfl rfl
@[simp high] theorem Nx:af 3 (a::b::c::À x::r) G=.ok x G:=È rfl rfl
@[simp high] theorem OY:aj f (af 3) (eC d) (a::b::c::À x::r) G=f x d G:=È rfl rfl
@[simp high] theorem QM:aj f (af 3) mb (a::b::c::À x::r) G=(mb (a::b::c::À x::r) G).bd (f x):=ao
@[simp high] theorem QN:aa (af 3) ml (a::b::c::À x::r) G=(ml (a::b::c::À x::r) G).bd λz=>M.ret (x::z):=ao
@[simp high] theorem QU:(a::b::c::e::g::r)[4]?=À g:=È rfl rfl
@[simp high] theorem QV {w:Option D}:(a::b::c::e::g::r).set 4 w=a::b::c::e::w::r:=È rfl rfl
@[simp high] theorem QX:af 4 (a::b::c::e::À x::r) G=.ok x G:=È rfl rfl
@[simp high] theorem OZ:aj f (af 4) (eC d) (a::b::c::e::À x::r) G=f x d G:=È rfl rfl
@[simp high] theorem QY:aj f (af 4) mb (a::b::c::e::À x::r) G=(mb (a::b::c::e::À x::r) G).bd (f x):=ao
@[simp high] theorem QZ:aa (af 4) ml (a::b::c::e::À x::r) G=(ml (a::b::c::e::À x::r) G).bd λz=>M.ret (x::z):=ao
@[simp high] theorem Q0:(a::b::c::e::g::h::r)[5]?=À h:=È rfl rfl
@[simp high] theorem Q2 {w:Option D}:(a::b::c::e::g::h::r).set 5 w=a::b::c::e::g::w::r:=È rfl rfl
@[simp high] theorem Q3:af 5 (a::b::c::e::g::À x::r) G=.ok x G:=È rfl rfl
@[simp high] theorem O3:aj f (af 5) (eC d) (a::b::c::e::g::À x::r) G=f x d G:=È rfl rfl
@[simp high] theorem Q4:aj f (af 5) mb (a::b::c::e::g::À x::r) G=(mb (a::b::c::e::g::À x::r) G).bd (f x):=ao
@[simp high] theorem Q5:aa (af 5) ml (a::b::c::e::g::À x::r) G=(ml (a::b::c::e::g::À x::r) G).bd λz=>M.ret (x::z):=ao
@[simp high] theorem Q6:(a::b::c::e::g::h::i::r)[6]?=À i:=È rfl rfl
@[simp high] theorem Q7 {w:Option D}:(a::b::c::e::g::h::i::r).set 6 w=a::b::c::e::g::h::w::r:=È rfl rfl
@[simp high] theorem Q8:af 6 (a::b::c::e::g::h::À x::r) G=.ok x G:=È rfl rfl
@[simp high] theorem O4:aj f (af 6) (eC d) (a::b::c::e::g::h::À x::r) G=f x d G:=È rfl rfl
@[simp high] theorem Q9:aj f (af 6) mb (a::b::c::e::g::h::À x::r) G=(mb (a::b::c::e::g::h::À x::r) G).bd (f x):=ao
@[simp high] theorem Ra:aa (af 6) ml (a::b::c::e::g::h::À x::r) G=(ml (a::b::c::e::g::h::À x::r) G).bd λz=>M.ret (x::z):=ao
@[simp high] theorem Rb:(a::b::c::e::g::h::i::j::r)[7]?=À j:=È rfl rfl
@[simp high] theorem Rc {w:Option D}:(a::b::c::e::g::h::i::j::r).set 7 w=a::b::c::e::g::h::i::w::r:=È rfl rfl
@[simp high] theorem Rg:af 7 (a::b::c::e::g::h::i::À x::r) G=.ok x G:=È rfl rfl
@[simp high] theorem O5:aj f (af 7) (eC d) (a::b::c::e::g::h::i::À x::r) G=f x d G:=È rfl rfl
@[simp high] theorem Rh:aj f (af 7) mb (a::b::c::e::g::h::i::À x::r) G=(mb (a::b::c::e::g::h::i::À x::r) G).bd (f x):=ao
@[simp high] theorem Ri:aa (af 7) ml (a::b::c::e::g::h::i::À x::r) G=(ml (a::b::c::e::g::h::i::À x::r) G).bd λz=>M.ret (x::z):=ao
@[simp high] theorem Rj:(a::b::c::e::g::h::i::j::k::r)[8]?=À k:=È rfl rfl
@[simp high] theorem Rk {w:Option D}:(a::b::c::e::g::h::i::j::k::r).set 8 w=a::b::c::e::g::h::i::j::w::r:=È rfl rfl
@[simp high] theorem Rl:af 8 (a::b::c::e::g::h::i::j::À x::r) G=.ok x G:=È rfl rfl
@[simp high] theorem O6:aj f (af 8) (eC d) (a::b::c::e::g::h::i::j::À x::r) G=f x d G:=È rfl rfl
@[simp high] theorem Rm:aj f (af 8) mb (a::b::c::e::g::h::i::j::À x::r) G=(mb (a::b::c::e::g::h::i::j::À x::r) G).bd (f x):=ao
@[simp high] theorem Rn:aa (af 8) ml (a::b::c::e::g::h::i::j::À x::r) G=(ml (a::b::c::e::g::h::i::j::À x::r) G).bd λz=>M.ret (x::z):=ao
@[simp high] theorem Ro:(a::b::c::e::g::h::i::j::k::l::r)[9]?=À l:=È rfl rfl
@[simp high] theorem Rp {w:Option D}:(a::b::c::e::g::h::i::j::k::l::r).set 9 w=a::b::c::e::g::h::i::j::k::w::r:=È rfl rfl
@[simp high] theorem Rq:af 9 (a::b::c::e::g::h::i::j::k::À x::r) G=.ok x G:=È rfl rfl
@[simp high] theorem O7:aj f (af 9) (eC d) (a::b::c::e::g::h::i::j::k::À x::r) G=f x d G:=È rfl rfl
@[simp high] theorem Rt:aj f (af 9) mb (a::b::c::e::g::h::i::j::k::À x::r) G=(mb (a::b::c::e::g::h::i::j::k::À x::r) G).bd (f x):=ao
@[simp high] theorem Ru:aa (af 9) ml (a::b::c::e::g::h::i::j::k::À x::r) G=(ml (a::b::c::e::g::h::i::j::k::À x::r) G).bd λz=>M.ret (x::z):=ao
@[simp high] theorem O8:(a::b::c::e::g::h::i::j::k::l::m::r)[10]?=À m:=È rfl rfl
@[simp high] theorem O9 {w:Option D}:(a::b::c::e::g::h::i::j::k::l::m::r).set 10 w=a::b::c::e::g::h::i::j::k::l::w::r:=È rfl rfl
@[simp high] theorem Pa:af 10 (a::b::c::e::g::h::i::j::k::l::À x::r) G=.ok x G:=È rfl rfl
@[simp high] theorem Ny:aj f (af 10) (eC d) (a::b::c::e::g::h::i::j::k::l::À x::r) G=f x d G:=È rfl rfl
@[simp high] theorem Pb:aj f (af 10) mb (a::b::c::e::g::h::i::j::k::l::À x::r) G=(mb (a::b::c::e::g::h::i::j::k::l::À x::r) G).bd (f x):=ao
@[simp high] theorem Pc:aa (af 10) ml (a::b::c::e::g::h::i::j::k::l::À x::r) G=(ml (a::b::c::e::g::h::i::j::k::l::À x::r) G).bd λz=>M.ret (x::z):=ao
@[simp high] theorem Pd:(a::b::c::e::g::h::i::j::k::l::m::n::r)[11]?=À n:=È rfl rfl
@[simp high] theorem Pe {w:Option D}:(a::b::c::e::g::h::i::j::k::l::m::n::r).set 11 w=a::b::c::e::g::h::i::j::k::l::m::w::r:=È rfl rfl
@[simp high] theorem Pf:af 11 (a::b::c::e::g::h::i::j::k::l::m::À x::r) G=.ok x G:=È rfl rfl
@[simp high] theorem Nz:aj f (af 11) (eC d) (a::b::c::e::g::h::i::j::k::l::m::À x::r) G=f x d G:=È rfl rfl
@[simp high] theorem Pg:aj f (af 11) mb (a::b::c::e::g::h::i::j::k::l::m::À x::r) G=(mb (a::b::c::e::g::h::i::j::k::l::m::À x::r) G).bd (f x):=ao
@[simp high] theorem Ph:aa (af 11) ml (a::b::c::e::g::h::i::j::k::l::m::À x::r) G=(ml (a::b::c::e::g::h::i::j::k::l::m::À x::r) G).bd λz=>M.ret (x::z):=ao
@[simp high] theorem Pj:(a::b::c::e::g::h::i::j::k::l::m::n::o::r)[12]?=À o:=È rfl rfl
@[simp high] theorem Pk {w:Option D}:(a::b::c::e::g::h::i::j::k::l::m::n::o::r).set 12 w=a::b::c::e::g::h::i::j::k::l::m::n::w::r:=È rfl rfl
@[simp high] theorem Po:af 12 (a::b::c::e::g::h::i::j::k::l::m::n::À x::r) G=.ok x G:=È rfl rfl
@[simp high] theorem NB:aj f (af 12) (eC d) (a::b::c::e::g::h::i::j::k::l::m::n::À x::r) G=f x d G:=È rfl rfl
@[simp high] theorem Pp:aj f (af 12) mb (a::b::c::e::g::h::i::j::k::l::m::n::À x::r) G=(mb (a::b::c::e::g::h::i::j::k::l::m::n::À x::r) G).bd (f x):=ao
@[simp high] theorem Pq:aa (af 12) ml (a::b::c::e::g::h::i::j::k::l::m::n::À x::r) G=(ml (a::b::c::e::g::h::i::j::k::l::m::n::À x::r) G).bd λz=>M.ret (x::z):=ao
@[simp high] theorem Rw:aj f (eC x) (eC d) τ G=f x d G:=È rfl rfl
@[simp high] theorem Rx:aj f (eC x) mb τ G=(mb τ G).bd (f x):=ao
@[simp] theorem Ry:aj f ma (eC d) τ G=(ma τ G).bd λx=>f x d:=ao
@[simp high] theorem acl:aa (eC x) ml τ G=(ml τ G).bd λz=>M.ret (x::z):=ao
@[simp high] theorem Rz:aa (eC x) ah τ G=.ok [x] G:=È rfl rfl
end
end
end L3
namespace K15
noncomputable section
open PySem PySem.Spec L2 L3
def top (i:Nat):Stmt:=PySem.Challenge.pw_pathshape_k15_bad_words.main.body.getD i (.Pass ⟨0,0,0,0⟩)
abbrev wH:Stmt:=top 14
abbrev rM:Stmt:=top 19
abbrev p6:Stmt:=top 20
abbrev ua:Stmt:=top 21
abbrev uc:Stmt:=top 22
abbrev mW:Stmt:=top 23
abbrev ud:Stmt:=top 24
abbrev rN:Stmt:=top 25
abbrev wI:Stmt:=top 26
abbrev rO:Stmt:=top 27
abbrev kR:Stmt:=top 28
abbrev nI:Stmt:=top 29
abbrev p7:Stmt:=top 30
abbrev p8:Stmt:=top 31
abbrev ue:Stmt:=top 32
abbrev wJ:Stmt:=top 33
abbrev nJ:Stmt:=top 34
abbrev rP:Stmt:=top 35
abbrev p9:Stmt:=top 36
abbrev wK:Stmt:=top 37
abbrev qe:Stmt:=top 39
abbrev rQ:Stmt:=top 40
abbrev qf:Stmt:=top 41
abbrev uf:Stmt:=top 42
abbrev nK:Stmt:=top 43
abbrev rR:Stmt:=top 44
abbrev mX:Stmt:=top 45
abbrev rS:Stmt:=top 46
abbrev Dk:Stmt:=top 47
abbrev wL:List Str:=["text"]
def eO:MS:=aC (fJ (j4 (uJ (cO dM (vN .str (af 0)))) (dh (aj (fF "KEPT_WORDS" ["start","rule","row","mix","many","any","kind","not","both","either","way","mark"] Â) (af 0) (eC (.fn "KEPT_WORDS"))))) (bg (eC (.bl Â))) (aL)) (aC (fJ (j4 (dh (aj (eF Â) (ai c5 (aa (af 0) (ah))) (eC (.int 0)))) (dh (aj ya (ai c5 (aa (af 0) (ah))) (eC (.int (8)))))) (bg (eC (.bl Â))) (aL)) (bg (ai (yp Â) (aa (eFn (kI oN [] (af 0) (gF) (aj (ja Â) (af 0) (eC (.str "abcdefghijklmnopqrstuvwxyz"))))) (ah)))))
def iY (ds:List D):M D:=aZ (λds=>cD 1 eO ds) ds
abbrev ug:List Str:=["text","spaced"]
def g6:MS:=aC (fJ (uJ (cO dM (oO .str (af 0)))) (cy "NoText" (aa (eC (.str "what is read must be a text")) (ah))) (aL)) (aC (aY 1 (pP (rA ")" " ) ") (pP (rA "(" " ( ") (pP (rA "\n" " ") (af 0))))) (bg (eFn (kI oN [] (eFn (cP "str" mE (af 1) (aa (eC (.str " ")) (ah)))) (dh (aj (eF Á) (af 0) (eC (.str "")))) (af 0)))))
def eU (ds:List D):M D:=aZ (λds=>cD 2 g6 ds) ds
abbrev uh:List Str:=["part","sort"]
def fX:MS:=aC (fJ (gj (cO dM (vN .tup (af 0))) (dh (aj (eF Â) (aj bO (af 0) (eC (.int 0))) (af 1)))) (bg (aj bO (af 0) (eC (.int 1)))) (aL)) (cy "NoText" (aa (yT "what must stand here: " (af 1)) (ah)))
def aT (ds:List D):M D:=aZ (λds=>cD 2 fX ds) ds
abbrev um:List Str:=["part"]
def g7:MS:=aC (fJ (dh (aj (fF "COUNTS" ["0","1","2"] Â) (af 0) (eC (.fn "COUNTS")))) (bg (ai (iX ["0","1","2"]) (aa (af 0) (ah)))) (aL)) (cy "NoText" (aa (eC (.str "0, 1 or 2 must stand here")) (ah)))
def dO (ds:List D):M D:=aZ (λds=>cD 1 g7 ds) ds
abbrev qg:List Str:=["_law_script","_law_many","_law_found","_law_k","_law_cell"]
def cL:MS:=aC (aY 4 (eC (.int 0))) (aC (fJ (dh (aj ya (ai c5 (aa (af 0) (ah))) (eC (.int 0)))) (aY 4 (aj cI (aj bO (af 0) (aj cI (af 3) (ai c5 (aa (af 0) (ah))))) (aj HP (eC (.int 10)) (eC (.int 18))))) (aL)) (iD (cP "list" dW (af 2) (aa (aj aB (af 4) (aj x9 (eC (.int 7919)) (aj eu (af 3) (ai (jj λi j=>if j > i then j else i) (aa (eC (.int 1)) (aa (ai c5 (aa (af 0) (ah))) (ah))))))) (ah)))))
def g8:MS:=aC (aY 2 (ai aI (ah))) (aC (eY fk (gN 3) (aa (af 1) (ah)) cL) (bg (zh (af 2))))
def dY (ds:List D):M D:=aZ (λds=>cD 5 g8 ds) ds
abbrev rT:List Str:=["_law_draw","_law_letters","_law_name_here","_law_k","_law_at","_law_taken"]
def cW:MS:=aC (aY 4 (aj aB (aj aB (aj eu (af 0) (eC (.int 208))) (aj x9 (aj x9 (eC (.int 7)) (af 3)) (af 3))) (aj x9 (aj cI (aj eu (af 0) (eC (.int 5408))) (eC (.int 26))) (af 3)))) (aY 2 (aj aB (af 2) (aj bO (af 1) (aj cI (af 4) (eC (.int 26))))))
def fG:MS:=aC (aY 5 (eFn (ai aI (aa (eC (.str "start")) (aa (eC (.str "rule")) (aa (eC (.str "row")) (aa (eC (.str "mix")) (aa (eC (.str "many")) (aa (eC (.str "any")) (aa (eC (.str "kind")) (aa (eC (.str "not")) (aa (eC (.str "both")) (aa (eC (.str "either")) (aa (eC (.str "way")) (aa (eC (.str "mark")) (ah)))))))))))))))) (aC (fJ (dh (aj (ja Â) (af 2) (af 5))) (bg (aj aB (af 2) (eC (.str "z")))) (aL)) (bg (af 2)))
def gn:MS:=aC (aY 1 (eC (.str "abcdefghijklmnopqrstuvwxyz"))) (aC (aY 2 (aj bO (af 1) (aj cI (af 0) (eC (.int 26))))) (aC (eY fk (gN 3) (aa (aj cI (aj eu (af 0) (eC (.int 26))) (eC (.int 8))) (ah)) cW) (fG)))
def bJ (ds:List D):M D:=aZ (λds=>cD 6 gn ds) ds
abbrev qh:List Str:=["_law_sort","_law_draws_here","_law_pool","_law_one","_law_other","_law_words_here","_law_k","_law_draw","_law_j","_law_low","_law_go","_law_around"]
def dw:MS:=aY 5 (eFn (aj aB (eFn (aj aB (eFn (ai aI (aa (eC (.str "(")) (aa (aj bO (af 2) (aj cI (aj bO (af 1) (aj aB (eC (.int 4)) (af 6))) (eC (.int 4)))) (ah))))) (af 5))) (eFn (ai aI (aa (eC (.str "(")) (aa (af 4) (aa (eC (.str ")")) (aa (eC (.str ")")) (ah)))))))))
def gy:MS:=aC (aY 5 (eFn (ai aI (aa (eC (.str "(")) (aa (af 3) (aa (eC (.str ")")) (ah))))))) (aC (eY fk (gN 6) (aa (aj cI (aj bO (af 1) (eC (.int 1))) (eC (.int 8))) (ah)) dw) (bg (zh (af 5))))
def cM:MS:=aC (aY 9 (aj cI (aj eu (af 7) (aj aB (eC (.int 96)) (af 8))) (eC (.int 3)))) (aY 5 (aj aB (af 5) (eFn (ai aI (aa (eC (.str "(")) (aa (aj bO (af 2) (aj cI (aj aB (af 7) (af 8)) (eC (.int 4)))) (aa (ai mS (aa (af 9) (ah))) (aa (aj bO (eFn (ai aI (aa (eC (.str "many")) (aa (eC (.str "2")) (ah))))) (aj cI (aj eu (af 7) (eC (.int 288))) (eC (.int 2)))) (aa (eC (.str ")")) (ah))))))))))
def dz:MS:=aC (aY 7 (aj bO (af 1) (aj aB (eC (.int 4)) (af 6)))) (aC (aY 5 (aj aB (af 5) (eFn (ai aI (aa (eC (.str "(")) (aa (eC (.str "rule")) (aa (aj bO (af 2) (aj cI (af 7) (eC (.int 4)))) (aa (aj bO (af 2) (aj cI (aj eu (af 7) (eC (.int 4))) (eC (.int 4)))) (aa (aj bO (eFn (ai aI (aa (eC (.str "row")) (aa (eC (.str "mix")) (ah))))) (aj cI (aj eu (af 7) (eC (.int 16))) (eC (.int 2)))) (ah)))))))))) (aC (eY fk (gN 8) (aa (aj cI (aj eu (af 7) (eC (.int 32))) (eC (.int 3))) (ah)) cM) (iD (cP "list" dW (af 5) (aa (eC (.str ")")) (ah))))))
def gz:MS:=aC (aY 5 (eFn (ai aI (aa (eC (.str "(")) (aa (eC (.str "start")) (aa (af 3) (ah))))))) (aC (eY fk (gN 6) (aa (aj aB (eC (.int 1)) (aj cI (aj bO (af 1) (eC (.int 1))) (eC (.int 6)))) (ah)) dz) (bg (eFn (aj aB (af 5) (eFn (ai aI (aa (eC (.str ")")) (ah))))))))
def dB:MS:=aC (aY 7 (aj bO (af 1) (aj aB (eC (.int 4)) (af 6)))) (aC (aY 10 (aj bO (eFn (ai aI (aa (eC (.str "down")) (aa (eC (.str "deep")) (aa (eC (.str "later")) (ah)))))) (aj cI (af 7) (eC (.int 3))))) (aC (aY 11 (eFn (ai aI (aa (eFn (ai aI (aa (eC (.str "(")) (aa (eC (.str "not")) (ah))))) (aa (eFn (ai aI (aa (eC (.str "(")) (aa (eC (.str "both")) (aa (eC (.str "any")) (ah)))))) (aa (eFn (ai aI (aa (eC (.str "(")) (aa (eC (.str "either")) (aa (eC (.str "(")) (aa (eC (.str "kind")) (aa (af 3) (aa (eC (.str ")")) (ah))))))))) (aa (eFn (ai aI (aa (eC (.str "(")) (aa (eC (.str "way")) (aa (eC (.str "(")) (aa (af 10) (ah))))))) (ah)))))))) (aY 5 (B9 (zh (aj aB (eFn (aj aB (aj bO (af 11) (aj cI (aj eu (af 7) (eC (.int 3))) (eC (.int 4)))) (af 5))) (B9 (zh (aj kK (ai aI (aa (eC (.str ")")) (ah))) (aj aB (eC (.int 1)) (ai mO (aa (aj (eF Â) (aj cI (aj eu (af 7) (eC (.int 3))) (eC (.int 4))) (eC (.int 3))) (ah)))))))))))))
def dZ:MS:=aC (aY 3 (aj bO (af 2) (eC (.int 0)))) (aC (aY 4 (aj bO (af 2) (eC (.int 1)))) (aC (fJ (dh (aj (eF Â) (af 0) (eC (.int 0)))) (gy) (aL)) (aC (fJ (dh (aj (eF Â) (af 0) (eC (.int 1)))) (gz) (aL)) (aC (aY 5 (eFn (ai aI (aa (eC (.str "any")) (ah))))) (aC (eY fk (gN 6) (aa (aj cI (aj bO (af 1) (eC (.int 1))) (eC (.int 8))) (ah)) dB) (bg (eFn (aj aB (eFn (aj aB (eFn (ai aI (aa (eC (.str "(")) (aa (eC (.str "way")) (aa (eC (.str "(")) (aa (eC (.str "deep")) (aa (eC (.str "(")) (aa (eC (.str "kind")) (aa (af 4) (aa (eC (.str ")")) (aa (eC (.str ")")) (aa (eC (.str "(")) (aa (eC (.str "down")) (ah)))))))))))))) (af 5))) (eFn (ai aI (aa (eC (.str ")")) (aa (eC (.str ")")) (ah)))))))))))))
def bH (ds:List D):M D:=aZ (λds=>cD 12 dZ ds) ds
abbrev uo:List Str:=["_law_cell","_law_some"]
def jo:MS:=aC (aY 1 (eFn (ai aI (aa (eC (.str "Foo")) (aa (eC (.str "007")) (aa (eC (.str "3")) (aa (eC (.str "abcdefghi")) (aa (eC (.str "a.b")) (aa (eC (.str "a_b")) (aa (eC (.str "a1")) (aa (eC (.str "x'")) (aa (eC (.str "-1")) (aa (eC (.str "Many")) (aa (eC (.str "ROW")) (aa (eC (.str "None")) (aa (eC (.str "True")) (aa (eC (.str "[")) (aa (eC (.str "{")) (ah))))))))))))))))))) (aC (aY 1 (eFn (aj aB (af 1) (eFn (ai aI (aa (eC (.str "+")) (aa (eC (.str "1.0")) (aa (eC (.str "x,")) (aa (eC (.str ";")) (aa (eC (.str "#")) (aa (eC (.str "~")) (aa (eC (.str "*")) (aa (eC (.str "Any")) (aa (eC (.str "\"a\"")) (aa (eC (.str "<a>")) (aa (eC (.str "a=b")) (aa (eC (.str "zzzzzzzzzz")) (ah)))))))))))))))))) (bg (aj bO (af 1) (aj cI (af 0) (eC (.int 27))))))
def fY (ds:List D):M D:=aZ (λds=>cD 2 jo ds) ds
abbrev rV:List Str:=["_law_words_here","_law_spread","_law_text_here","_law_word"]
def b5:MS:=aC (fJ (gj (dh (aj (eF Á) (af 2) (eC (.str "")))) (gj (j4 (dh (aj (ja Á) (af 3) (eC (.str "()")))) (cO dM (af 1))) (dh (aj (ja Á) (aj bO (af 2) (tL (eC (.int 1)))) (eC (.str "(")))))) (aY 2 (aj aB (af 2) (eC (.str " ")))) (aL)) (aY 2 (aj aB (af 2) (af 3)))
def iM:MS:=aC (aY 2 (eC (.str ""))) (aC (j5 (gN 3) (af 0) b5) (bg (af 2)))
def e9 (ds:List D):M D:=aZ (λds=>cD 4 iM ds) ds
abbrev rW:List Str:=["parts","sort"]
def gp:MS:=bg (ai mG (aa (eFn (kI oN [Â,Á] (af 0) (gF) (aA 2 aT (aa (af 0) (aa (af 2) (ah)))))) (ah)))
def cj (ds:List D):M D:=aZ (λds=>cD 2 gp ds) ds
abbrev wM:List Str:=["part"]
def iZ:MS:=aC (fJ (cO dM (aA 1 iY (aa (af 0) (ah)))) (bg (af 0)) (aL)) (cy "NoText" (aa (eC (.str "a name must stand here")) (ah)))
def cE (ds:List D):M D:=aZ (λds=>cD 1 iZ ds) ds
abbrev wN:List Str:=["part","low","high"]
def fL:MS:=aC (fJ (dh (aj (eF Â) (af 0) (eC (.str "many")))) (bg (eC .dR)) (aL)) (aC (aY 2 (aA 1 dO (aa (af 0) (ah)))) (aC (fJ (dh (aj om (af 2) (af 1))) (cy "NoText" (aa (eC (.str "a high must not be below its low")) (ah))) (aL)) (bg (af 2))))
def dP (ds:List D):M D:=aZ (λds=>cD 3 fL ds) ds
abbrev wO:List Str:=["part"]
def eV:MS:=aC (fJ (dh (aj (eF Â) (af 0) (eC (.str "any")))) (bg (ai dJ (aa (eC (.str "any")) (ah)))) (aL)) (aC (fJ (gj (cO dM (vN .tup (af 0))) (dh (aj (eF Â) (aj bO (af 0) (eC (.int 0))) (eC (.str "way"))))) (bg (ai dJ (aa (eC (.str "way")) (aa (aj bO (af 0) (eC (.int 1))) (ah))))) (aL)) (bg (aA 2 aT (aa (af 0) (aa (eC (.str "look")) (ah))))))
def bV (ds:List D):M D:=aZ (λds=>cD 1 eV ds) ds
abbrev nM:List Str:=["_law_words_here","_law_way","_law_place","_law_cell","_law_at","_law_brackets","_law_others"]
def fZ:MS:=aC (aY 4 (aj bO (af 5) (aj cI (af 2) (ai c5 (aa (af 5) (ah)))))) (bg (eFn (aj aB (eFn (qK (af 0) (e7) (dU (af 4)))) (eFn (qK (af 0) (dU (aj aB (af 4) (eC (.int 1)))) (e7))))))
def f9:MS:=aC (aY 4 (aj bO (af 6) (aj cI (af 2) (ai c5 (aa (af 6) (ah)))))) (bg (eFn (aj aB (eFn (aj aB (eFn (qK (af 0) (e7) (dU (af 4)))) (eFn (ai aI (aa (aA 1 fY (aa (af 3) (ah))) (ah)))))) (eFn (qK (af 0) (dU (aj aB (af 4) (eC (.int 1)))) (e7))))))
def bq:MS:=aC (fJ (dh (aj (eF Â) (af 1) (eC (.int 1)))) (bg (eFn (aj aB (eFn (aj aB (eFn (qK (af 0) (e7) (dU (af 4)))) (eFn (ai aI (aa (aj bO (eC (.str "()")) (aj cI (af 3) (eC (.int 2)))) (ah)))))) (eFn (qK (af 0) (dU (af 4)) (e7)))))) (aL)) (aC (fJ (dh (aj (eF Â) (af 1) (eC (.int 2)))) (fZ) (aL)) (aC (fJ (dh (aj (eF Â) (af 1) (eC (.int 3)))) (bg (eFn (aj aB (eFn (aj aB (eFn (qK (af 0) (e7) (dU (af 4)))) (eFn (ai aI (aa (aA 1 fY (aa (af 3) (ah))) (ah)))))) (eFn (qK (af 0) (dU (af 4)) (e7)))))) (aL)) (aC (fJ (dh (aj (eF Â) (af 1) (eC (.int 4)))) (f9) (aL)) (bg (aj bO (eFn (ai aI (aa (eFn (ai aI (ah))) (aa (eFn (aj aB (af 0) (af 0))) (ah))))) (aj cI (af 3) (eC (.int 2))))))))
def gb:MS:=aC (aY 6 (eFn (gx fk oN [Á] (aa (ai c5 (aa (af 0) (ah))) (ah)) (dh (aj (ja Á) (aj bO (af 1) (af 0)) (eC (.str "()")))) (af 0)))) (bq)
def gA:MS:=aC (aY 4 (aj cI (af 2) (aj aB (ai c5 (aa (af 0) (ah))) (eC (.int 1))))) (aC (aY 5 (eFn (gx fk oN [Á] (aa (ai c5 (aa (af 0) (ah))) (ah)) (dh (aj (ja Â) (aj bO (af 1) (af 0)) (eC (.str "()")))) (af 0)))) (gb))
def dD (ds:List D):M D:=aZ (λds=>cD 7 gA ds) ds
abbrev rX:List Str:=["parts"]
def dQ:MS:=aC (fJ (dh (aj (eF Â) (ai c5 (aa (af 0) (ah))) (eC (.int 0)))) (cy "NoText" (aa (eC (.str "a tree must have a kind")) (ah))) (aL)) (bg (ai dJ (aa (eC (.str "tree")) (aa (ai dJ (aa (aA 1 cE (aa (aj bO (af 0) (eC (.int 0))) (ah))) (aa (aA 2 cj (aa (eFn (qK (af 0) (dU (eC (.int 1))) (e7))) (aa (eC (.str "tree")) (ah)))) (ah)))) (ah)))))
def ck (ds:List D):M D:=aZ (λds=>cD 1 dQ ds) ds
abbrev nN:List Str:=["parts"]
def cN:MS:=aC (fJ (dh (aj om (ai c5 (aa (af 0) (ah))) (eC (.int 3)))) (cy "NoText" (aa (eC (.str "a shape must have a start and a rule")) (ah))) (aL)) (bg (ai dJ (aa (aA 1 cE (aa (aj bO (af 0) (eC (.int 1))) (ah))) (aa (aA 2 cj (aa (eFn (qK (af 0) (dU (eC (.int 2))) (e7))) (aa (eC (.str "rule")) (ah)))) (ah)))))
def bK (ds:List D):M D:=aZ (λds=>cD 1 cN ds) ds
abbrev qj:List Str:=["parts"]
def cu:MS:=aC (fJ (j4 (dh (aj om (ai c5 (aa (af 0) (ah))) (eC (.int 4)))) (dh (aj (fF "ORDERS" ["row","mix"] Á) (aj bO (af 0) (eC (.int 3))) (eC (.fn "ORDERS"))))) (cy "NoText" (aa (eC (.str "a rule must have a name, a kind and an order")) (ah))) (aL)) (bg (ai dJ (aa (aA 1 cE (aa (aj bO (af 0) (eC (.int 1))) (ah))) (aa (aA 1 cE (aa (aj bO (af 0) (eC (.int 2))) (ah))) (aa (aj bO (af 0) (eC (.int 3))) (aa (aA 2 cj (aa (eFn (qK (af 0) (dU (eC (.int 4))) (e7))) (aa (eC (.str "item")) (ah)))) (ah)))))))
def bx (ds:List D):M D:=aZ (λds=>cD 1 cu ds) ds
abbrev qk:List Str:=["parts","low"]
def cH:MS:=aC (fJ (dh (aj (eF Á) (ai c5 (aa (af 0) (ah))) (eC (.int 3)))) (cy "NoText" (aa (eC (.str "an item must have a name, a low and a high")) (ah))) (aL)) (aC (aY 1 (aA 1 dO (aa (aj bO (af 0) (eC (.int 1))) (ah)))) (bg (ai dJ (aa (aA 1 cE (aa (aj bO (af 0) (eC (.int 0))) (ah))) (aa (af 1) (aa (aA 2 dP (aa (aj bO (af 0) (eC (.int 2))) (aa (af 1) (ah)))) (ah)))))))
def bI (ds:List D):M D:=aZ (λds=>cD 2 cH ds) ds
abbrev rY:List Str:=["parts"]
def ff:MS:=aC (fJ (dh (aj om (ai c5 (aa (af 0) (ah))) (eC (.int 2)))) (cy "NoText" (aa (eC (.str "a way must have a step")) (ah))) (aL)) (bg (aA 2 cj (aa (eFn (qK (af 0) (dU (eC (.int 1))) (e7))) (aa (eC (.str "step")) (ah)))))
def cR (ds:List D):M D:=aZ (λds=>cD 1 ff ds) ds
abbrev ql:List Str:=["parts"]
def aX:MS:=aC (fJ (gj (dh (aj (eF Â) (ai c5 (aa (af 0) (ah))) (eC (.int 2)))) (dh (aj (eF Â) (aj bO (af 0) (eC (.int 0))) (eC (.str "kind"))))) (bg (ai dJ (aa (eC (.str "kind")) (aa (aA 1 cE (aa (aj bO (af 0) (eC (.int 1))) (ah))) (ah))))) (aL)) (aC (fJ (gj (dh (aj (eF Â) (ai c5 (aa (af 0) (ah))) (eC (.int 2)))) (dh (aj (eF Â) (aj bO (af 0) (eC (.int 0))) (eC (.str "not"))))) (bg (ai dJ (aa (eC (.str "not")) (aa (aA 1 bV (aa (aj bO (af 0) (eC (.int 1))) (ah))) (ah))))) (aL)) (aC (fJ (gj (dh (aj (eF Â) (ai c5 (aa (af 0) (ah))) (eC (.int 3)))) (dh (aj (ja Â) (aj bO (af 0) (eC (.int 0))) (ai dJ (aa (eC (.str "both")) (aa (eC (.str "either")) (ah))))))) (bg (ai dJ (aa (aj bO (af 0) (eC (.int 0))) (aa (aA 1 bV (aa (aj bO (af 0) (eC (.int 1))) (ah))) (aa (aA 1 bV (aa (aj bO (af 0) (eC (.int 2))) (ah))) (ah)))))) (aL)) (cy "NoText" (aa (eC (.str "no step, look or way stands in these brackets")) (ah)))))
def aN (ds:List D):M D:=aZ (λds=>cD 1 aX ds) ds
abbrev kU:List Str:=["parts"]
def br:MS:=aC (fJ (dh (aj (eF Â) (eFn (qK (af 0) (e7) (dU (eC (.int 1))))) (eFn (ai aI (aa (eC (.str "start")) (ah)))))) (bg (ai dJ (aa (eC (.str "shape")) (aa (aA 1 bK (aa (af 0) (ah))) (ah))))) (aL)) (aC (fJ (dh (aj (eF Â) (eFn (qK (af 0) (e7) (dU (eC (.int 1))))) (eFn (ai aI (aa (eC (.str "rule")) (ah)))))) (bg (ai dJ (aa (eC (.str "rule")) (aa (aA 1 bx (aa (af 0) (ah))) (ah))))) (aL)) (bg (ai dJ (aa (eC (.str "item")) (aa (aA 1 bI (aa (af 0) (ah))) (ah))))))
def aK (ds:List D):M D:=aZ (λds=>cD 1 br ds) ds
abbrev nP:List Str:=["parts"]
def bL:MS:=aC (fJ (dh (aj (eF Â) (eFn (qK (af 0) (e7) (dU (eC (.int 1))))) (eFn (ai aI (aa (eC (.str "way")) (ah)))))) (bg (ai dJ (aa (eC (.str "way")) (aa (aA 1 cR (aa (af 0) (ah))) (ah))))) (aL)) (aC (fJ (gj (dh (aj (eF Â) (ai c5 (aa (af 0) (ah))) (eC (.int 2)))) (dh (aj (fF "GOES" ["down","deep","later"] Â) (aj bO (af 0) (eC (.int 0))) (eC (.fn "GOES"))))) (bg (ai dJ (aa (eC (.str "step")) (aa (ai dJ (aa (aj bO (af 0) (eC (.int 0))) (aa (aA 1 bV (aa (aj bO (af 0) (eC (.int 1))) (ah))) (ah)))) (ah))))) (aL)) (bg (ai dJ (aa (eC (.str "look")) (aa (aA 1 aN (aa (af 0) (ah))) (ah))))))
def aP (ds:List D):M D:=aZ (λds=>cD 1 bL ds) ds
abbrev mY:List Str:=["text","make","unshut","word","parts"]
def cJ:MS:=aC (aY 4 (cP "list" pK (af 2) ah)) (aC (fJ (dh (aj (eF Â) (ai c5 (aa (af 2) (ah))) (eC (.int 0)))) (cy "NoText" (aa (eC (.str "a bracket is shut that was never begun")) (ah))) (aL)) (iD (cP "list" dW (aj bO (af 2) (tL (eC (.int 1)))) (aa (mH 1 1 (λy=>ï y [("make_tree",ck),("make_in_shape",aK),("make_in_way",aP)]) (aa (zh (af 4)) (ah))) (ah)))))
def au:MS:=fJ (dh (aj (eF Â) (af 3) (eC (.str "(")))) (iD (cP "list" dW (af 2) (aa (ai aI (ah)) (ah)))) (fJ (dh (aj (eF Â) (af 3) (eC (.str ")")))) (cJ) (iD (cP "list" dW (aj bO (af 2) (tL (eC (.int 1)))) (aa (af 3) (ah)))))
def bW:MS:=aC (fJ (dh (aj ya (ai c5 (aa (af 2) (ah))) (eC (.int 1)))) (cy "NoText" (aa (eC (.str "a bracket is not shut")) (ah))) (aL)) (aC (fJ (dh (aj (eF Á) (ai c5 (aa (aj bO (af 2) (eC (.int 0))) (ah))) (eC (.int 1)))) (cy "NoText" (aa (eC (.str "a text must write one thing")) (ah))) (aL)) (bg (aj bO (aj bO (af 2) (eC (.int 0))) (eC (.int 0)))))
def bB:MS:=aC (aY 2 (ai aI (aa (ai aI (ah)) (ah)))) (aC (j5 (gN 3) (aA 1 eU (aa (af 0) (ah))) au) (bW))
def aE (ds:List D):M D:=aZ (λds=>cD 5 bB ds) ds
abbrev rZ:List Str:=["text"]
def iN:MS:=bg (aA 2 aT (aa (aA 2 aE (aa (af 0) (aa (eC (.fn "make_tree")) (ah)))) (aa (eC (.str "tree")) (ah))))
def fh (ds:List D):M D:=aZ (λds=>cD 1 iN ds) ds
abbrev qp:List Str:=["text"]
def g9:MS:=bg (aA 2 aT (aa (aA 2 aE (aa (af 0) (aa (eC (.fn "make_in_shape")) (ah)))) (aa (eC (.str "shape")) (ah))))
def d7 (ds:List D):M D:=aZ (λds=>cD 1 g9 ds) ds
abbrev uq:List Str:=["text"]
def jq:MS:=bg (aA 2 aT (aa (aA 2 aE (aa (af 0) (aa (eC (.fn "make_in_way")) (ah)))) (aa (eC (.str "way")) (ah))))
def gc (ds:List D):M D:=aZ (λds=>cD 1 jq ds) ds
abbrev r6:List Str:=["_law_sort","_law_text_here"]
def bf:MS:=aC (fJ (dh (aj (eF Â) (af 0) (eC (.int 0)))) (bg (aA 1 fh (aa (af 1) (ah)))) (aL)) (aC (fJ (dh (aj (eF Â) (af 0) (eC (.int 1)))) (bg (aA 1 d7 (aa (af 1) (ah)))) (aL)) (bg (aA 1 gc (aa (af 1) (ah)))))
def bM (ds:List D):M D:=aZ (λds=>cD 2 bf ds) ds
abbrev mZ:List Str:=["_law_sort","_law_text_here","e"]
def fq:MS:=aC (fJ (j4 (cO dM (pP (gW λy=>ï y [("NoText",Â)]) (af 2))) (j4 (cO dM (pP (gW λy=>ï y [("NoText",Â)]) (af 2))) (j4 (cO dM (pP (gW λy=>ï y [("NoText",Â)]) (af 2))) (cO dM (pP (gW λy=>ï y [("NoText",Â)]) (af 2)))))) (bg (eC (.bl Â))) (aL)) (aC (fJ (j4 (cO dM (pP (gW λy=>ï y [("NoText",Â)]) (af 2))) (j4 (cO dM (pP (gW λy=>ï y [("NoText",Â)]) (af 2))) (cO dM (pP (gW λy=>ï y [("NoText",Â)]) (af 2))))) (bg (eC (.bl Â))) (aL)) (bg (EK (pP (gW λy=>ï y [("NoText",Á)]) (af 2)) (pP (gW λy=>ï y [("NoText",Á)]) (af 2)))))
def gf:MS:=aC (rj (iD (aA 2 bM (aa (af 0) (aa (af 1) (ah))))) (l8 (λn=>ï n [("NoText",Á)]) 2 (fq) (E0)) (aL)) (bg (eC (.bl Â)))
def bC (ds:List D):M D:=aZ (λds=>cD 3 gf ds) ds
abbrev Dl:List Str:=["_law_script","_law_draws_here","_law_pool","_law_sort","_law_words_here","_law_odd","_law_way","_law_text_here"]
def m5:MS:=aC (aY 5 (ai aI (aa (eC .dR) (aa (eC (.int 5)) (aa (eC (.bl Á)) (aa (eFn (ai aI (aa (eC (.str "x")) (ah)))) (aa (ai dJ (aa (aj bO (af 2) (eC (.int 0))) (aa (ai dJ (ah)) (ah)))) (aa (zk) (ah))))))))) (aC (fJ (dh (aj (eF Â) (aj cI (aj bO (af 1) (eC (.int 2))) (eC (.int 2))) (eC (.int 0)))) (bg (aA 2 bC (aa (aj cI (aj aB (aj aB (af 3) (eC (.int 1))) (aj cI (aj eu (aj bO (af 1) (eC (.int 2))) (eC (.int 2))) (eC (.int 2)))) (eC (.int 3))) (aa (aA 2 e9 (aa (af 4) (aa (eC (.bl Â)) (ah)))) (ah))))) (aL)) (bg (aA 2 bC (aa (af 3) (aa (aj bO (af 5) (aj cI (aj eu (aj bO (af 1) (eC (.int 2))) (eC (.int 2))) (eC (.int 6)))) (ah))))))
def kq:MS:=aC (aY 3 (aj cI (aj bO (af 1) (eC (.int 0))) (eC (.int 3)))) (aC (aY 4 (aA 3 bH (aa (af 3) (aa (af 1) (aa (af 2) (ah)))))) (aC (fJ (dh (aj (eF Â) (aj cI (aj eu (aj bO (af 1) (eC (.int 0))) (eC (.int 3))) (eC (.int 8))) (eC (.int 7)))) (m5) (aL)) (aC (aY 6 (aj cI (aj bO (af 1) (eC (.int 2))) (eC (.int 6)))) (aC (fJ (dh (aj ya (af 6) (eC (.int 0)))) (aY 4 (aA 4 dD (aa (af 4) (aa (af 6) (aa (aj bO (af 1) (eC (.int 3))) (aa (aj bO (af 1) (eC (.int 16))) (ah))))))) (aL)) (aC (aY 7 (aA 2 e9 (aa (af 4) (aa (aj (eF Â) (aj cI (aj bO (af 1) (eC (.int 17))) (eC (.int 2))) (eC (.int 1))) (ah))))) (aC (fJ (dh (aj ya (af 6) (eC (.int 0)))) (bg (aA 2 bC (aa (af 3) (aa (af 7) (ah))))) (aL)) (aC (rj (iD (aA 2 bM (aa (af 3) (aa (af 7) (ah))))) (ri (λn=>ï n [("NoText",Á)]) (bg (eC (.bl Â))) (E0)) (aL)) (bg (eC (.bl Á))))))))))
def zR:MS:=aC (aY 1 (aA 2 dY (aa (af 0) (aa (eC (.int 18)) (ah))))) (aC (aY 2 (eFn (gx fk oN [Â,Á] (aa (eC (.int 4)) (ah)) (gF) (aA 1 bJ (aa (aj bO (af 2) (aj aB (eC (.int 12)) (af 0))) (ah)))))) (kq))
def zS (ds:List D):M D:=aZ (λds G=>u6 (cD 8 zR ds G)) ds
def defs:List zC:=("is_name",1,wL,wH)::[("read_tree",1,rZ,rM),("read_shape",1,qp,p6),("read_way",1,uq,ua),("words_of",1,ug,uc),("read_bracket",2,mY,mW),("value_of",2,uh,ud),("values_of",2,rW,rN),("name_of",1,wM,wI),("make_tree",1,rX,rO),("make_in_shape",1,kU,kR),("shape_value",1,nN,nI),("rule_value",1,qj,p7),("item_value",1,qk,p8),("count_of",1,um,ue),("high_of",2,wN,wJ),("make_in_way",1,nP,nJ),("way_value",1,rY,rP),("look_value",1,ql,p9),("look_of",1,wO,wK),("_law_draws",2,qg,qe),("_law_name",1,rT,rQ),("_law_words",3,qh,qf),("_law_bad",1,uo,uf),("_law_spoilt",4,nM,nK),("_law_read",2,r6,rR),("_law_refused",2,mZ,mX),("_law_text",2,rV,rS),("law",1,Dl,Dk)]
def F6:List Str:=["ValueError","all","int","isinstance","len","max","range","str","tuple"]
structure Txt (g:jQ):Prop where
  D:jR g.K g.mg defs
  B:iK g.mg F6
  C0:fW g.K g.mg "COUNTS" ["0","1","2"]
  C1:fW g.K g.mg "GOES" ["down","deep","later"]
  C2:fW g.K g.mg "KEPT_WORDS" ["start","rule","row","mix","many","any","kind","not","both","either","way","mark"]
  C3:gC g.K g.mg "LETTERS" (.str "abcdefghijklmnopqrstuvwxyz")
  C4:gC g.K g.mg "LONGEST" (.int (8))
  C5:fW g.K g.mg "ORDERS" ["row","mix"]
  C6:F3 g "NoText"
  C7:t9 g "PathError" [("NoText",Á)]
  C8:jx g "NoName" [("NoText",Â)]
  C9:jx g "NoRow" [("NoText",Â)]
  Pr:jx g "NoRule" [("NoText",Â)]
  Pu:jx g "NoShape" [("NoText",Â)]
  Pw:jx g "NoSort" [("NoText",Â)]
  Px:jx g "NoText" [("NoText",Á)]
  Py:jx g "TooGreat" [("NoText",Â)]
  Pz:jx g "Twice" [("NoText",Â)]
  PB:GP g "ValueError" [("NoText",Á)]
theorem bu {a b:Prop} (h:a) (k:a→b):b:=k h
theorem F7 {g:jQ} (T:Txt g) {f:Addr} {fd:FuncData} (F:A8 g.K "law" "law" Dk f fd):jc g.P g.w g.K g.mg g.base (tR g.P g.w) 9 f fd ["_law_script"] (ir g.K g.mg 1 zS):=by
 obtain ⟨_,_,_,_,_,_,_,_,_,_,_,_,_,_,_,_,_,_,_,_,_,_,_,_,_,_,_,_,_,_⟩:=T.D;have:=T.C0;have:=T.C1;have:=T.C2;have:=T.C3;have:=T.C4;have:=T.C5;have:=T.C6;have:=T.C7;have:=T.C8;have:=T.C9;have:=T.Pr;have:=T.Pu;have:=T.Pw;have:=T.Px;have:=T.Py;have:=T.Pz;have:=T.PB;refine bu (a:=ie g "is_name" 1 1 iY) ?_ λ_=>bu (a:=ie g "words_of" 1 1 eU) ?_ λ_=>bu (a:=ie g "value_of" 1 2 aT) ?_ λ_=>bu (a:=ie g "count_of" 1 1 dO) ?_ λ_=>bu (a:=ie g "_law_draws" 1 2 dY) ?_ λ_=>bu (a:=ie g "_law_name" 1 1 bJ) ?_ λ_=>bu (a:=ie g "_law_words" 1 3 bH) ?_ λ_=>bu (a:=ie g "_law_bad" 1 1 fY) ?_ λ_=>bu (a:=ie g "_law_text" 1 2 e9) ?_ λ_=>bu (a:=ie g "values_of" 2 2 cj) ?_ λ_=>bu (a:=ie g "name_of" 2 1 cE) ?_ λ_=>bu (a:=ie g "high_of" 2 2 dP) ?_ λ_=>bu (a:=ie g "look_of" 2 1 bV) ?_ λ_=>bu (a:=ie g "_law_spoilt" 2 4 dD) ?_ λ_=>bu (a:=ie g "make_tree" 3 1 ck) ?_ λ_=>bu (a:=ie g "shape_value" 3 1 bK) ?_ λ_=>bu (a:=ie g "rule_value" 3 1 bx) ?_ λ_=>bu (a:=ie g "item_value" 3 1 bI) ?_ λ_=>bu (a:=ie g "way_value" 3 1 cR) ?_ λ_=>bu (a:=ie g "look_value" 3 1 aN) ?_ λ_=>bu (a:=ie g "make_in_shape" 4 1 aK) ?_ λ_=>bu (a:=ie g "make_in_way" 4 1 aP) ?_ λ_=>bu (a:=ie g "read_bracket" 5 2 aE) ?_ λ_=>bu (a:=ie g "read_tree" 6 1 fh) ?_ λ_=>bu (a:=ie g "read_shape" 6 1 d7) ?_ λ_=>bu (a:=ie g "read_way" 6 1 gc) ?_ λ_=>bu (a:=ie g "_law_read" 7 2 bM) ?_ λ_=>bu (a:=ie g "_law_refused" 8 2 bC) ?_ λ_=>?_
 all_goals
  first
   | (with_reducible show jc _ _ _ _ _ _ _ _ _ _ _);refine zF (N:=Dl) (y:="_law_script") F T.B ⟨rfl,rfl,rfl,by symm,rfl,by symm,by symm⟩ (by symm) rfl λX EE hV hS=>?_
   | refine ie.pure (pZ (by assumption) T.B ⟨rfl,rfl,rfl,by symm,rfl,by symm,by symm⟩ rfl rfl (by intro _ _ _ _ _ _;first | exact B3 λ_=>rfl | exact FZ λ_ _=>rfl | exact F0 λ_ _ _=>rfl | exact F1 λ_ _ _ _=>rfl) λX EE hV hS=>?_)
   | refine ie.fresh (pZ (by assumption) T.B ⟨rfl,rfl,rfl,by symm,rfl,by symm,by symm⟩ rfl rfl (by intro _ _ _ _ _ _;first | exact B3 λ_=>rfl | exact FZ λ_ _=>rfl | exact F0 λ_ _ _=>rfl | exact F1 λ_ _ _ _=>rfl) λX EE hV hS=>?_)
   | refine pZ (by assumption) T.B ⟨rfl,rfl,rfl,by symm,rfl,by symm,by symm⟩ rfl rfl (by intro _ _ _ _ _ _;first | exact B3 λ_=>rfl | exact FZ λ_ _=>rfl | exact F0 λ_ _ _=>rfl | exact F1 λ_ _ _ _=>rfl) λX EE hV hS=>?_
  delta eO g6 fX g7 g8 cL gn cW fG dZ dw gy cM dz gz dB jo iM b5 gp iZ fL eV gA fZ f9 bq gb dQ cN cu cH ff aX br bL bB cJ au bW iN g9 jq bf gf fq zR m5 kq
  repeat' first
    | (with_reducible show @Eq Bool _ Á);kernel_rfl
    | with_reducible show QE _ _ _ _;first
       | refine BZ hV ?_
       | (show QE _ _ _ (eC _));first | exact Er | exact Et | ((show QE _ _ (.Name _ _) (eC _));first | refine zM hV (by assumption) ?_ | refine t7 hV (t8.has (by assumption)) ?_ | refine t7 hV (fW.has (by assumption)) ?_) | ((show QE _ _ _ (eC (.fn _)));refine t7 hV (t8.has (by assumption)) ?_) | exact HM | exact Es
       | ((show QE _ _ (.Name _ _) (af _));refine B4 hV ?_)
       | ((show QE _ _ _ (pP (gW _) _));first | refine B6 hV (by assumption) ?_ ?_ | refine B7 hV (by assumption) (by decide+kernel) ?_ ?_)
       | refine Fv ?_ ?_ ?_
       | refine Ft ?_
       | (show QE _ _ _ (cP _ _ _ _));first | refine yQ ?_ ?_ ?_ ?_ ?_ | refine v9 ?_ ?_ ?_ ?_ ?_ | refine Fl ?_ ?_ ?_
       | (show QE _ _ _ (ai _ _));first | refine BV (hV.bl _ ?_) (hV.gl _ ?_) ?_ ?_ | ((show QE _ _ _ (ai (iX _) _));refine wG hV (by assumption) ?_ ?_) | refine Ez ?_ | refine EA ?_ | refine Fg (hV.bl _ ?_) (hV.gl _ ?_) ?_ ?_ | refine Fz (hV.bl _ ?_) (hV.gl _ ?_) ?_ ?_ | refine Fi hV.hc (hV.bl _ ?_) (hV.gl _ ?_) ?_ ?_ | refine BD hV.hc (hV.bl _ ?_) (hV.gl _ ?_) ?_ ?_ | refine yR (hV.bl _ ?_) (hV.gl _ ?_) ?_ ?_
       | refine Jr ?_
       | (show QE _ _ _ (aj _ _ _));first | refine yN ?_ ?_ ?_ | refine BR ?_ ?_ | refine Ew ?_ ?_ | refine Eu ?_ ?_ | refine Bb ?_ ?_ | refine FU ?_ ?_ | refine Ex ?_ ?_ | refine HR hV.hu ?_ ?_ | refine IE hV.hu ?_ ?_ ?_
       | refine FH ?_
       | refine IX ?_
       | ((show QE _ _ _ (aA _ _ _));refine rJ hV (by assumption) ?_ ?_)
       | ((show QE _ _ (.ListComp _ _ _ _) _);first | refine rL hV hS Nr ?_ ?_ ?_ ?_ | refine rL hV hS Nt ?_ ?_ ?_ ?_)
       | refine EN ?_
       | refine yh ?_ ?_ ?_
       | refine Fj _ ?_ (hV.bl _ ?_) (hV.bl _ ?_) (hV.gl _ ?_) (hV.gl _ ?_) ?_ ?_ ?_ ?_ ?_
       | refine B8 _ ?_ (hV.bl _ ?_) (hV.bl _ ?_) (hV.gl _ ?_) (hV.gl _ ?_) ?_ ?_ ?_ ?_ ?_
       | exact BU
       | refine wz hV ?_ ?_ ?_
       | refine EM ?_ ?_
       | refine EL ?_
    | with_reducible show QA _ _ _ _;first
       | refine LO ?_ ?_ ?_
       | exact Ey
    | (with_reducible show lq _ _ _ _);first | ((with_reducible show lq _ _ _ (aC _ _));refine yk ?_ ?_) | refine Bk ?_ | exact Bj
    | with_reducible show QS _ _ _ _;first
       | ((show QS _ _ (.Assign _ (.ListComp _ _ _ _) _) _);first | refine mT hV hS Nr ?_ (by decide+kernel) ?_ ?_ | refine mT hV hS Nt ?_ (by decide+kernel) ?_ ?_)
       | ((show QS _ _ _ (cy _ _));refine wD hV (by assumption) ?_ ?_)
       | ((show QS _ _ _ (rj _ _ _));refine B5 hV hS (λX EE hV hS=>?_) (λX EE hK=>?_) ?_)
       | refine EO ?_
       | refine HX ?_ ?_ ?_
       | refine BF ?_ ?_
       | refine I8 ?_
       | refine B0 hV hS ?_ ?_
       | refine Fp hS.po hV.hc ?_ ?_ ?_ ?_
       | refine yO hS.po hV.hc (hV.bl _ ?_) (hV.gl _ ?_) ?_ ?_ ?_ ?_
    | with_reducible show QT _ _ _ _;first
       | refine Fe ?_ ?_ ?_ ?_
       | refine Ff ?_ ?_
       | refine EG ?_
       | refine Lq ?_
    | with_reducible first
      | exact yd hV.hu
      | exact EI
      | exact EJ
      | exact EC hV.hu
      | exact yf hV.hu
      | exact vK hV.hu
      | (show gB _ _ (rD _ _ (fF _ _ _)));first | exact F4 hV.hu (hV.tup (by assumption)) | exact wF hV.hu (hV.tup (by assumption))
      | refine Be ?_
      | exact Bd
      | refine Mi λX EE hV=>?_
      | refine Mj λX EE hV=>⟨?_,?_⟩
      | refine EF ?_ ?_
      | refine Bg ?_
      | refine HV ?_ ?_
      | refine ED ?_
      | refine zA hV hS ?_
      | refine zL hK (by assumption) ?_ (λX hV=>?_) ?_
      | refine wC hK (by assumption) ?_ (λX hV=>?_) ?_
      | exact E2
      | exact trivial
    | decide+kernel
    | (with_reducible show Lk _);exact λ_ _=>rfl
    | (with_reducible show wu _ _ _ _);first | exact trivial | refine ⟨⟨_,by assumption,by decide⟩,?_⟩
    | refine rJ hV (by assumption) ?_ ?_
end
end K15
section
open PySem PySem.Spec L2 L3
local macro_rules
 | `(tactic| simp! [$a,*])=>`(tactic| simp [dM,bO,aG,cY,jj,c5,aB,dJ,fQ,dW,pK,nF,J7,Ty.is,$a,*])
local macro_rules
 | `(tactic| dsimp! [$a,*])=>`(tactic| simp [dM,bO,aG,cY,jj,c5,zx,dJ,fQ,dW,pK,nF,J7,Ty.is,$a,*])
namespace K15
noncomputable section
open PySem PySem.Spec L2 L3
structure Nm (l:List Nat):Prop where
 ne:l≠[]
 le:l.length≤8
 az:∀ x∈l,97≤x∧x≤122
 kw:((["start","rule","row","mix","many","any","kind","not","both","either","way","mark"]:List Str).any (·==bT l))=Â
theorem u9 {l:List Nat} (h:∀ x∈l,x<1114112):Þ (bT l)=Á:=by unfold Þ bT;rw [Array.all_eq_true_iff_forall_mem];intro x hx;simpa using h x (by simpa using hx)
theorem gq (l:List Nat):(bT l).length=l.length:=by simp [bT,SR]
def d8:Str:="abcdefghijklmnopqrstuvwxyz"
def sgn (c:Nat):Bool:=!(à d8 ⟨#[c]⟩ 0 d8.length 1).isEmpty
theorem F8 {c:Nat} (h:97≤c∧c≤122):sgn c=Á:=by
 have Mp:∀ k<26,sgn (97+k)=Á:=by symm
 have:=Mp (c - 97) (by nofun)
 rwa [show 97+(c - 97)=c by nofun] at this
def words:List Str:=["start","rule","row","mix","many","any","kind","not","both","either","way","mark"]
theorem Cb (bs:List Bool):jE (bs.map D.bl)=À bs:=by
 induction bs with
 | nil=>rfl
 | cons b r ih=>simp [jE,ih]
theorem m6 (c:Nat):∀ l,(aJ c l).length≤l.length+1
 | []=>by simp [aJ]
 | x::xs=>by
  have ih:=m6 c xs;unfold aJ;split
  ·simp;nofun
  ·split
   ·rename_i e;rw [e] at ih;simp at ih ⊢;nofun
   ·simp
theorem ia {c:Nat}:∀ {y l:List Nat} {a:Nat},l∈aJ c y→a∈l→a∈y
 | [],l,a,h,ha=>by simp [aJ] at h;subst h;simp at ha
 | x::xs,l,a,h,ha=>by
  unfold aJ at h;split at h
  ·rcases Ò.mp h with rfl | h
   ·simp at ha
   ·exact Ù _ (ia h ha)
  ·split at h
   ·rename_i p ps e;rcases Ò.mp h with rfl | h
    ·rcases Ò.mp ha with rfl | ha
     ·simp
     ·exact Ù _ (ia (y:=xs) (l:=p) (by rw [e];simp) ha)
    ·exact Ù _ (ia (y:=xs) (l:=l) (by rw [e];simp [h]) ha)
   ·simp at h;subst h;simp at ha;simp [ha]
theorem ur {c:Nat} {b y:List Nat} {a:Nat} (h:a∈rp c b y):a∈b∨a∈y:=by
 unfold rp at h;obtain ⟨x,hx,h⟩:=List.mem_flatMap.mp h;split at h
 ·exact .inl h
 ·simp at h;subst h;exact .inr hx
theorem str_len (x:Str):x.length=x.cps.toList.length:=by simp [SR]
theorem F9 (x:Str) (c:Ty) (τ:DS) (G:DH) (e:DS→M D) (h:e τ G=.ok (.str x) G):oO c e τ G=.ok (.bl (Ty.str.is c)) G:=by unfold oO;rw [ao,h];rfl
theorem zT (x:Str) (hx:∀ c∈x.cps.toList,c<1114112) (hl:x.length≤100000) (G:DH):eU [.str x] G=.ok (.con ((dX [] x.cps.toList).map λw=>.str (bT w))) G:=by
 have s1:(Ö x "\n" " ").cps.toList=rp 10 [32] x.cps.toList:=ki x " " 10;have s2:(Ö (Ö x "\n" " ") "(" " ( ").cps.toList=rp 40 [32,40,32] (rp 10 [32] x.cps.toList):=by rw [← s1];exact ki _ " ( " 40
 have s3:(Ö (Ö (Ö x "\n" " ") "(" " ( ") ")" " ) ").cps.toList=pX x.cps.toList:=by unfold pX;rw [← s2];exact ki _ " ) " 41
 have l1:(Ö x "\n" " ").length≤1*x.length:=by rw [str_len,str_len,s1];exact pY 10 1 _ (by decide) (by decide) _
 have l2:(Ö (Ö x "\n" " ") "(" " ( ").length≤3*(Ö x "\n" " ").length:=by rw [str_len,str_len,s2,s1];exact pY 40 3 _ (by decide) (by decide) _
 have l3:(Ö (Ö (Ö x "\n" " ") "(" " ( ") ")" " ) ").length≤3*(Ö (Ö x "\n" " ") "(" " ( ").length:=by rw [str_len,str_len,s3,s2];unfold pX;exact pY 41 3 _ (by decide) (by decide) _
 have r1:=zy (G:=G) (y:="\n") (z:=" ") (x:=x) (by symm) (by nofun) (by symm);have r2:=zy (G:=G) (y:="(") (z:=" ( ") (x:=Ö x "\n" " ") (by symm) (by nofun) (by symm);have r3:=zy (G:=G) (y:=")") (z:=" ) ") (x:=Ö (Ö x "\n" " ") "(" " ( ") (by symm) (by nofun) (by symm);have qP:Ĭ (Ö (Ö (Ö x "\n" " ") "(" " ( ") ")" " ) ") " "=(aJ 32 (pX x.cps.toList)).map bT:=by rw [← s3];exact ze _ 32
 have PC:(Ö (Ö (Ö x "\n" " ") "(" " ( ") ")" " ) ").length≤900000:=by nofun
 have hsl:(aJ 32 (pX x.cps.toList)).length≤900001:=by have:=m6 32 (pX x.cps.toList);rw [← s3,← str_len] at this;rw [← s3];nofun
 generalize Ö (Ö (Ö x "\n" " ") "(" " ( ") ")" " ) "=x3 at r3 qP PC;generalize Ö (Ö x "\n" " ") "(" " ( "=x2 at r2 r3;generalize Ö x "\n" " "=x1 at r1 r2;have hmem:∀ l∈aJ 32 (pX x.cps.toList),Þ (bT l)=Á:=λl hl=>u9 λa ha=>by
  have:=ia hl ha;rcases ur this with h | h
  ·simp at h;nofun
  ·rcases ur h with h | h
   ·simp at h;nofun
   ·rcases ur h with h | h
    ·simp at h;nofun
    ·exact hx a h
 have hw:=wl x.cps.toList [] (by simp);rw [â] at hw;generalize aJ 32 (pX x.cps.toList)=ps at qP hsl hmem hw;have hc1:aM ((ps.map bT).map D.str)=Á:=cF λ_=>bh;have hz:(ps.map bT).length≤Ä:=by rw [ý];exact lz (by nofun)
 have f1:(aI ((ps.map bT).map D.str) G).fw G=.ok (.con ((ps.map bT).map D.str)) G:=fD (by simpa using hz) hc1;have hc:=fE (gO:=oN) (ks:=[]) (tt:=dh (aj (eF Á) (af 0) (eC (.str "")))) (te:=af 0) (own:=λl=>[D.str (bT l)]) (dat:=λl=>D.str (bT l)) (f:=λl=>D.str (bT l)) (c:=λl=>!l.isEmpty) (G:=G) (τ:=[À (.str x),À (.str x3)]) ps [] (by simp;nofun) (λ_ _=>rfl) (λl hl acc=>by
   have e:=cU Á (bT l) "" (G++[.lst acc]) (hmem l hl) (by symm);have e2:(bT l==("":Str))=l.isEmpty:=by
    cases l with
    | nil=>symm
    | cons a r=>
     cases e:(bT (a::r)==("":Str)) with
     | false=>rfl
     | true=>rw [beq_iff_eq] at e;have:=congrArg (λs:Str=>s.cps.toList) e;simp only [fT] at this;cases this
   rw [e2] at e;simp! [mask,e]) (λl hl acc=>by simp! [mask])
 rw [hw,â] at hc;have hc2:aM ((dX [] x.cps.toList).map λw=>D.str (bT w))=Á:=cF λ_=>bh;have hfm:(ps.map bT).map D.str=ps.map λl=>D.str (bT l):=by rw [ň];rfl
 rw [hfm] at f1;have f2:(aI (ps.map (D.str∘bT)) G).fw G=.ok (.con (ps.map λl=>D.str (bT l))) G:=f1;have hsz:x3.length+2≤Ä:=lz (by nofun);have hy:¬ (" ":Str).length=0:=by symm
 unfold eU;refine av ?_ (by rw [bR];exact hc2);have hi:=F9 x .str [À (.str x),Æ] G (af 0) rfl;simp! [g6,hi,r1,r2,r3,mE,hsz,hy,qP,f2,aR,hc,kj hc2]
def Pl (n:Nat) (d:D):Prop:=d.closed=Á∧∀ G:DH,∃ p,dg G n d=À p∧p.canLay0=Á
theorem iO {s:Str} (h:Þ s=Á) (n:Nat):Pl (n+1) (.str s):=⟨bh,λ_=>⟨.str s,rfl,by simpa [ä] using h⟩⟩
theorem zU (i:Int) (n:Nat):Pl (n+1) (.int i):=⟨fV,λ_=>⟨.int i,rfl,by simp [ä]⟩⟩
theorem Ga (n:Nat):Pl (n+1) .dR:=⟨tY,λ_=>⟨.none,rfl,by simp [ä]⟩⟩
theorem oQ {n:Nat} (G:DH):∀ {ds:List D},(∀ d∈ds,Pl n d)→∃ ps,aQ (dg G n) ds=À ps∧á ps=Á
 | [],_=>⟨[],rfl,by simp [á]⟩
 | d::ds,h=>by obtain ⟨p,e1,c1⟩:=(h d (by simp)).2 G;obtain ⟨ps,e2,c2⟩:=oQ G (ds:=ds) λx hx=>h x (by simp [hx]);exact ⟨p::ps,by simp [aQ,e1,e2],by simp [á,c1,c2]⟩
theorem c6 {n:Nat} {ds:List D} (h:∀ d∈ds,Pl n d):Pl (n+1) (.tup ds):=by refine ⟨by rw [eN];exact gY λx hx=>(h x hx).1,λG=>?_⟩;obtain ⟨ps,e,c⟩:=oQ G h;exact ⟨.tuple ps,by simp [dg,e],by simpa [ä] using c⟩
mutual
theorem m7 (G:DH):∀ (n:Nat) (d:D) (p:PyData),dg G n d=À p→dg G (n+1) d=À p
 | 0,d,p,h=>by simp [dg] at h
 | n+1,d,p,h=>by
  cases d with
  | tup ds=>
   simp only [dg] at h ⊢;cases e:aQ (dg G n) ds with
   | none=>rw [e] at h;cases h
   | some ps=>rw [e] at h;rw [i0 G n ds ps e];exact h
  | con ds=>
   simp only [dg] at h ⊢;cases e:aQ (dg G n) ds with
   | none=>rw [e] at h;cases h
   | some ps=>rw [e] at h;rw [i0 G n ds ps e];exact h
  | obj k=>
   simp only [dg] at h ⊢;split at h
   ·rename_i ds e0;cases e:aQ (dg G n) ds with
    | none=>rw [e] at h;cases h
    | some ps=>rw [e] at h;rw [i0 G n ds ps e];exact h
   ·cases h
  | _=>simpa [dg] using h
 termination_by n d=>(n,0)
theorem i0 (G:DH):∀ (n:Nat) (ds:List D) (ps:List PyData),aQ (dg G n) ds=À ps→aQ (dg G (n+1)) ds=À ps
 | n,[],ps,h=>h
 | n,d::ds,ps,h=>by
  simp only [aQ] at h ⊢;cases e1:dg G n d with
  | none=>rw [e1] at h;cases h
  | some p=>
   cases e2:aQ (dg G n) ds with
   | none=>rw [e1,e2] at h;cases h
   | some qs=>rw [e1,e2] at h;rw [m7 G n d p e1,i0 G n ds qs e2];exact h
 termination_by n ds=>(n,ds.length+1)
end
theorem d9 {n m:Nat} {d:D} (h:Pl n d) (hm:n≤m):Pl m d:=by
 induction hm with
 | refl=>exact h
 | step _ ih=>exact ⟨ih.1,λG=>(ih.2 G).imp λp q=>⟨m7 G _ d p q.1,q.2⟩⟩
inductive Pt where
 | w (s:Str) | b (s:Str)
 deriving DecidableEq
inductive Vw (n:Nat):D→Pt→Prop
 | w {s:Str}:Þ s=Á→s.length≤1000→Vw n (.str s) (.w s)
 | b {s:Str} {v:D}:Þ s=Á→Pl n v→Vw n (.tup [.str s,v]) (.b s)
inductive Vs (n:Nat):List D→List Pt→Prop
 | nil:Vs n [] []
 | cons {d:D} {p:Pt} {ds:List D} {ps:List Pt}:Vw n d p→Vs n ds ps→Vs n (d::ds) (p::ps)
theorem Vw.pl {n:Nat} {d:D} {p:Pt} (h:Vw n d p):Pl (n+2) d:=by
 cases h with
 | w h _=>exact iO h _
 | b h v=>
  refine c6 λx hx=>?_;simp at hx;rcases hx with rfl | rfl
  ·exact iO h n
  ·exact d9 v (by nofun)
theorem Vw.mono {n m:Nat} {d:D} {p:Pt} (h:Vw n d p) (hm:n≤m):Vw m d p:=by
 cases h with
 | w h k=>exact .w h k
 | b h v=>exact .b h (d9 v hm)
theorem Vs.mono {n m:Nat} (hm:n≤m):∀ {ds:List D} {ps:List Pt},Vs n ds ps→Vs m ds ps
 | _,_,.nil=>.nil
 | _,_,.cons h t=>.cons (h.mono hm) (t.mono hm)
theorem Vs.app {n:Nat}:∀ {ds es:List D} {ps qs:List Pt},Vs n ds ps→Vs n es qs→Vs n (ds++es) (ps++qs)
 | _,_,_,_,.nil,h=>h
 | _,_,_,_,.cons h t,k=>.cons h (t.app k)
theorem Vs.closed {n:Nat}:∀ {ds:List D} {ps:List Pt},Vs n ds ps→aM ds=Á
 | _,_,.nil=>rfl
 | _,_,.cons h t=>by rw [aV,h.pl.1,t.closed];rfl
def Pt.is (p:Pt) (s:Str):Bool:=match p with
 | .w t=>t==s
 | .b _=>Â
theorem r8 {n:Nat} {d:D} {p:Pt} (h:Vw n d p) (hn:n≤590) (g:Bool) (s:Str) (hs:Þ s=Á) (G:DH):eF g d (.str s) G=.ok (.bl (g ^^ p.is s)) G:=by
 cases h with
 | w h _=>exact cU g _ s G h hs
 | @b t v h hv=>
  obtain ⟨q,e,c⟩:=(d9 (Vw.b h hv).pl (show n+2≤600 by nofun)).2 G;have e2:dg G deep (.str s)=À (.str s):=rfl;have cs:(ċ s).canLay0=Á:=by simpa [ä] using hs
  have hq:∃ qs,q=.tuple qs:=by
   simp only [dg] at e;cases o:aQ (dg G 599) [D.str t,v] with
   | none=>rw [o] at e;cases e
   | some qs=>rw [o] at e;exact ⟨qs,by simpa using e.symm⟩
  obtain ⟨qs,rfl⟩:=hq;have hd:min (PyData.tuple qs).depth (ċ s).depth≤580:=by
   have:(ċ s).depth≤580:=by simp [î]
   nofun
  have e':dg G deep (D.tup [D.str t,v])=À (.tuple qs):=e;unfold eF qU;rw [e',e2];dsimp only;rw [if_pos (by rw [c,cs];simpa using hd)];simp [õ,Pt.is]
theorem r9 {n:Nat} {d:D} {p:Pt} (h:Vw n d p) (hn:n≤590) (ws:List Str) (hw:á (ws.map ċ)=Á) (G:DH):tG d (ws.map D.str) G=À (ws.any λs=>p.is s):=by
 cases h with
 | @w t h _=>rw [rC t ws G h hw];congr 2;funext s;simp only [Pt.is];exact ſ.mpr ⟨λz=>by simp at z ⊢;exact z.symm,λz=>by simp at z ⊢;exact z.symm⟩
 | @b t v h hv=>
  obtain ⟨q,e,c⟩:=(d9 (Vw.b h hv).pl (show n+2≤600 by nofun)).2 G;have hq:∃ qs,q=.tuple qs:=by
   simp only [dg] at e;cases o:aQ (dg G 599) [D.str t,v] with
   | none=>rw [o] at e;cases e
   | some qs=>rw [o] at e;exact ⟨qs,by simpa using e.symm⟩
  obtain ⟨qs,rfl⟩:=hq;have e':dg G deep (D.tup [D.str t,v])=À (.tuple qs):=e;have hd:ë (ws.map ċ)≤580:=by
   have:∀ l:List Str,ë (l.map ċ)≤1:=λl=>by
    induction l with
    | nil=>simp [ë]
    | cons a r ih=>simp [ë,î];nofun
   have:=this ws;nofun
  unfold tG;rw [e',iG];dsimp only;rw [if_pos (by rw [c,hw];simp;nofun)];congr 1;rw [List.any_map];congr 1
theorem wQ {n:Nat} {ds:List D} {ps:List Pt} (h:Vs n ds ps) (hn:n≤590) (s:Str) (hs:Þ s=Á) (G:DH):eF Â (.con (cutD ds Æ (À 1))) (.con [.str s]) G=.ok (.bl (match ps with | []=>Â | p::_=>p.is s)) G:=by
 cases h with
 | nil=>simp [cutD,HT.dI,eF,qU,dg,deep,aQ,ä,á,î,ë,õ,Ő,hs]
 | @cons d p ds ps h t=>
  have hc:cutD (d::ds) Æ (À 1)=[d]:=by simp [cutD,HT.dI]
  rw [hc];obtain ⟨q,e,c⟩:=(d9 h.pl (show n+2≤599 by nofun)).2 G;have k:=r8 h hn Â s hs G;unfold eF qU at k ⊢;have e1:dg G deep d=À q:=m7 G 599 d q e;have e2:dg G deep (.str s)=À (.str s):=rfl;rw [e1,e2] at k;have f1:dg G deep (.con [d])=À (.list [q]):=by show (aQ (dg G 599) [d]).map ő=_;simp [aQ,e]
  have f2:dg G deep (.con [.str s])=À (.list [.str s]):=rfl;rw [f1,f2];have cs:(ċ s).canLay0=Á:=by simpa [ä] using hs
  dsimp only at k ⊢;have hd:min q.depth (ċ s).depth≤580:=by
   have:(ċ s).depth≤580:=by simp [î]
   nofun
  have hd2:min (ő [q]).depth (ő [.str s]).depth≤580:=by
   have:(ő [ċ s]).depth≤580:=by simp [î,ë]
   nofun
  rw [if_pos (by rw [c,cs];simpa using hd)] at k;rw [if_pos (by rw [show (ő [q]).canLay0=Á by simp [ä,á,c],show (ő [.str s]).canLay0=Á by simp [ä,á,hs]];simpa using hd2)];simpa [õ,Ő] using k
def Rf (r:Out D) (G:DH):Prop:=∃ as,r=.bw (.mk "NoText" as) G
theorem jr {m:List D→M D} {ds:List D} {c:XD} {G R:DH} (h:m ds G=.bw c (G++R)):aZ m ds G=.bw c G:=by simp [aZ,h,iW]
theorem dG {m:List D→M D} {ds:List D} {c:XD} {G:DH} (h:m ds G=.bw c G):aZ m ds G=.bw c G:=jr (R:=[]) (by simpa using h)
theorem bD {m:List D→M D} {ds as:List D} {G:DH} (h:m ds G=.bw (.mk "NoText" as) G):Rf (aZ m ds G) G:=⟨as,dG h⟩
theorem z1:(1:Nat)≤Ä:=lz (by nofun)
theorem z2:(2:Nat)≤Ä:=lz (by nofun)
theorem z3:(3:Nat)≤Ä:=lz (by nofun)
theorem z4:(4:Nat)≤Ä:=lz (by nofun)
def xy (s:Str):Bool:=!(words.any λt=>s==t)&&(!((s.length:Int)==0)&&(!decide (8<s.length)&&s.cps.toList.all sgn))
def Pt.nm:Pt→Bool
 | .w s=>xy s
 | .b _=>Â
theorem m8 (τ:DS) (G0:DH):∀ (cs:List Nat) (acc:List D),acc.length+cs.length≤2000 →
  bE oN [] gF (aj (ja Â) (af 0) (eC (.str "abcdefghijklmnopqrstuvwxyz"))) G0.length (cs.map λc=>.str ⟨#[c]⟩) τ (G0++[.lst acc])=.ok (.obj G0.length) (G0++[.lst (acc++cs.map λc=>.bl (sgn c))])
 | [],acc,hl=>by simp [bE]
 | c::cs,acc,hl=>by
  have hs:acc.length<Ä:=Ë (by simp at hl;nofun) (lz (n:=3000) (by nofun));have e:bS oN [] gF (aj (ja Â) (af 0) (eC (.str "abcdefghijklmnopqrstuvwxyz"))) G0.length (.str ⟨#[c]⟩) τ (G0++[.lst acc])=.ok () (G0++[.lst (acc++[.bl (sgn c)])]):=by simp [bS,oN,gF,uV,jJ,fS,jg,ao,pR,ja,aG,hs,sgn,d8]
  rw [Í,bE,e];dsimp only;rw [m8 τ G0 cs (acc++[D.bl (sgn c)]) (by simp at hl ⊢;nofun)];simp
theorem wR {n:Nat} {d:D} {p:Pt} (h:Vw n d p) (hn:n≤590) (G:DH):iY [d] G=.ok (.bl p.nm) G:=by
 unfold iY;refine av ?_ rfl;have hk:=r9 h hn words (by symm) G;cases h with
 | b hs hv=>simp! [eO,Pt.nm]
 | @w s hs hl=>
  have hz:s.length≤Ä:=lz (by nofun);have ek:(words.map D.str)=[.str "start",.str "rule",.str "row",.str "mix",.str "many",.str "any",.str "kind",.str "not",.str "both",.str "either",.str "way",.str "mark"]:=rfl;rw [ek] at hk;simp only [Pt.is] at hk;have hc:=m8 [À (.str s)] G s.cps.toList [] (by rw [← str_len];simp;nofun);have hb:jE (s.cps.toList.map λc=>D.bl (sgn c))=À (s.cps.toList.map sgn):=by have:=Cb (s.cps.toList.map sgn);rw [ň] at this;exact this
  have hcl:aM (s.cps.toList.map λc=>D.bl (sgn c))=Á:=cF λ_=>rfl;simp only [â] at hc;cases ew:words.any λt=>s==t with
  | true=>rw [ew] at hk;simp! [eO,fF,hk,Pt.nm,xy,ew]
  | false=>
   rw [ew] at hk;cases e0:((s.length:Int)==0) with
   | true=>simp! [eO,fF,hk,Pt.nm,xy,ew,hz,ak,e0]
   | false=>
    by_cases h8:8<s.length
    ·have Mq:(8:Int)<(s.length:Int):=by nofun
     simp! [eO,fF,hk,Pt.nm,xy,ew,hz,ak,e0,h8,Mq]
    ·have Mq:¬ (8:Int)<(s.length:Int):=by nofun
     have ha:(s.cps.toList.map sgn).all id=s.cps.toList.all sgn:=by rw [List.all_map];rfl
     simp! [eO,fF,hk,Pt.nm,xy,ew,hz,ak,e0,h8,Mq,hc,yp,hb,aR,kj hcl]
theorem fM {n:Nat} {d:D} {p:Pt} (h:Vw n d p) (hn:n≤590) (G:DH):if p.nm=Á then cE [d] G=.ok d G else Rf (cE [d] G) G:=by
 have e:=wR h hn G;have hc:=h.pl.1;have z:=z1;cases hb:p.nm with
 | true=>rw [if_pos rfl];unfold cE;refine av ?_ hc;rw [hb] at e;simp! [iZ,e]
 | false=>rw [if_neg (by decide)];unfold cE;refine bD (as:=[.str "a name must stand here"]) ?_;rw [hb] at e;simp! [iZ,e,z]
theorem jt {n:Nat} {d:D} {p:Pt} (h:Vw n d p) (hn:n≤590) (s:Str) (hs:Þ s=Á) (hl:s.length≤1000) (G:DH):if p=.b s then ∃ v,Pl n v∧d=.tup [.str s,v]∧aT [d,.str s] G=.ok v G else Rf (aT [d,.str s] G) G:=by
 have z:=z1;have hz:s.length≤Ä:=lz (by nofun);have hf:("what must stand here: ":Str).length≤Ä:=lz (by symm);have hfs:(("what must stand here: ":Str)++s).length≤Ä:=lz (by
  have:(("what must stand here: ":Str)++s).length=22+s.length:=by show (("what must stand here: ":Str).cps++s.cps).size=_;rw [Array.size_append];rfl
  nofun)
 cases h with
 | @w t ht hl=>rw [if_neg (by intro z;cases z)];unfold aT;refine bD (as:=[.str (("what must stand here: ":Str)++s)]) ?_;simp! [fX,z,zf hf,FG,hfs,hz]
 | @b t v ht hv=>
  have a0:cS [D.str t,v] 0=À (.str t):=rfl;have a1:cS [D.str t,v] 1=À v:=rfl;have e:=cU Â t s G ht hs;by_cases hts:t=s
  ·subst hts;rw [if_pos rfl];rw [show (t==t)=Á by simp] at e;refine ⟨v,hv,rfl,?_⟩;unfold aT;refine av ?_ hv.1;simp! [fX,e,a0,a1]
  ·rw [if_neg (by intro z;cases z;exact hts rfl)];rw [show (t==s)=Â by simpa using hts] at e;unfold aT;refine bD (as:=[.str (("what must stand here: ":Str)++s)]) ?_;simp! [fX,e,a0,a1,z,zf hf,FG,hfs,hz]
def vals (s:Str) (ps:List Pt):Bool:=ps.all λp=>decide (p=.b s)
theorem oR {n:Nat} (hn:n≤590) (s:Str) (hs:Þ s=Á) (hl:s.length≤1000) (t:Option D) (G:DH):∀ {ds:List D} {ps:List Pt} (h:Vs n ds ps) (acc:List D),acc.length+ds.length≤2000 →
  if vals s ps=Á then ∃ vs,(∀ v∈vs,Pl n v)∧vs.length=ds.length∧bE oN [Â,Á] gF (aA 2 aT (aa (af 0) (aa (af 2) (ah)))) G.length ds [t,À (.str s)] (G++[.lst acc])=.ok (.obj G.length) (G++[.lst (acc++vs)])
  else ∃ as R,bE oN [Â,Á] gF (aA 2 aT (aa (af 0) (aa (af 2) (ah)))) G.length ds [t,À (.str s)] (G++[.lst acc])=.bw (.mk "NoText" as) (G++R)
 | _,_,.nil,acc,h=>by rw [if_pos (show vals s []=Á from rfl)];exact ⟨[],by simp,rfl,by simp [bE]⟩
 | _,_,@Vs.cons _ d p ds ps h tl,acc,hz=>by
  have hs':acc.length<Ä:=Ë (by simp at hz;nofun) (lz (n:=3000) (by nofun));have e:=jt h hn s hs hl (G++[.lst acc]);by_cases hp:p=.b s
  ·rw [if_pos hp] at e;obtain ⟨v,pv,_,e⟩:=e;have ih:=oR hn s hs hl t G tl (acc++[v]) (by simp at hz ⊢;nofun)
   have e1:bS oN [Â,Á] gF (aA 2 aT (aa (af 0) (aa (af 2) (ah)))) G.length d [t,À (.str s)] (G++[.lst acc])=.ok () (G++[.lst (acc++[v])]):=
    mR (os:=[d]) rfl (by simp! [mask,e]) hs'
   have hv:vals s (p::ps)=vals s ps:=by simp [vals,hp]
   rw [hv];rw [bE,e1];dsimp only;split
   ·rename_i hb;rw [if_pos hb] at ih;obtain ⟨vs,h1,h2,h3⟩:=ih;exact ⟨v::vs,by simpa using ⟨pv,h1⟩,by simp [h2],by rw [h3];simp⟩
   ·rename_i hb;rw [if_neg hb] at ih;exact ih
  ·rw [if_neg hp] at e;obtain ⟨as,e⟩:=e;have hv:¬ vals s (p::ps)=Á:=by simp [vals,hp]
   rw [if_neg hv];refine ⟨as,[.lst acc],?_⟩;rw [bE];have e1:bS oN [Â,Á] gF (aA 2 aT (aa (af 0) (aa (af 2) (ah)))) G.length d [t,À (.str s)] (G++[.lst acc])=.bw (.mk "NoText" as) (G++[.lst acc]):=by simp [bS,oN,gF,mask,e]
   rw [e1]
theorem gr {n:Nat} {ds:List D} {ps:List Pt} (h:Vs n ds ps) (hn:n≤590) (hd:ds.length≤1000) (s:Str) (hs:Þ s=Á) (hl:s.length≤1000) (G:DH) :
  if vals s ps=Á then ∃ vs,(∀ v∈vs,Pl n v)∧cj [.con ds,.str s] G=.ok (.tup vs) G else Rf (cj [.con ds,.str s] G) G:=by
 have e:=oR hn s hs hl (À (.con ds)) G h [] (by simp;nofun);split
 ·rename_i hb;rw [if_pos hb] at e;obtain ⟨vs,h1,h2,e⟩:=e;have hz:vs.length≤Ä:=lz (by nofun);have hcl:aM vs=Á:=gY λv hv=>(h1 v hv).1;rw [â] at e;refine ⟨vs,h1,?_⟩;unfold cj;refine av ?_ (by rw [eN];exact hcl);simp! [gp,e,aR,kj hcl,mG,hz]
 ·rename_i hb;rw [if_neg hb] at e;obtain ⟨as,R,e⟩:=e;refine ⟨as,?_⟩;unfold cj;refine jr (R:=R) ?_;simp! [gp,e,aR,L7]
def Pt.cnt:Pt→Option Nat
 | .w s=>if s="0" then À 0 else if s="1" then À 1 else if s="2" then À 2 else Æ
 | .b _=>Æ
theorem m9 {n:Nat} {d:D} {p:Pt} (h:Vw n d p) (hn:n≤590) (G:DH):match p.cnt with
  | some k=>dO [d] G=.ok (.int k) G
  | none=>Rf (dO [d] G) G:=by
 have hk:=r9 h hn ["0","1","2"] (by symm) G;have z:=z1;simp only [Í,Ý] at hk;have no:p.cnt=Æ→(["0","1","2"]:List Str).any (λs=>p.is s)=Â:=λhc=>by
  cases p with
  | b s=>rfl
  | w s=>
   simp only [Pt.cnt] at hc;by_cases h0:s="0"
   ·rw [if_pos h0] at hc;cases hc
   ·rw [if_neg h0] at hc;by_cases h1:s="1"
    ·rw [if_pos h1] at hc;cases hc
    ·rw [if_neg h1] at hc;by_cases h2:s="2"
     ·rw [if_pos h2] at hc;cases hc
     ·simp [Pt.is,h0,h1,h2]
 cases hc:p.cnt with
 | none=>rw [no hc] at hk;unfold dO;refine bD (as:=[.str "0, 1 or 2 must stand here"]) ?_;simp! [g7,fF,hk,z]
 | some k=>
  cases h with
  | b hs hv=>cases hc
  | @w s hs hl=>
   have h3:(s="0"∧k=0)∨(s="1"∧k=1)∨(s="2"∧k=2):=by
    simp only [Pt.cnt] at hc;by_cases h0:s="0"
    ·rw [if_pos h0] at hc;cases hc;exact .inl ⟨h0,rfl⟩
    ·rw [if_neg h0] at hc;by_cases h1:s="1"
     ·rw [if_pos h1] at hc;cases hc;exact .inr (.inl ⟨h1,rfl⟩)
     ·rw [if_neg h1] at hc;by_cases h2:s="2"
      ·rw [if_pos h2] at hc;cases hc;exact .inr (.inr ⟨h2,rfl⟩)
      ·rw [if_neg h2] at hc;cases hc
   have hi:(["0","1","2"]:List Str).any (λt=>(Pt.w s).is t)=Á∧mJ s [.str "0",.str "1",.str "2"]=À k:=by rcases h3 with ⟨rfl,rfl⟩ | ⟨rfl,rfl⟩ | ⟨rfl,rfl⟩<;>exact ⟨by symm,by symm⟩
   rw [hi.1] at hk;have hx:=hi.2;dsimp only;unfold dO;refine av ?_ fV;simp! [g7,fF,hk,iX,hx]
def Pt.high (p:Pt) (low:Nat):Bool:=p.is "many"||match p.cnt with
 | some k=>decide (low≤k)
 | none=>Â
theorem wU {n:Nat} {d:D} {p:Pt} (h:Vw n d p) (hn:n≤590) (low:Nat) (G:DH):if p.high low=Á then ∃ v,Pl 1 v∧dP [d,.int low] G=.ok v G else Rf (dP [d,.int low] G) G:=by
 have e:=r8 h hn Â "many" (by symm) G;have c:=m9 h hn G;have z:=z1;cases hm:p.is "many" with
 | true=>rw [hm] at e;rw [if_pos (by simp [Pt.high,hm])];refine ⟨.dR,Ga 0,?_⟩;unfold dP;refine av ?_ rfl;simp! [fL,e]
 | false=>
  rw [hm] at e;cases hc:p.cnt with
  | none=>rw [hc] at c;rw [if_neg (by simp [Pt.high,hm,hc])];obtain ⟨as,c⟩:=c;unfold dP;refine bD (as:=as) ?_;simp! [fL,e,c]
  | some k=>
   rw [hc] at c;dsimp only at c;by_cases hk:low≤k
   ·have h1:¬ k<low:=by nofun
    have h2:¬ (k:Int)<(low:Int):=by nofun
    rw [if_pos (by simp [Pt.high,hm,hc,hk])];refine ⟨.int k,zU _ 0,?_⟩;unfold dP;refine av ?_ fV;simp! [fL,e,c,om,h1,h2]
   ·have h1:k<low:=by nofun
    have h2:(k:Int)<(low:Int):=by nofun
    rw [if_neg (by simp [Pt.high,hm,hc,hk])];unfold dP;refine bD (as:=[.str "a high must not be below its low"]) ?_;simp! [fL,e,c,om,h1,h2,z]
def Pt.look (p:Pt):Bool:=p.is "any"||(decide (p=.b "way")||decide (p=.b "look"))
theorem i6 {n:Nat} {d:D} {p:Pt} (h:Vw n d p) (h1:1≤n) (hn:n≤590) (G:DH):if p.look=Á then ∃ v,Pl (n+1) v∧bV [d] G=.ok v G else Rf (bV [d] G) G:=by
 have e:=r8 h hn Â "any" (by symm) G;have ev:=jt h hn "look" (by symm) (by symm) G;have z1:=z1;have z2:=z2;cases h with
 | @w s hs hl=>
  cases hm:(Pt.w s).is "any" with
  | true=>
   rw [hm] at e;rw [if_pos (by simp [Pt.look,hm])];refine ⟨.tup [.str "any"],c6 λx hx=>?_,?_⟩
   ·simp at hx;subst hx;exact d9 (iO (by symm) 0) h1
   ·unfold bV;refine av ?_ (by simp [eN,aV,rG,bh]);simp! [eV,e,z1]
  | false=>rw [hm] at e;rw [if_neg (by intro z;cases z)] at ev;rw [if_neg (by simp [Pt.look,hm])];obtain ⟨as,ev⟩:=ev;unfold bV;refine bD (as:=as) ?_;simp! [eV,e,ev]
 | @b s v hs hv=>
  have a0:cS [D.str s,v] 0=À (.str s):=rfl;have a1:cS [D.str s,v] 1=À v:=rfl;have ew:=cU Â s "way" G hs (by symm);by_cases hw:s="way"
  ·subst hw;rw [if_pos (by simp [Pt.look])];rw [show ((("way":Str)=="way")=Á) by symm] at ew;refine ⟨.tup [.str "way",v],c6 (λx hx=>by
    simp at hx;rcases hx with rfl | rfl
    ·exact d9 (iO hs 0) h1
    ·exact hv),?_⟩
   unfold bV;refine av ?_ (Vw.b hs hv).pl.1;simp! [eV,e,Pt.is,a0,a1,ew,z2]
  ·rw [show (s==("way":Str))=Â by simpa using hw] at ew;by_cases hk:s="look"
   ·subst hk;rw [if_pos (by simp [Pt.look])];rw [if_pos rfl] at ev;obtain ⟨v',p',q',ev⟩:=ev;cases q';refine ⟨v,d9 hv (by nofun),?_⟩;unfold bV;refine av ?_ hv.1;simp! [eV,e,Pt.is,a0,a1,ew,ev]
   ·rw [if_neg (by simp [Pt.look,Pt.is,hw,hk])];rw [if_neg (by intro z;cases z;exact hk rfl)] at ev;obtain ⟨as,ev⟩:=ev;unfold bV;refine bD (as:=as) ?_;simp! [eV,e,Pt.is,a0,a1,ew,ev]
section
def Rv (n:Nat) (b:Bool) (r:Out D) (G:DH):Prop:=if b=Á then ∃ v,Pl n v∧r=.ok v G else Rf r G
def Rr (n:Nat) (o:Option Str) (r:Out D) (G:DH):Prop:=match o with
 | some s=>∃ v,Pl n v∧r=.ok (.tup [.str s,v]) G
 | none=>Rf r G
theorem jb {n:Nat} {b:Bool} {r:Out D} {G:DH} (h:b=Â) (k:Rf r G):Rv n b r G:=by subst h;exact k
theorem uu {n:Nat} {b:Bool} {r:Out D} {G:DH} (h:b=Á) (k:∃ v,Pl n v∧r=.ok v G):Rv n b r G:=by subst h;exact k
theorem Gb {n:Nat} {o:Option Str} {r:Out D} {G:DH} (h:o=Æ) (k:Rf r G):Rr n o r G:=by subst h;exact k
theorem Js {n:Nat} {o:Option Str} {s:Str} {r:Out D} {G:DH} (h:o=À s) (k:∃ v,Pl n v∧r=.ok (.tup [.str s,v]) G):Rr n o r G:=by subst h;exact k
theorem Cc (k:Nat) (l r:List D) (h:l.length=k):cutD (l++r) (À k) Æ=r:=by subst h;simp [cutD,HT.pA,HT.lT]
theorem Vw.Cd {n:Nat} {d:D} {p:Pt} (h:Vw n d p) (h1:1≤n):Pl (n+1) d:=by
 cases h with
 | w h _=>exact iO h _
 | b h v=>
  refine c6 λx hx=>?_;simp at hx;rcases hx with rfl | rfl
  ·exact d9 (iO h 0) h1
  ·exact v
variable {n:Nat} {ds:List D} {ps:List Pt}
theorem qu {d:D} {ds:List D} {ps:List Pt} (h:Vs n ds ps) (hd:ds.length≤1000) (G:DH):(aI ds G).fw G=.ok (.con ds) G:=fD (lz (by nofun)) h.closed
def oS:List Pt→Option Str
 | []=>Æ
 | p::r=>if (p.nm&&vals "tree" r)=Á then À "tree" else Æ
theorem Jt (h:Vs n ds ps) (h1:1≤n) (hn:n≤590) (hd:ds.length≤1000) (G:DH):Rr (n+2) (oS ps) (ck [.con ds] G) G:=by
 have z1:=z1;have z2:=z2;cases h with
 | nil=>show Rf _ _;unfold ck;refine bD (as:=[.str "a tree must have a kind"]) ?_;simp! [dQ,ak,z1]
 | @cons d p ds ps h t=>
  have hl:ds.length≤999:=by simpa using hd
  have e1:=fM h hn G;have e2:=gr t hn (by nofun) "tree" (by symm) (by symm) G;have f2:=qu (d:=d) t (by nofun) G;have hc:cutD (d::ds) (À 1) Æ=ds:=Cc 1 [d] ds rfl;have a0:cS (d::ds) 0=À d:=fC (j:=0) rfl;have hz:ds.length+1≤Ä:=lz (by nofun);have h0:((ds.length:Int)+1==0)=Â:=beq_eq_false_iff_ne.mpr (by nofun);cases hp:p.nm with
  | false=>rw [hp,if_neg (by decide)] at e1;obtain ⟨as,e1⟩:=e1;refine Gb (by simp [oS,hp]) ?_;unfold ck;refine bD (as:=as) ?_;simp! [dQ,ak,hz,h0,a0,e1]
  | true=>
   rw [hp,if_pos rfl] at e1;cases hv:vals "tree" ps with
   | false=>rw [hv,if_neg (by decide)] at e2;obtain ⟨as,e2⟩:=e2;refine Gb (by simp [oS,hv]) ?_;unfold ck;refine bD (as:=as) ?_;simp! [dQ,ak,hz,h0,a0,e1,jW,hc,aR,f2,e2]
   | true=>
    rw [hv,if_pos rfl] at e2;obtain ⟨vs,hvs,e2⟩:=e2;have hP:Pl (n+2) (.tup [d,.tup vs]):=c6 λx hx=>by
     simp at hx;rcases hx with rfl | rfl
     ·exact h.Cd h1
     ·exact c6 hvs
    refine Js (s:="tree") (by simp [oS,hp,hv]) ⟨.tup [d,.tup vs],hP,?_⟩;unfold ck;refine av ?_ (by rw [eN,aV,aV,hP.1,bh];rfl);simp! [dQ,ak,hz,h0,a0,e1,jW,hc,aR,f2,e2,z2]
def AG:List Pt→Bool
 | _::q::z::r=>q.nm&&vals "rule" (z::r)
 | _=>Â
theorem nQ (h:Vs n ds ps) (h1:1≤n) (hn:n≤590) (hd:ds.length≤1000) (G:DH):Rv (n+2) (AG ps) (bK [.con ds] G) G:=by
 have z1:=z1;have z2:=z2;have few:∀ ds:List D,ds.length<3→Rf (bK [.con ds] G) G:=λds hl=>by
  have hz:ds.length≤Ä:=lz (by nofun);have hI:(ds.length:Int)<3:=by nofun
  unfold bK;refine bD (as:=[.str "a shape must have a start and a rule"]) ?_;simp! [cN,hz,om,hl,hI,z1]
 cases h with
 | nil=>exact few [] (by simp)
 | cons ha t=>
  cases t with
  | nil=>exact few _ (by simp)
  | @cons d p _ _ h t=>
   cases t with
   | nil=>exact few _ (by simp)
   | @cons c q ds ps hc t=>
    rename_i a pa;have hl:ds.length≤997:=by simpa using hd
    have Ju:Vs n (c::ds) (q::ps):=.cons hc t;have e1:=fM h hn G;have e2:=gr Ju hn (by simp;nofun) "rule" (by symm) (by symm) G;have f2:=qu (d:=d) Ju (by simp;nofun) G;have kQ:cutD (a::d::c::ds) (À 2) Æ=c::ds:=Cc 2 [a,d] (c::ds) rfl;have a1:cS (a::d::c::ds) 1=À d:=fC (j:=1) rfl;have hz:ds.length+1+1+1≤Ä:=lz (by nofun);have h0:¬ (ds.length+1+1+1<3):=by nofun
    have vc:¬ ((ds.length:Int)+1+1+1<3):=by nofun
    cases hp:p.nm with
    | false=>rw [hp,if_neg (by decide)] at e1;obtain ⟨as,e1⟩:=e1;refine jb (by simp [AG,hp]) ?_;unfold bK;refine bD (as:=as) ?_;simp! [cN,hz,om,h0,vc,a1,e1]
    | true=>
     rw [hp,if_pos rfl] at e1;cases hv:vals "rule" (q::ps) with
     | false=>rw [hv,if_neg (by decide)] at e2;obtain ⟨as,e2⟩:=e2;refine jb (by simp [AG,hv]) ?_;unfold bK;refine bD (as:=as) ?_;simp! [cN,hz,om,h0,vc,a1,e1,jW,kQ,aR,f2,e2]
     | true=>
      rw [hv,if_pos rfl] at e2;obtain ⟨vs,hvs,e2⟩:=e2;refine uu (by simp [AG,hp,hv]) ?_;have hP:Pl (n+2) (.tup [d,.tup vs]):=c6 λx hx=>by
       simp at hx;rcases hx with rfl | rfl
       ·exact h.Cd h1
       ·exact c6 hvs
      refine ⟨.tup [d,.tup vs],hP,?_⟩;unfold bK;refine av ?_ hP.1;simp! [cN,hz,om,h0,vc,a1,e1,jW,kQ,aR,f2,e2,z2]
def vd:List Pt→Bool
 | _::a::b::o::r=>(o.is "row"||o.is "mix")&&(a.nm&&(b.nm&&vals "item" r))
 | _=>Â
theorem qv (h:Vs n ds ps) (h1:1≤n) (hn:n≤590) (hd:ds.length≤1000) (G:DH):Rv (n+2) (vd ps) (bx [.con ds] G) G:=by
 have z1:=z1;have z4:=z4;have few:∀ ds:List D,ds.length<4→Rf (bx [.con ds] G) G:=λds hl=>by
  have hz:ds.length≤Ä:=lz (by nofun);have hI:(ds.length:Int)<4:=by nofun
  unfold bx;refine bD (as:=[.str "a rule must have a name, a kind and an order"]) ?_;simp! [cu,hz,om,hl,hI,z1]
 cases h with
 | nil=>exact few [] (by simp)
 | cons ha t=>
  cases t with
  | nil=>exact few _ (by simp)
  | @cons d p _ _ h t=>
   cases t with
   | nil=>exact few _ (by simp)
   | @cons c q _ _ hc t=>
    cases t with
    | nil=>exact few _ (by simp)
    | @cons o po ds ps ho t=>
     rename_i a pa;have hl:ds.length≤996:=by simpa using hd
     have e1:=fM h hn G;have e2:=fM hc hn G;have e3:=gr t hn (by nofun) "item" (by symm) (by symm) G;have f2:=qu (d:=d) t (by nofun) G;have hk:=r9 ho hn ["row","mix"] (by symm) G;simp only [Í,Ý,R5,Su,ū] at hk;have kQ:cutD (a::d::c::o::ds) (À 4) Æ=ds:=Cc 4 [a,d,c,o] ds rfl;have a1:cS (a::d::c::o::ds) 1=À d:=fC (j:=1) rfl;have a2:cS (a::d::c::o::ds) 2=À c:=fC (j:=2) rfl;have a3:cS (a::d::c::o::ds) 3=À o:=fC (j:=3) rfl;have hz:ds.length+1+1+1+1≤Ä:=lz (by nofun);have h0:¬ (ds.length+1+1+1+1<4):=by nofun
     have vc:¬ ((ds.length:Int)+1+1+1+1<4):=by nofun
     cases Kw:po.is "row"||po.is "mix" with
     | false=>rw [Kw] at hk;refine jb (by rw [vd,Kw];rfl) ?_;unfold bx;refine bD (as:=[.str "a rule must have a name, a kind and an order"]) ?_;simp! [cu,hz,om,h0,vc,a3,fF,hk,z1]
     | true=>
     rw [Kw] at hk;cases hp:p.nm with
     | false=>rw [hp,if_neg (by decide)] at e1;obtain ⟨as,e1⟩:=e1;refine jb (by simp [vd,hp]) ?_;unfold bx;refine bD (as:=as) ?_;simp! [cu,hz,om,h0,vc,a3,fF,hk,a1,e1]
     | true=>
     rw [hp,if_pos rfl] at e1;cases hq:q.nm with
     | false=>rw [hq,if_neg (by decide)] at e2;obtain ⟨as,e2⟩:=e2;refine jb (by simp [vd,hq]) ?_;unfold bx;refine bD (as:=as) ?_;simp! [cu,hz,om,h0,vc,a3,fF,hk,a1,e1,a2,e2]
     | true=>
     rw [hq,if_pos rfl] at e2;cases hv:vals "item" ps with
     | false=>rw [hv,if_neg (by decide)] at e3;obtain ⟨as,e3⟩:=e3;refine jb (by simp [vd,hv]) ?_;unfold bx;refine bD (as:=as) ?_;simp! [cu,hz,om,h0,vc,a3,fF,hk,a1,e1,a2,e2,jW,kQ,aR,f2,e3]
     | true=>
      rw [hv,if_pos rfl] at e3;obtain ⟨vs,hvs,e3⟩:=e3;refine uu (by rw [vd,Kw,hp,hq,hv];rfl) ?_;have hP:Pl (n+2) (.tup [d,c,o,.tup vs]):=c6 λx hx=>by
       simp at hx;rcases hx with rfl | rfl | rfl | rfl
       ·exact h.Cd h1
       ·exact hc.Cd h1
       ·exact ho.Cd h1
       ·exact c6 hvs
      refine ⟨.tup [d,c,o,.tup vs],hP,?_⟩;unfold bx;refine av ?_ hP.1;simp! [cu,hz,om,h0,vc,a3,fF,hk,a1,e1,a2,e2,jW,kQ,aR,f2,e3,z4]
def wV:List Pt→Bool
 | [p,l,h]=>match l.cnt with
  | some k=>p.nm&&h.high k
  | none=>Â
 | _=>Â
theorem qw (h:Vs n ds ps) (h1:1≤n) (hn:n≤590) (hd:ds.length≤1000) (G:DH):Rv (n+2) (wV ps) (bI [.con ds] G) G:=by
 have z1:=z1;have z3:=z3;have few:∀ ds:List D,ds.length≠3→ds.length≤1000→Rf (bI [.con ds] G) G:=λds hl hd=>by have hz:ds.length≤Ä:=lz (by nofun);have hI:((ds.length:Int)==3)=Â:=beq_eq_false_iff_ne.mpr (by nofun);unfold bI;refine bD (as:=[.str "an item must have a name, a low and a high"]) ?_;simp! [cH,hz,ak,hI,z1]
 match ds,ps,h with
 | _,_,.nil=>exact few [] (by simp) (by simp)
 | _,_,.cons _ .nil=>exact few _ (by simp) (by simp)
 | _,_,.cons _ (.cons _ .nil)=>exact few _ (by simp) (by simp)
 | _,_,.cons _ (.cons _ (.cons _ (.cons _ _)))=>exact few _ (by simp) (by simpa using hd)
 | _,_,@Vs.cons _ d p _ _ h (@Vs.cons _ l pl _ _ hl (@Vs.cons _ c q _ _ hc .nil))=>
  have e1:=fM h hn G;have e2:=m9 hl hn G;have a0:cS [d,l,c] 0=À d:=rfl;have a1:cS [d,l,c] 1=À l:=rfl;have a2:cS [d,l,c] 2=À c:=rfl;cases hk:pl.cnt with
  | none=>rw [hk] at e2;obtain ⟨as,e2⟩:=e2;refine jb (by simp [wV,hk]) ?_;unfold bI;refine bD (as:=as) ?_;simp! [cH,z3,ak,a1,e2]
  | some k=>
  rw [hk] at e2;dsimp only at e2;have e3:=wU hc hn k G;cases hp:p.nm with
  | false=>rw [hp,if_neg (by decide)] at e1;obtain ⟨as,e1⟩:=e1;refine jb (by simp [wV,hk,hp]) ?_;unfold bI;refine bD (as:=as) ?_;simp! [cH,z3,ak,a1,e2,a0,e1]
  | true=>
  rw [hp,if_pos rfl] at e1;cases hv:q.high k with
  | false=>rw [hv,if_neg (by decide)] at e3;obtain ⟨as,e3⟩:=e3;refine jb (by simp [wV,hk,hv]) ?_;unfold bI;refine bD (as:=as) ?_;simp! [cH,z3,ak,a1,e2,a0,e1,a2,e3]
  | true=>
   rw [hv,if_pos rfl] at e3;obtain ⟨v,hPv,e3⟩:=e3;refine uu (by simp [wV,hk,hp,hv]) ?_;have hP:Pl (n+2) (.tup [d,.int k,v]):=c6 λx hx=>by
    simp at hx;rcases hx with rfl | rfl | rfl
    ·exact h.Cd h1
    ·exact zU _ _
    ·exact d9 hPv (by nofun)
   refine ⟨.tup [d,.int k,v],hP,?_⟩;unfold bI;refine av ?_ hP.1;simp! [cH,z3,ak,a1,e2,a0,e1,a2,e3]
def fst (s:Str):List Pt→Bool
 | []=>Â
 | p::_=>p.is s
theorem qx (h:Vs n ds ps) (hn:n≤590) (s:Str) (hs:Þ s=Á) (G:DH):eF Â (.con (cutD ds Æ (À 1))) (.con [.str s]) G=.ok (.bl (fst s ps)) G:=by rw [wQ h hn s hs G];cases ps<;>rfl
theorem Dm (h:Vs n ds ps) (G:DH):(aI (cutD ds Æ (À 1)) G).fw G=.ok (.con (cutD ds Æ (À 1))) G:=by
 cases h with
 | nil=>exact fD (ŀ _) rfl
 | @cons d p ds ps h t=>
  have hc:cutD (d::ds) Æ (À 1)=[d]:=by simp [cutD,HT.dI]
  rw [hc];exact fD z1 (by rw [aV,h.pl.1];rfl)
theorem zV (s:Str) (G:DH):(aI [.str s] G).fw G=.ok (.con [.str s]) G:=fD z1 (by rw [aV,bh];rfl)
def kW (ps:List Pt):Option Str:=if fst "start" ps=Á then (if AG ps=Á then À "shape" else Æ) else if fst "rule" ps=Á then (if vd ps=Á then À "rule" else Æ) else if wV ps=Á then À "item" else Æ
theorem se {s:Str} {b:Bool} {r r':Out D} {G:DH} (h:Rv n b r G) (hf:∀ as,r=.bw (.mk "NoText" as) G→r'=.bw (.mk "NoText" as) G) (ht:∀ v,v.closed=Á→r=.ok v G→r'=.ok (.tup [.str s,v]) G):Rr n (if b=Á then À s else Æ) r' G:=by
 cases b with
 | true=>obtain ⟨v,hv,e⟩:=h;exact ⟨v,hv,ht v hv.1 e⟩
 | false=>obtain ⟨as,e⟩:=h;exact ⟨as,hf as e⟩
theorem Jv (h:Vs n ds ps) (h1:1≤n) (hn:n≤590) (hd:ds.length≤1000) (G:DH):Rr (n+2) (kW ps) (aK [.con ds] G) G:=by
 have z2:=z2;have hz:ds.length≤Ä:=lz (by nofun);have q1:=qx h hn "start" (by symm) G;have q2:=qx h hn "rule" (by symm) G;have fc:=Dm h G;have f1:=zV "start" G;have f2:=zV "rule" G;have es:=nQ h h1 hn hd G;have er:=qv h h1 hn hd G;have ei:=qw h h1 hn hd G;generalize hcc:cutD ds Æ (À 1)=cc at q1 q2 fc;have cl:∀ (s:Str) (v:D),v.closed=Á→(D.tup [.str s,v]).closed=Á:=λs v hv=>by rw [eN,aV,aV,hv,bh];rfl
 unfold kW;cases hs:fst "start" ps with
 | true=>
  rw [hs] at q1;rw [if_pos rfl];refine se es (λas e=>?_) λv hv e=>?_
  ·unfold aK;refine dG ?_;simp! [br,jW,hcc,aR,fc,f1,q1,e]
  ·unfold aK;refine av ?_ (cl _ v hv);simp! [br,jW,hcc,aR,fc,f1,q1,e,z2]
 | false=>
  rw [hs] at q1;rw [if_neg (by decide)];cases hr:fst "rule" ps with
  | true=>
   rw [hr] at q2;rw [if_pos rfl];refine se er (λas e=>?_) λv hv e=>?_
   ·unfold aK;refine dG ?_;simp! [br,jW,hcc,aR,fc,f1,q1,f2,q2,e]
   ·unfold aK;refine av ?_ (cl _ v hv);simp! [br,jW,hcc,aR,fc,f1,q1,f2,q2,e,z2]
  | false=>
   rw [hr] at q2;rw [if_neg (by decide)];refine se ei (λas e=>?_) λv hv e=>?_
   ·unfold aK;refine dG ?_;simp! [br,jW,hcc,aR,fc,f1,q1,f2,q2,e]
   ·unfold aK;refine av ?_ (cl _ v hv);simp! [br,jW,hcc,aR,fc,f1,q1,f2,q2,e,z2]
end
section
variable {n:Nat} {ds:List D} {ps:List Pt}
def Jw:List Pt→Bool
 | _::z::r=>vals "step" (z::r)
 | _=>Â
theorem sf (h:Vs n ds ps) (h1:1≤n) (hn:n≤590) (hd:ds.length≤1000) (G:DH):Rv (n+2) (Jw ps) (cR [.con ds] G) G:=by
 have z1:=z1;have few:∀ ds:List D,ds.length<2→Rf (cR [.con ds] G) G:=λds hl=>by
  have hz:ds.length≤Ä:=lz (by nofun);have hI:(ds.length:Int)<2:=by nofun
  unfold cR;refine bD (as:=[.str "a way must have a step"]) ?_;simp! [ff,hz,om,hl,hI,z1]
 cases h with
 | nil=>exact few [] (by simp)
 | cons ha t=>
  cases t with
  | nil=>exact few _ (by simp)
  | @cons c q ds ps hc t=>
   rename_i a pa;have hl:ds.length≤998:=by simpa using hd
   have Ju:Vs n (c::ds) (q::ps):=.cons hc t;have e2:=gr Ju hn (by simp;nofun) "step" (by symm) (by symm) G;have f2:=qu (d:=c) Ju (by simp;nofun) G;have kQ:cutD (a::c::ds) (À 1) Æ=c::ds:=Cc 1 [a] (c::ds) rfl;have hz:ds.length+1+1≤Ä:=lz (by nofun);have h0:¬ (ds.length+1+1<2):=by nofun
   have vc:¬ ((ds.length:Int)+1+1<2):=by nofun
   cases hv:vals "step" (q::ps) with
   | false=>rw [hv,if_neg (by decide)] at e2;obtain ⟨as,e2⟩:=e2;refine jb (by simp [Jw,hv]) ?_;unfold cR;refine bD (as:=as) ?_;simp! [ff,hz,om,h0,vc,jW,kQ,aR,f2,e2]
   | true=>rw [hv,if_pos rfl] at e2;obtain ⟨vs,hvs,e2⟩:=e2;have hP:Pl (n+2) (.tup vs):=d9 (c6 hvs) (by nofun);refine uu (by simp [Jw,hv]) ⟨.tup vs,hP,?_⟩;unfold cR;refine av ?_ hP.1;simp! [ff,hz,om,h0,vc,jW,kQ,aR,f2,e2]
def kX:List Pt→Bool
 | [p,q]=>if p.is "kind"=Á then q.nm else p.is "not"&&q.look
 | [p,q,r]=>(p.is "both"||p.is "either")&&(q.look&&r.look)
 | _=>Â
theorem qy (h:Vs n ds ps) (h1:1≤n) (hn:n≤590) (hd:ds.length≤1000) (G:DH):Rv (n+2) (kX ps) (aN [.con ds] G) G:=by
 have z1:=z1;have z2:=z2;have z3:=z3;have few:∀ ds:List D,ds.length≠2→ds.length≠3→ds.length≤1000→Rf (aN [.con ds] G) G:=λds hl hl3 hd=>by have hz:ds.length≤Ä:=lz (by nofun);have hI:((ds.length:Int)==2)=Â:=beq_eq_false_iff_ne.mpr (by nofun);have hJ:((ds.length:Int)==3)=Â:=beq_eq_false_iff_ne.mpr (by nofun);unfold aN;refine bD (as:=[.str "no step, look or way stands in these brackets"]) ?_;simp! [aX,hz,ak,hI,hJ,z1]
 match ds,ps,h with
 | _,_,.nil=>exact few [] (by simp) (by simp) (by simp)
 | _,_,.cons _ .nil=>exact few _ (by simp) (by simp) (by simp)
 | _,_,.cons _ (.cons _ (.cons _ (.cons _ _)))=>exact few _ (by simp) (by simp) (by simpa using hd)
 | _,_,@Vs.cons _ d p _ _ h (@Vs.cons _ c q _ _ hc .nil)=>
  have e1:=fM hc hn G;have e2:=i6 hc h1 hn G;have k1:=r8 h hn Â "kind" (by symm) G;have k2:=r8 h hn Â "not" (by symm) G;have a0:cS [d,c] 0=À d:=rfl;have a1:cS [d,c] 1=À c:=rfl;cases hk:p.is "kind" with
  | true=>
   rw [hk] at k1;cases hq:q.nm with
   | true=>
    rw [hq,if_pos rfl] at e1;have hP:Pl (n+2) (.tup [.str "kind",c]):=c6 λx hx=>by
     simp at hx;rcases hx with rfl | rfl
     ·exact iO (by symm) _
     ·exact hc.Cd h1
    refine uu (by simp [kX,hk,hq]) ⟨_,hP,?_⟩;unfold aN;refine av ?_ hP.1;simp! [aX,z2,ak,a0,k1,a1,e1]
   | false=>rw [hq,if_neg (by decide)] at e1;obtain ⟨as,e1⟩:=e1;refine jb (by simp [kX,hk,hq]) ?_;unfold aN;refine bD (as:=as) ?_;simp! [aX,z2,ak,a0,k1,a1,e1]
  | false=>
   rw [hk] at k1;cases hm:p.is "not" with
   | true=>
    rw [hm] at k2;cases hq:q.look with
    | true=>
     rw [hq,if_pos rfl] at e2;obtain ⟨v,hv,e2⟩:=e2;have hP:Pl (n+2) (.tup [.str "not",v]):=c6 λx hx=>by
      simp at hx;rcases hx with rfl | rfl
      ·exact iO (by symm) _
      ·exact hv
     refine uu (by simp [kX,hk,hm,hq]) ⟨_,hP,?_⟩;unfold aN;refine av ?_ hP.1;simp! [aX,z2,ak,a0,k1,k2,a1,e2]
    | false=>rw [hq,if_neg (by decide)] at e2;obtain ⟨as,e2⟩:=e2;refine jb (by simp [kX,hk,hq]) ?_;unfold aN;refine bD (as:=as) ?_;simp! [aX,z2,ak,a0,k1,k2,a1,e2]
   | false=>rw [hm] at k2;refine jb (by simp [kX,hk,hm]) ?_;unfold aN;refine bD (as:=[.str "no step, look or way stands in these brackets"]) ?_;simp! [aX,z2,ak,a0,k1,k2,z1]
 | _,_,@Vs.cons _ d p _ _ h (@Vs.cons _ c q _ _ hc (@Vs.cons _ b r _ _ hb .nil))=>
  have e1:=i6 hc h1 hn G;have e2:=i6 hb h1 hn G;have hk:=r9 h hn ["both","either"] (by symm) G;simp only [Í,Ý,R5,Su,ū] at hk;have a0:cS [d,c,b] 0=À d:=rfl;have a1:cS [d,c,b] 1=À c:=rfl;have a2:cS [d,c,b] 2=À b:=rfl;cases ho:p.is "both"||p.is "either" with
  | false=>rw [ho] at hk;refine jb (by rw [kX,ho];rfl) ?_;unfold aN;refine bD (as:=[.str "no step, look or way stands in these brackets"]) ?_;simp! [aX,z3,z2,ak,a0,ja,hk,z1]
  | true=>
  rw [ho] at hk;cases hq:q.look with
  | false=>rw [hq,if_neg (by decide)] at e1;obtain ⟨as,e1⟩:=e1;refine jb (by simp [kX,hq]) ?_;unfold aN;refine bD (as:=as) ?_;simp! [aX,z3,z2,ak,a0,ja,hk,a1,e1]
  | true=>
  rw [hq,if_pos rfl] at e1;obtain ⟨v,hv,e1⟩:=e1;cases hr:r.look with
  | false=>rw [hr,if_neg (by decide)] at e2;obtain ⟨as,e2⟩:=e2;refine jb (by simp [kX,hr]) ?_;unfold aN;refine bD (as:=as) ?_;simp! [aX,z3,z2,ak,a0,ja,hk,a1,e1,a2,e2]
  | true=>
   rw [hr,if_pos rfl] at e2;obtain ⟨u,hu,e2⟩:=e2;have hP:Pl (n+2) (.tup [d,v,u]):=c6 λx hx=>by
    simp at hx;rcases hx with rfl | rfl | rfl
    ·exact h.Cd h1
    ·exact hv
    ·exact hu
   refine uu (by rw [kX,ho,hq,hr];rfl) ⟨_,hP,?_⟩;unfold aN;refine av ?_ hP.1;simp! [aX,z3,z2,ak,a0,ja,hk,a1,e1,a2,e2]
def goes (p:Pt):Bool:=p.is "down"||(p.is "deep"||p.is "later")
def nB:List Pt→Bool
 | [p,_]=>goes p
 | _=>Â
def Jx:List Pt→Bool
 | [_,q]=>q.look
 | _=>Â
def kr (ps:List Pt):Option Str:=if fst "way" ps=Á then (if Jw ps=Á then À "way" else Æ) else if nB ps=Á then (if Jx ps=Á then À "step" else Æ) else if kX ps=Á then À "look" else Æ
theorem Jy (h:Vs n ds ps) (h1:1≤n) (hn:n≤590) (hd:ds.length≤1000) (G:DH):Rr (n+2) (kr ps) (aP [.con ds] G) G:=by
 have z2:=z2;have hz:ds.length≤Ä:=lz (by nofun);have q1:=qx h hn "way" (by symm) G;have fc:=Dm h G;have f1:=zV "way" G;have es:=sf h h1 hn hd G;have el:=qy h h1 hn hd G;generalize hcc:cutD ds Æ (À 1)=cc at q1 fc;have cl:∀ (s:Str) (v:D),v.closed=Á→(D.tup [.str s,v]).closed=Á:=λs v hv=>by rw [eN,aV,aV,hv,bh];rfl
 cases hs:fst "way" ps with
 | true=>
  rw [hs] at q1;rw [kr,if_pos hs];refine se es (λas e=>?_) λv hv e=>?_
  ·unfold aP;refine dG ?_;simp! [bL,jW,hcc,aR,fc,f1,q1,e]
  ·unfold aP;refine av ?_ (cl _ v hv);simp! [bL,jW,hcc,aR,fc,f1,q1,e,z2]
 | false=>
  rw [hs] at q1;have rest:(∀ (a b:MS) (G':DH),G'=G→(gj (dh (aj (eF Â) (ai c5 (aa (af 0) (ah))) (eC (.int 2)))) (dh (aj (fF "GOES" ["down","deep","later"] Â) (aj bO (af 0) (eC (.int 0))) (eC (.fn "GOES"))))) [À (.con ds)] G'=.ok Â G)→Rr (n+2) (if kX ps=Á then À "look" else Æ) (aP [.con ds] G) G:=λht=>by
   have ht:=ht aL aL G rfl;refine se el (λas e=>?_) λv hv e=>?_
   ·unfold aP;refine dG ?_;simp [zv,dM,bO,aG,bL,jW,hcc,aR,fc,f1,q1,ht,e,-pS]
   ·unfold aP;refine av ?_ (cl _ v hv);simp [zv,dM,bO,aG,dJ,bL,jW,hcc,aR,fc,f1,q1,ht,e,z2,-pS]
  match ds,ps,h with
  | _,_,@Vs.cons _ d p _ _ h (@Vs.cons _ c q _ _ hc .nil)=>
   have e2:=i6 hc h1 hn G;have hk:=r9 h hn ["down","deep","later"] (by symm) G;simp only [Í,Ý,R5,Su,ū] at hk;have a0:cS [d,c] 0=À d:=rfl;have a1:cS [d,c] 1=À c:=rfl;have hk':tG d [D.str "down",D.str "deep",D.str "later"] G=À (goes p):=hk;cases hg:goes p with
   | false=>
    rw [hg] at hk';rw [kr,if_neg (by rw [hs];decide),if_neg (by rw [nB,hg];decide)];exact rest λ_ _ G' hG=>by subst hG;simp! [z2,ak,a0,fF,hk']
   | true=>
    rw [hg] at hk';rw [kr,if_neg (by rw [hs];decide),if_pos (by rw [nB,hg])];cases hq:q.look with
    | false=>rw [hq,if_neg (by decide)] at e2;obtain ⟨as,e2⟩:=e2;refine Gb (by simp [Jx,hq]) ?_;unfold aP;refine bD (as:=as) ?_;simp! [bL,jW,hcc,aR,fc,f1,q1,z2,ak,a0,fF,hk',a1,e2]
    | true=>
     rw [hq,if_pos rfl] at e2;obtain ⟨v,hv,e2⟩:=e2;have hP:Pl (n+2) (.tup [d,v]):=c6 λx hx=>by
      simp at hx;rcases hx with rfl | rfl
      ·exact h.Cd h1
      ·exact hv
     refine Js (s:="step") (by simp [Jx,hq]) ⟨_,hP,?_⟩;unfold aP;refine av ?_ (cl _ _ hP.1);simp! [bL,jW,hcc,aR,fc,f1,q1,z2,ak,a0,fF,hk',a1,e2]
  | [],_,.nil=>
   rw [kr,if_neg (by rw [hs];decide),if_neg (by decide)];exact rest λ_ _ G' hG=>by subst hG;simp! [ak]
  | [_],_,.cons _ .nil=>
   rw [kr,if_neg (by rw [hs];decide),if_neg (by simp [nB])];exact rest λ_ _ G' hG=>by subst hG;simp! [ak,z1]
  | _::_::_::ds,_,.cons _ (.cons _ (.cons _ _))=>
   rw [kr,if_neg (by rw [hs];decide),if_neg (by simp [nB])];have h2:((ds.length:Int)+1+1+1==2)=Â:=beq_eq_false_iff_ne.mpr (by nofun);have hz':ds.length+1+1+1≤Ä:=by simpa using hz
   exact rest λ_ _ G' hG=>by subst hG;simp! [ak,hz',h2]
end
section
def Fr (G:DH):List Nat→List (List D)→Prop
 | [],[]=>True
 | o::os,ds::sk=>G[o]?=À (.lst ds)∧Fr G os sk
 | _,_=>False
theorem Fr.mono {G G':DH}:∀ {os:List Nat} {sk:List (List D)},(∀ o∈os,∀ x,G[o]?=À x→G'[o]?=À x)→Fr G os sk→Fr G' os sk
 | [],[],_,_=>trivial
 | o::os,ps::sk,hg,⟨e,f⟩=>⟨hg o (by simp) _ e,Fr.mono (λo ho=>hg o (by simp [ho])) f⟩
 | [],_::_,_,f=>f.elim
 | _::_,[],_,f=>f.elim
theorem Fr.len {G:DH}:∀ {os:List Nat} {sk:List (List D)},Fr G os sk→os.length=sk.length
 | [],[],_=>rfl
 | o::os,ps::sk,⟨e,f⟩=>congrArg (·+1) (Fr.len f)
 | [],_::_,f=>f.elim
 | _::_,[],f=>f.elim
structure St (G0 G:DH) (u:Nat) (ok:List Nat) (sk:List (List D)):Prop where
 pre:∃ X,G=G0++X
 hu:G[u]?=À (.lst (ok.reverse.map .obj))
 fr:Fr G ok sk
 nd:ok.Nodup
 nu:u∉ok
 ge:G0.length≤u∧∀ o∈ok,G0.length≤o
theorem jS {G0 G:DH} (h:∃ X,G=G0++X) {i:Nat} (hi:G0.length≤i) (x:DO):∃ X,G.set i x=G0++X:=by obtain ⟨X,rfl⟩:=h;exact ⟨_,ŋ _ _ hi⟩
theorem pre_app {G0 G:DH} (h:∃ X,G=G0++X) (E:DH):∃ X,G++E=G0++X:=by obtain ⟨X,rfl⟩:=h;exact ⟨X++E,by simp⟩
theorem get_set {G:DH} {i j:Nat} {x y:DO} (h:G[j]?=À y) (hn:i≠j):(G.set i x)[j]?=À y:=by rw [ß hn];exact h
theorem lF {G:DH} {i:Nat} {x y:DO} (h:G[i]?=À y):(G.set i x)[i]?=À x:=by have:=(É.mp h).1;rw [ù,if_pos rfl,if_pos this]
theorem oU {G:DH} {i:Nat} {y:DO} (h:G[i]?=À y):i<G.length:=(É.mp h).1
variable {G0 G:DH} {u:Nat} {ok:List Nat} {sk:List (List D)}
theorem Dn:∀ {ok:List Nat} {sk:List (List D)},Fr G ok sk→∀ o∈ok,o<G.length
 | [],[],_,o,ho=>by simp at ho
 | p::os,ps::sk,⟨e,f⟩,o,ho=>by
  rcases Ò.mp ho with rfl | ho
  ·exact oU e
  ·exact Dn f o ho
 | [],_::_,f,_,_=>f.elim
 | _::_,[],f,_,_=>f.elim
theorem St.push (s:St G0 G u ok sk):St G0 ((G++[DO.lst []]).set u (DO.lst ((G.length::ok).reverse.map D.obj))) u (G.length::ok) ([]::sk):=by
 have lu:=oU s.hu;have hlt:=Dn s.fr;have PD:G0.length≤G.length:=by obtain ⟨X,rfl⟩:=s.pre;simp
 have nn:G.length∉ok:=λh=>absurd (hlt _ h) (Ą _);refine ⟨jS (pre_app s.pre _) s.ge.1 _,lF (kc s.hu),⟨get_set (CY _ _ _) (by nofun),s.fr.mono λo ho x e=>get_set (kc e) λz=>s.nu (z▸ho)⟩,ĕ.mpr ⟨nn,s.nd⟩,?_,s.ge.1,?_⟩
 ·intro h;rcases Ò.mp h with h | h
  ·nofun
  ·exact s.nu h
 ·intro o ho;rcases Ò.mp ho with rfl | ho
  ·exact PD
  ·exact s.ge.2 o ho
theorem St.add {o:Nat} {d:D} {ds:List D} (s:St G0 G u (o::ok) (ds::sk)):St G0 (G.set o (.lst (ds++[d]))) u (o::ok) ((ds++[d])::sk):=by have nd:=ĕ.mp s.nd;have no:u≠o:=λz=>s.nu (by simp [z]);exact ⟨jS s.pre (s.ge.2 o (by simp)) _,get_set s.hu no.symm,⟨lF s.fr.1,s.fr.2.mono λq hq x e=>get_set e λz=>nd.1 (z▸hq)⟩,s.nd,s.nu,s.ge⟩
theorem St.pop {o:Nat} {ds:List D} (s:St G0 G u (o::ok) (ds::sk)):St G0 (G.set u (.lst (ok.reverse.map .obj))) u ok sk:=by have nd:=ĕ.mp s.nd;exact ⟨jS s.pre s.ge.1 _,lF s.hu,s.fr.2.mono λq hq x e=>get_set e λz=>s.nu (by simp [z,hq]),nd.2,λh=>s.nu (by simp [h]),s.ge.1,λq hq=>s.ge.2 q (by simp [hq])⟩
theorem St.PF {o:Nat} (s:St G0 G u ok sk) (h0:G0.length≤o) (hu:u≠o) (ho:o∉ok):St G0 (G.set o .dead) u ok sk:=
 ⟨jS s.pre h0 _,get_set s.hu hu.symm,s.fr.mono λq hq x e=>get_set e λz=>ho (z▸hq),s.nd,s.nu,s.ge⟩
theorem lG {α:Type} (xs:List α) (x:α):cS (xs++[x]) (-1)=À x:=by unfold cS CN;rw [if_neg (by nofun),if_pos (by simp;nofun)];show (xs++[x])[(-1+((xs++[x]).length:Int)).toNat]?=À x;rw [show (-1+((xs++[x]).length:Int)).toNat=xs.length by simp;nofun];simp
structure Wo (w:Str):Prop where
 ok:Þ w=Á
 o:(w==("(":Str))=Â
 s:(w==(")":Str))=Â
theorem wW (s:St G0 G u ok sk) (hlen:ok.length≤100000) (t f b4:Option D) :
  au [t,f,À (.obj u),À (.str "("),b4] G=.nx [t,f,À (.obj u),À (.str "("),b4] ((G++[DO.lst []]).set u (DO.lst ((G.length::ok).reverse.map D.obj))):=by
 have e:=cU Â "(" "(" G (by symm) (by symm);rw [show ((("(":Str)==("(":Str))=Á) by symm] at e;have hz:ok.length<Ä:=Ë (by nofun) (lz (n:=100001) (by nofun));have PJ:(G++[DO.lst []])[u]?=À (.lst (ok.reverse.map .obj)):=kc s.hu;have hu:=s.hu;simp! [au,e,hu,PJ,hz,aI]
theorem wX {w:Str} (hw:Wo w) {o:Nat} {ds:List D} (s:St G0 G u (o::ok) (ds::sk)) (hl:ds.length≤100000) (t f b4:Option D) :
  au [t,f,À (.obj u),À (.str w),b4] G=.nx [t,f,À (.obj u),À (.str w),b4] (G.set o (.lst (ds++[.str w]))):=by
 have e:=cU Â w "(" G hw.ok (by symm);have e1:=cU Â w ")" G hw.ok (by symm);rw [hw.o] at e;rw [hw.s] at e1;have hz:ds.length<Ä:=Ë (by nofun) (lz (n:=100001) (by nofun));have hu:=s.hu;have hd:=s.fr.1;simp only [Ğ,ÿ,Í,Ý] at hu;simp! [au,e,e1,hu,lG,hd,hz]
structure Gd (f:Str) (mf:List D→M D) (mk:List Pt→Option Str):Prop where
 tb:ï f [("make_tree",ck),("make_in_shape",aK),("make_in_way",aP)]=À mf
 run:∀ {n:Nat} {ds:List D} {ps:List Pt},Vs n ds ps→1≤n→n≤590→ds.length≤1000→∀ G,Rr (n+2) (mk ps) (mf [.con ds] G) G
 ok:∀ {ps:List Pt} {s:Str},mk ps=À s→Þ s=Á
variable {f:Str} {mf:List D→M D} {mk:List Pt→Option Str}
theorem Ce (M:Gd f mf mk) {o o2:Nat} {ds Ge:List D} (s:St G0 G u (o::o2::ok) (ds::Ge::sk)) (hl:Ge.length≤100000) (t b4:Option D):∃ G2,St G0 G2 u (o2::ok) (Ge::sk) ∧
  (∀ v,mf [.con ds] G2=.ok v G2→au [t,À (.fn f),À (.obj u),À (.str ")"),b4] G=.nx [t,À (.fn f),À (.obj u),À (.str ")"),À (.obj o)] (G2.set o2 (.lst (Ge++[v])))) ∧
  ∀ c,mf [.con ds] G2=.bw c G2→au [t,À (.fn f),À (.obj u),À (.str ")"),b4] G=.xn c [t,À (.fn f),À (.obj u),À (.str ")"),À (.obj o)] G2:=by
 have e:=cU Â ")" "(" G (by symm) (by symm);have e1:=cU Â ")" ")" G (by symm) (by symm);rw [show ((")":Str)==("(":Str))=Â by symm] at e;rw [show ((")":Str)==(")":Str))=Á by symm] at e1;have nd:=ĕ.mp s.nd;have no:u≠o:=λz=>s.nu (by simp [z]);have RA:o≠o2:=λz=>nd.1 (by simp [z]);have sp:=s.pop;have sd:=sp.PF (s.ge.2 o (by simp)) no nd.1;refine ⟨_,sd,?_⟩;have hz:Ge.length<Ä:=Ë (by nofun) (lz (n:=100001) (by nofun));have hu:=s.hu;have Cg:=sp.hu;have hd':(G.set u (.lst ((o2::ok).reverse.map .obj)))[o]?=À (.lst ds):=get_set s.fr.1 no;have hd2:=sp.fr.1;have Mr:=sd.fr.1;have htb:=M.tb;generalize Ky:G.set u (.lst ((o2::ok).reverse.map .obj))=G1 at sp Cg hd' hd2 Mr;simp only [Ğ,ÿ,Í,Ý] at Cg Ky hu;have hne:((ok.length:Int)+1==0)=Â:=by simp;nofun
 have hdl:(((ok.reverse.map D.obj)++[D.obj o2])++[D.obj o]).dropLast=(ok.reverse.map D.obj)++[D.obj o2]:=List.dropLast_concat;have hix:(((ok.reverse.map D.obj)++[D.obj o2])++[D.obj o])[(((ok.reverse.map D.obj)++[D.obj o2])++[D.obj o]).length - 1]?=À (D.obj o):=by simp
 have ep:(aY 4 (cP "list" pK (af 2) ah)) [t,À (.fn f),À (.obj u),À (.str ")"),b4] G=.nx [t,À (.fn f),À (.obj u),À (.str ")"),À (.obj o)] G1:=by simp only [kg,y9,fS,Č,č,jg,fQ,hu,tW,pK,hix,hdl,beq_self_eq_true,if_true,oH,è,é,Ky]
 have ei:(fJ (dh (aj (eF Â) (ai c5 (aa (af 2) (ah))) (eC (.int 0)))) (cy "NoText" (aa (eC (.str "a bracket is shut that was never begun")) (ah))) (aL)) [t,À (.fn f),À (.obj u),À (.str ")"),À (.obj o)] G1=.nx [t,À (.fn f),À (.obj u),À (.str ")"),À (.obj o)] G1:=by simp! [Cg,ak,hne]
 have NC:(Out.ok (D.obj o) G1).fz=.ok (.con ds) (G1.set o .dead):=by simp only [Out.fz,hd']
 refine ⟨λv hm'=>?_,λc hm'=>?_⟩
 ·simp only [au,oG,rE,jJ,fS,pR,Č,č,jg,ao,e,e1,mP,yW,yX,Bool.false_xor];rw [cJ,gX,ep,jI,gX,ei,jI];simp! [Cg,lG,hd2,NC,htb,hm',Mr,hz]
 ·simp only [au,oG,rE,jJ,fS,pR,Č,č,jg,ao,e,e1,mP,yW,yX,Bool.false_xor];rw [cJ,gX,ep,jI,gX,ei,jI];simp! [Cg,lG,hd2,NC,htb,hm',Mr,hz]
theorem wY {o:Nat} {ds:List D} (s:St G0 G u [o] [ds]) (t b4:Option D):∃ as τ R,au [t,À (.fn f),À (.obj u),À (.str ")"),b4] G=.xn (.mk "NoText" as) τ (G0++R):=by have e:=cU Â ")" "(" G (by symm) (by symm);have e1:=cU Â ")" ")" G (by symm) (by symm);rw [show ((")":Str)==("(":Str))=Â by symm] at e;rw [show ((")":Str)==(")":Str))=Á by symm] at e1;have sp:=s.pop;obtain ⟨R,hR⟩:=sp.pre;have hu:=s.hu;have Cg:=sp.hu;simp only [Ğ,SE,â,Í,Ý] at hu Cg hR;have z1:=z1;refine ⟨[.str "a bracket is shut that was never begun"],[t,À (.fn f),À (.obj u),À (.str ")"),À (.obj o)],R,?_⟩;rw [← hR];generalize Ky:G.set u (.lst [])=G1 at Cg;simp! [au,e,e1,cJ,hu,Ky,Cg,ak,z1]
end
section
def zW (mk:List Pt→Option Str):List (List Pt)→Option (List (List Pt))
 | ps::q::st=>(mk ps).map λs=>(q++[.b s])::st
 | _=>Æ
def Jz (w:Str):List (List Pt)→Option (List (List Pt))
 | q::st=>À ((q++[.w w])::st)
 | []=>Æ
def run (mk:List Pt→Option Str):List (List Pt)→List Str→Option (List (List Pt))
 | st,[]=>À st
 | st,w::ws=>(if w="(" then À ([]::st) else if w=")" then zW mk st else Jz w st).bind λst'=>run mk st' ws
section
variable {mk:List Pt→Option Str} {st:List (List Pt)} {ps q:List Pt} {w s:Str} {ws:List Str}
theorem gH:run mk st ("("::ws)=run mk ([]::st) ws:=by rw [run,if_pos rfl];rfl
theorem oV:¬ ((")":Str)="("):=by symm
theorem qA:run mk [ps] (")"::ws)=Æ:=by rw [run,if_neg oV,if_pos rfl];rfl
theorem jT (h:mk ps=À s):run mk (ps::q::st) (")"::ws)=run mk ((q++[.b s])::st) ws:=by rw [run,if_neg oV,if_pos rfl,zW,h];rfl
theorem lH (h:mk ps=Æ):run mk (ps::q::st) (")"::ws)=Æ:=by rw [run,if_neg oV,if_pos rfl,zW,h];rfl
theorem gI (ho:¬ w="(") (hs:¬ w=")"):run mk (q::st) (w::ws)=run mk ((q++[.w w])::st) ws:=by rw [run,if_neg ho,if_neg hs];rfl
end
inductive xA (n:Nat):List (List D)→List (List Pt)→Prop
 | nil:xA n [] []
 | cons {ds:List D} {ps:List Pt} {sk:List (List D)} {st:List (List Pt)}:Vs n ds ps→xA n sk st→xA n (ds::sk) (ps::st)
theorem xA.mono {n m:Nat} (hm:n≤m):∀ {sk:List (List D)} {st:List (List Pt)},xA n sk st→xA m sk st
 | _,_,.nil=>.nil
 | _,_,.cons h t=>.cons (h.mono hm) (t.mono hm)
structure Ms (w:Str):Prop where
 ok:Þ w=Á
 len:w.length≤1000
variable {G0:DH} {u:Nat} {f:Str} {mf:List D→M D} {mk:List Pt→Option Str}
def Lp (G0:DH) (u:Nat) (t:Option D) (f:Str) (G:DH) (b3 b4:Option D) (ws:List Str) (o:Option (List (List Pt))):Prop:=match o with
 | some st'=>∃ G' ok' ND GQ sk' n',bZ (gN 3) au (ws.map .str) [t,À (.fn f),À (.obj u),b3,b4] G=.nx [t,À (.fn f),À (.obj u),ND,GQ] G'∧St G0 G' u ok' sk'∧xA n' sk' st'∧n'≤590∧sk'≠[]∧sk'.length≤1000∧∀ l∈sk',l.length≤1000
 | none=>∃ as τ R,bZ (gN 3) au (ws.map .str) [t,À (.fn f),À (.obj u),b3,b4] G=.xn (.mk "NoText" as) τ (G0++R)
theorem zX {t:Option D} {G G':DH} {b3 b4 GQ:Option D} {w:Str} {ws:List Str} {o:Option (List (List Pt))} (e:au [t,À (.fn f),À (.obj u),À (.str w),b4] G=.nx [t,À (.fn f),À (.obj u),À (.str w),GQ] G')
  (h:Lp G0 u t f G' (À (.str w)) GQ ws o):Lp G0 u t f G b3 b4 (w::ws) o:=by
 have k:bZ (gN 3) au ((w::ws).map .str) [t,À (.fn f),À (.obj u),b3,b4] G=bZ (gN 3) au (ws.map .str) [t,À (.fn f),À (.obj u),À (.str w),GQ] G':=by rw [Í,cV rfl];simp only [è,é,e,kJ]
 unfold Lp at h ⊢;rw [k];exact h
theorem JA {t:Option D} {G R:DH} {b3 b4:Option D} {w:Str} {ws:List Str} {as:List D} {τ:DS} (e:au [t,À (.fn f),À (.obj u),À (.str w),b4] G=.xn (.mk "NoText" as) τ (G0++R)):Lp G0 u t f G b3 b4 (w::ws) Æ:=by refine ⟨as,τ,R,?_⟩;rw [Í,cV rfl];simp only [è,é,e,IS]
theorem lI (M:Gd f mf mk) (t:Option D):∀ (ws:List Str) (n:Nat) (G:DH) (ok:List Nat) (b3 b4:Option D) (sk:List (List D)) (st:List (List Pt)),St G0 G u ok sk→xA n sk st→sk≠[]→1≤n→n+2*ws.length≤590→(∀ l∈sk,l.length+ws.length≤1000)→sk.length+ws.length≤1000→(∀ w∈ws,Ms w)→Lp G0 u t f G b3 b4 ws (run mk st ws)
 | [],n,G,ok,b3,b4,sk,st,s,v,hne,h1,hn,hl,hk,hw=>⟨G,ok,b3,b4,sk,n,by simp [bZ],s,v,by simpa using hn,hne,by simpa using hk,λl h=>by simpa using hl l h⟩
 | w::ws,n,G,ok,b3,b4,sk,st,s,v,hne,h1,hn,hl,hk,hw=>by
  have hlen:=s.fr.len;have ww:=hw w (by simp);have Mt:∀ w∈ws,Ms w:=λx hx=>hw x (by simp [hx]);simp only [ŵ] at hn hl hk;by_cases ho:w="("
  ·subst ho;have e:=wW s (by nofun) t (À (.fn f)) b4;rw [gH];exact zX e (lI M t ws n _ _ _ _ _ _ s.push (.cons .nil v) (by simp) h1 (by nofun) (λl hl'=>by
    rcases Ò.mp hl' with rfl | hl'
    ·simp;nofun
    ·have:=hl l hl';nofun) (by simp;nofun) Mt)
  ·by_cases hs:w=")"
   ·subst hs
    match ok,sk,st,s,v with
    | [],[],_,_,_=>exact absurd rfl hne
    | [o],[ds],_,s,.cons v1 .nil=>obtain ⟨as,τ,R,e⟩:=wY (f:=f) s t b4;rw [qA];exact JA e
    | o::o2::ok,ds::Ge::sk,_,s,@xA.cons _ _ ps _ _ v1 (@xA.cons _ _ q _ st' v2 v3)=>
     have hl2:=hl Ge (by simp);have hl1:=hl ds (by simp);obtain ⟨G2,s2,eg,ex⟩:=Ce M s (by nofun) t b4;have m:=M.run v1 h1 (by nofun) (by nofun) G2;cases hm:mk ps with
     | none=>rw [hm] at m;obtain ⟨as,m⟩:=m;obtain ⟨R,hR⟩:=s2.pre;have e:=ex _ m;rw [hR] at e;rw [lH hm];exact JA e
     | some sr=>
      rw [hm] at m;obtain ⟨x,hx,m⟩:=m;have e:=eg _ m;rw [jT hm];refine zX e (lI M t ws (n+2) _ _ _ _ _ _ s2.add (.cons ((v2.mono (by nofun)).app (.cons (.b (M.ok hm) hx) .nil)) (v3.mono (by nofun))) (by simp) (by nofun) (by nofun) (λl hl'=>?_) (by simp at hk ⊢;nofun) Mt);rcases Ò.mp hl' with rfl | hl'
      ·simp;nofun
      ·have:=hl l (by simp [hl']);nofun
   ·match ok,sk,st,s,v with
    | [],[],_,_,_=>exact absurd rfl hne
    | o::ok,ds::sk,_,s,@xA.cons _ _ ps _ st' v1 v2=>
     have hl1:=hl ds (by simp);have e:=wX ⟨ww.ok,by simpa using ho,by simpa using hs⟩ s (by nofun) t (À (.fn f)) b4;rw [gI ho hs];refine zX e (lI M t ws n _ _ _ _ _ _ s.add (.cons (v1.app (.cons (.w ww.ok ww.len) .nil)) v2) (by simp) h1 (by nofun) (λl hl'=>?_) (by simp at hk ⊢;nofun) Mt);rcases Ò.mp hl' with rfl | hl'
     ·simp;nofun
     ·have:=hl l (by simp [hl']);nofun
structure Tx (x:Str) (ws:List Str):Prop where
 ch:∀ c∈x.cps.toList,c<1114112
 le:x.length≤100000
 lex:(dX [] x.cps.toList).map bT=ws
 few:ws.length≤290
 ok:∀ w∈ws,Ms w
def sj:Option (List (List Pt))→Option Pt
 | some [[p]]=>À p
 | _=>Æ
theorem zY {a b:List Pt} {c:List (List Pt)}:sj (À (a::b::c))=Æ:=by
 unfold sj;split
 ·rename_i h;simp at h
 ·rfl
theorem wZ {a b:Pt} {c:List Pt}:sj (À [a::b::c])=Æ:=by
 unfold sj;split
 ·rename_i h;simp at h
 ·rfl
theorem su (M:Gd f mf mk) {x:Str} {ws:List Str} (T:Tx x ws) (G:DH):match sj (run mk [[]] ws) with
  | some p=>∃ n d,n≤590∧Vw n d p∧aE [.str x,.fn f] G=.ok d G
  | none=>Rf (aE [.str x,.fn f] G) G:=by
 have ew:=zT x T.ch T.le (G++[.lst [],.lst [.obj G.length]]);have hm:((dX [] x.cps.toList).map λw=>D.str (bT w))=ws.map .str:=by rw [← T.lex,ň];rfl
 rw [hm] at ew;have few:=T.few;have z1:=z1;have z0:(0:Nat)≤Ä:=ŀ _;have s0:St G (G++[.lst [],.lst [.obj G.length]]) (G.length+1) [G.length] [[]]:=by refine ⟨⟨_,rfl⟩,?_,⟨CY _ _ _,trivial⟩,by simp,by simp,by nofun,by simp⟩;exact M5 _ _ _ _
 have L:=lI M (À (.str x)) ws 1 _ _ Æ Æ _ [[]] s0 (.cons .nil .nil) (by simp) (by nofun) (by nofun) (by simp;nofun) (by simp;nofun) T.ok;cases hr:run mk [[]] ws with
 | none=>rw [hr] at L;obtain ⟨as,τ,R,e⟩:=L;show Rf _ _;refine ⟨as,?_⟩;unfold aE;refine jr (R:=R) ?_;simp! [bB,aI,z1,ew,e]
 | some st=>
  rw [hr] at L;obtain ⟨G',ok',ND,GQ,sk',n',e,s',v',hn',hne,Kc,PK⟩:=L;obtain ⟨X,hX⟩:=s'.pre;have hu:=s'.hu
  match ok',sk',st,s',v' with
  | [],[],_,s',.nil=>exact absurd rfl hne
  | _::_::ok',_::_::sk',_,s',.cons _ (.cons _ v3)=>
   have hlen:=s'.fr.len;rw [zY];show Rf _ _;have h2:(1:Int)<(ok'.length:Int)+2:=by nofun
   have hz:ok'.length+1+1≤Ä:=lz (by simp at hlen Kc;nofun);refine ⟨[.str "a bracket is not shut"],?_⟩;unfold aE;refine jr (R:=X) ?_;rw [← hX];simp! [bB,aI,z1,ew,e,bW,hu,h2,hz]
  | [o],[ds],_,s',@xA.cons _ _ ps _ _ v1 .nil=>
   have hd:=s'.fr.1;simp only [Ğ,SE,â,Í,Ý] at hu;have a0:cS [D.obj o] 0=À (.obj o):=rfl;have hdl:ds.length≤Ä:=lz (by have:=PK ds (by simp);nofun)
   match ds,ps,v1 with
   | [d],_,@Vs.cons _ _ p _ _ v .nil=>refine ⟨n',d,hn',v,?_⟩;unfold aE;refine jO (R:=X) ?_ v.pl.1;rw [← hX];have a1:cS [d] 0=À d:=rfl;simp! [bB,aI,z1,ew,e,bW,hu,hd,ya,ak,a0,a1]
   | [],_,.nil=>show Rf _ _;refine ⟨[.str "a text must write one thing"],?_⟩;unfold aE;refine jr (R:=X) ?_;rw [← hX];simp! [bB,aI,z1,ew,e,bW,hu,hd,ya,ak,a0]
   | _::_::ds,_,.cons _ (.cons _ _)=>
    rw [wZ];show Rf _ _;have h3:((ds.length:Int)+1+1==1)=Â:=beq_eq_false_iff_ne.mpr (by nofun);have hz:ds.length+1+1≤Ä:=by simpa using hdl
    refine ⟨[.str "a text must write one thing"],?_⟩;unfold aE;refine jr (R:=X) ?_;rw [← hX];simp! [bB,aI,z1,ew,e,bW,hu,hd,ya,ak,a0,h3,hz]
end
theorem Gf {ps:List Pt} {s:Str} (h:oS ps=À s):Þ s=Á:=by
 cases ps with
 | nil=>cases h
 | cons p r=>
  have h':(if (p.nm&&vals "tree" r)=Á then À ("tree":Str) else Æ)=À s:=h;split at h'
  ·cases h';symm
  ·cases h'
theorem Gg {ps:List Pt} {s:Str} (h:kW ps=À s):Þ s=Á:=by
 unfold kW at h
 repeat' split at h
 all_goals first | (cases h;symm) | cases h
theorem Gh {ps:List Pt} {s:Str} (h:kr ps=À s):Þ s=Á:=by
 unfold kr at h
 repeat' split at h
 all_goals first | (cases h;symm) | cases h
theorem Mu {f g:Str} {m:List D→M D} {l:List (Str×(List D→M D))} {o:Option (List D→M D)} (h:(f==g)=Â) (k:ï f l=o):ï f ((g,m)::l)=o:=by rw [æ,h];exact k
theorem JB:Gd "make_tree" ck oS:=⟨by simp [ï],Jt,Gf⟩
theorem JC:Gd "make_in_shape" aK kW:=⟨Mu (by symm) rfl,Jv,Gg⟩
theorem JD:Gd "make_in_way" aP kr:=⟨Mu (by symm) (Mu (by symm) rfl),Jy,Gh⟩
def kB (k:Nat):List Pt→Option Str:=if k=0 then oS else if k=1 then kW else kr
def Kz (k:Nat):Str:=if k=0 then "tree" else if k=1 then "shape" else "way"
def reads (k:Nat) (ws:List Str):Prop:=run (kB k) [[]] ws=À [[.b (Kz k)]]
theorem w6 {o:Option (List (List Pt))} {p:Pt} (h:sj o=À p):o=À [[p]]:=by
 unfold sj at h;split at h
 ·cases h;rfl
 ·cases h
theorem nc {f:Str} {mf:List D→M D} {mk:List Pt→Option Str} (Mk:Gd f mf mk) {x:Str} {ws:List Str} (T:Tx x ws) (s:Str) (hs:Þ s=Á) (hl:s.length≤1000) (rd:List D→M D) (hrd:∀ G,rd [.str x] G=aZ (λds=>cD 1 (bg (aA 2 aT (aa (aA 2 aE (aa (af 0) (aa (eC (.fn f)) (ah)))) (aa (eC (.str s)) (ah))))) ds) [.str x] G) (G:DH) :
  (run mk [[]] ws=À [[.b s]]→∃ v,v.closed=Á∧rd [.str x] G=.ok v G)∧(run mk [[]] ws≠À [[.b s]]→Rf (rd [.str x] G) G):=by
 have e:=su Mk T G;rw [hrd];cases hp:sj (run mk [[]] ws) with
 | none=>
  rw [hp] at e;obtain ⟨as,e⟩:=e;refine ⟨λh=>?_,λ_=>bD (as:=as) ?_⟩
  ·rw [h] at hp;cases hp
  ·simp! [e]
 | some p=>
  rw [hp] at e;obtain ⟨n,d,hn,v,e⟩:=e;have ev:=jt v hn s hs hl G;have hr:=w6 hp;by_cases hb:p=.b s
  ·rw [if_pos hb] at ev;obtain ⟨y,py,_,ev⟩:=ev;refine ⟨λ_=>⟨y,py.1,av ?_ py.1⟩,λh=>absurd (by rw [hr,hb]) h⟩;simp! [e,ev]
  ·rw [if_neg hb] at ev;obtain ⟨as,ev⟩:=ev;refine ⟨λh=>?_,λ_=>bD (as:=as) ?_⟩
   ·rw [hr] at h;simp at h;exact absurd h hb
   ·simp! [e,ev]
theorem ng {x:Str} {ws:List Str} (T:Tx x ws) (k:Nat) (hk:k≤2) (G:DH):(reads k ws→∃ v,v.closed=Á∧bM [.int k,.str x] G=.ok v G)∧(¬ reads k ws→Rf (bM [.int k,.str x] G) G):=by
 have hT:=nc JB T "tree" (by symm) (by symm) fh (λ_=>rfl) G;have hS:=nc JC T "shape" (by symm) (by symm) d7 (λ_=>rfl) G;have hW:=nc JD T "way" (by symm) (by symm) gc (λ_=>rfl) G;have fin:∀ (r:Out D) (k:Nat),(∀ v,r=.ok v G→(λds=>cD 2 bf ds) [.int k,.str x] G=.ok v G)→(∀ c,r=.bw c G→(λds=>cD 2 bf ds) [.int k,.str x] G=.bw c G)→∀ P:Prop,(P→∃ v,v.closed=Á∧r=.ok v G)∧(¬ P→Rf r G)→(P→∃ v,v.closed=Á∧bM [.int k,.str x] G=.ok v G)∧(¬ P→Rf (bM [.int k,.str x] G) G):=λr k h1 h2 P h=>by
  refine ⟨λp=>?_,λp=>?_⟩
  ·obtain ⟨v,hv,e⟩:=h.1 p;exact ⟨v,hv,av (h1 v e) hv⟩
  ·obtain ⟨as,e⟩:=h.2 p;exact ⟨as,dG (h2 _ e)⟩
 match k,hk with
 | 0,_=>exact fin _ 0 (λv e=>by simp! [bf,ak,e]) (λc e=>by simp! [bf,ak,e]) _ hT
 | 1,_=>exact fin _ 1 (λv e=>by simp! [bf,ak,e]) (λc e=>by simp! [bf,ak,e]) _ hS
 | 2,_=>exact fin _ 2 (λv e=>by simp! [bf,ak,e]) (λc e=>by simp! [bf,ak,e]) _ hW
theorem zZ {p:Str→Option Bool} {i:Nat} {m:MS} {r:XD→MS} {n:Str} {as:List D} {τ:DS} {G:DH}:l8 p i m r (.mk n as) τ G=match p n with
  | some Á=>yC i (m (τ.set i (À (.lW n as))) G)
  | some Â=>r (.mk n as) τ G
  | none=>.stuck:=È rfl rfl
theorem Ci {i:Nat} {d:D} {G:DH}:yC i (.rt d G)=.rt d G:=È rfl rfl
theorem nh {d:D} {k:Int} {G:DH} (h:Rf (bM [.int k,d] G) G):bC [.int k,d] G=.ok (.bl Á) G:=by
 obtain ⟨as,e⟩:=h;have l1:ï ("NoText":Str) [(("NoText":Str),Á)]=À Á:=by symm
 have l2:ï ("NoText":Str) [(("NoText":Str),Â)]=À Â:=by symm
 unfold bC;refine av ?_ rfl;simp! [gf,zg,e,IW,zZ,l1,l2,fq,gW,Ci]
section
def nO (ws:List Str):Nat:=ws.countP λ(w:Str)=>decide (w=("(":Str))
def nS (ws:List Str):Nat:=ws.countP λ(w:Str)=>decide (w=(")":Str))
theorem qB (a b:List Str):nO (a++b)=nO a+nO b:=Sh
theorem qC (a b:List Str):nS (a++b)=nS a+nS b:=Sh
variable {mk:List Pt→Option Str}
theorem lJ:∀ (ws:List Str) (st st':List (List Pt)),run mk st ws=À st'→st'.length+nS ws=st.length+nO ws
 | [],st,st',h=>by cases h;rfl
 | w::ws,st,st',h=>by
  by_cases ho:w="("
  ·subst ho;rw [gH] at h;have:=lJ ws _ _ h;have q:¬ (("(":Str)=")"):=by symm
   simp [nO,nS,q] at this ⊢;nofun
  ·by_cases hs:w=")"
   ·subst hs
    match st with
    | []=>cases h
    | [ps]=>rw [qA] at h;cases h
    | ps::q::st=>
     cases hm:mk ps with
     | none=>rw [lH hm] at h;cases h
     | some s=>rw [jT hm] at h;have:=lJ ws _ _ h;simp [nO,nS,oV] at this ⊢;nofun
   ·match st with
    | []=>rw [run,if_neg ho,if_neg hs] at h;cases h
    | q::st=>rw [gI ho hs] at h;have:=lJ ws _ _ h;simp [nO,nS,ho,hs] at this ⊢;nofun
theorem i7 {k:Nat} {ws:List Str} (h:reads k ws):nS ws=nO ws:=by have:=lJ _ _ _ h;simpa using this
structure oW (w:Str):Prop where
 o:¬ w="("
 s:¬ w=")"
 nm:xy w=Â
 no:∀ t∈(["start","rule","row","mix","0","1","2","many","way","down","deep","later","kind","not","both","either","any"]:List Str),¬ w=t
theorem oW.is {w:Str} (h:oW w) (t:Str) (ht:t∈(["start","rule","row","mix","0","1","2","many","way","down","deep","later","kind","not","both","either","any"]:List Str)):(Pt.w w).is t=Â:=by have:=h.no t ht;simp [Pt.is,this]
theorem oW.cnt {w:Str} (h:oW w):(Pt.w w).cnt=Æ:=by simp [Pt.cnt,h.no "0" (by symm),h.no "1" (by symm),h.no "2" (by symm)]
theorem oW.look {w:Str} (h:oW w):(Pt.w w).look=Â:=by simp [Pt.look,h.is "any" (by symm)]
theorem oW.high {w:Str} (h:oW w) (k:Nat):(Pt.w w).high k=Â:=by simp [Pt.high,h.is "many" (by symm),h.cnt]
theorem jU {w:Str} {s:Str} {ps:List Pt} (h:Pt.w w∈ps):vals s ps=Â:=by unfold vals;rw [List.all_eq_false];exact ⟨_,h,by simp⟩
theorem Cj {w:Str} (h:oW w) {ps:List Pt} (hm:Pt.w w∈ps):oS ps=Æ:=by
 match ps,hm with
 | p::r,hm=>
  rcases Ò.mp hm with rfl | hm
  ·simp [oS,Pt.nm,h.nm]
  ·simp [oS,jU hm]
theorem Cm {w:Str} (h:oW w) {ps:List Pt} (hm:Pt.w w∈ps) (hf:fst "start" ps=Á):AG ps=Â:=by
 match ps,hm with
 | p::r,hm=>
  rcases Ò.mp hm with rfl | hm
  ·have hf':(Pt.w w).is "start"=Á:=hf;rw [h.is "start" (by symm)] at hf';cases hf'
  ·match r,hm with
   | [q],hm=>rfl
   | q::z::r,hm=>
    rcases Ò.mp hm with rfl | hm
    ·simp [AG,Pt.nm,h.nm]
    ·rw [AG,jU hm];simp
theorem Cn {w:Str} (h:oW w) {ps:List Pt} (hm:Pt.w w∈ps) (hf:fst "rule" ps=Á):vd ps=Â:=by
 match ps,hm with
 | p::r,hm=>
  rcases Ò.mp hm with rfl | hm
  ·have hf':(Pt.w w).is "rule"=Á:=hf;rw [h.is "rule" (by symm)] at hf';cases hf'
  ·match r,hm with
   | [_],hm=>rfl
   | [_,_],hm=>rfl
   | q::z::o::r,hm=>
    rcases Ò.mp hm with rfl | hm
    ·simp [vd,Pt.nm,h.nm]
    ·rcases Ò.mp hm with rfl | hm
     ·simp [vd,Pt.nm,h.nm]
     ·rcases Ò.mp hm with rfl | hm
      ·simp [vd,h.is "row" (by symm),h.is "mix" (by symm)]
      ·rw [vd,jU hm];simp
theorem Co {w:Str} (h:oW w) {ps:List Pt} (hm:Pt.w w∈ps):wV ps=Â:=by
 match ps,hm with
 | [_],hm=>rfl
 | [_,_],hm=>rfl
 | _::_::_::_::_,hm=>rfl
 | [p,l,q],hm=>
  rw [wV];simp only [Ò,Ŷ,or_false] at hm;rcases hm with rfl | rfl | rfl
  ·cases l.cnt<;>simp [Pt.nm,h.nm]
  ·rw [h.cnt]
  ·cases l.cnt<;>simp [h.high]
theorem Cp {w:Str} (h:oW w) {ps:List Pt} (hm:Pt.w w∈ps):kW ps=Æ:=by
 unfold kW;by_cases h1:fst "start" ps=Á
 ·rw [if_pos h1,Cm h hm h1];rfl
 ·rw [if_neg h1];by_cases h2:fst "rule" ps=Á
  ·rw [if_pos h2,Cn h hm h2];rfl
  ·rw [if_neg h2,Co h hm];rfl
theorem Cq {w:Str} (h:oW w) {ps:List Pt} (hm:Pt.w w∈ps) (hf:fst "way" ps=Á):Jw ps=Â:=by
 match ps,hm with
 | p::r,hm=>
  rcases Ò.mp hm with rfl | hm
  ·have hf':(Pt.w w).is "way"=Á:=hf;rw [h.is "way" (by symm)] at hf';cases hf'
  ·match r,hm with
   | z::r,hm=>exact jU hm
theorem Cr {w:Str} (h:oW w) {ps:List Pt} (hm:Pt.w w∈ps):kr ps=Æ:=by
 unfold kr;by_cases h1:fst "way" ps=Á
 ·rw [if_pos h1,Cq h hm h1];rfl
 ·rw [if_neg h1]
  match ps,hm with
  | [_],hm=>simp [nB,kX]
  | _::_::_::_::_,hm=>simp [nB,kX]
  | [p,q,r],hm=>
   simp only [Ò,Ŷ,or_false] at hm;rcases hm with rfl | rfl | rfl
   ·simp [nB,kX,h.is "both" (by symm),h.is "either" (by symm)]
   ·simp [nB,kX,h.look]
   ·simp [nB,kX,h.look]
  | [p,q],hm=>
   simp only [Ò,Ŷ,or_false] at hm;rcases hm with rfl | rfl
   ·simp [nB,kX,goes,h.is "down" (by symm),h.is "deep" (by symm),h.is "later" (by symm),h.is "kind" (by symm),h.is "not" (by symm)]
   ·simp [nB,Jx,kX,h.look,Pt.nm,h.nm]
theorem z5 {w:Str} (h:oW w) (k:Nat) {ps:List Pt} (hm:Pt.w w∈ps):kB k ps=Æ:=by
 unfold kB;by_cases h0:k=0
 ·rw [if_pos h0];exact Cj h hm
 ·rw [if_neg h0];by_cases h1:k=1
  ·rw [if_pos h1];exact Cp h hm
  ·rw [if_neg h1];exact Cr h hm
theorem gJ {w:Str} (hb:∀ ps,Pt.w w∈ps→mk ps=Æ):∀ (ws:List Str) (st st':List (List Pt)),run mk st ws=À st'→(∃ l∈st,Pt.w w∈l)→∃ l∈st',Pt.w w∈l
 | [],st,st',h,k=>by cases h;exact k
 | x::ws,st,st',h,k=>by
  obtain ⟨l,hl,hw⟩:=k;by_cases ho:x="("
  ·subst ho;rw [gH] at h;exact gJ hb ws _ _ h ⟨l,by simp [hl],hw⟩
  ·by_cases hs:x=")"
   ·subst hs
    match st,hl with
    | [ps],_=>rw [qA] at h;cases h
    | ps::q::st,hl=>
     cases hm:mk ps with
     | none=>rw [lH hm] at h;cases h
     | some s=>
      rw [jT hm] at h;rcases Ò.mp hl with rfl | hl
      ·rw [hb _ hw] at hm;cases hm
      ·rcases Ò.mp hl with rfl | hl
       ·exact gJ hb ws _ _ h ⟨_,ô,ì _ hw⟩
       ·exact gJ hb ws _ _ h ⟨l,by simp [hl],hw⟩
   ·match st,hl with
    | q::st,hl=>
     rw [gI ho hs] at h;rcases Ò.mp hl with rfl | hl
     ·exact gJ hb ws _ _ h ⟨_,ô,ì _ hw⟩
     ·exact gJ hb ws _ _ h ⟨l,by simp [hl],hw⟩
theorem oX {w:Str} (ho:¬ w="(") (hs:¬ w=")") (hb:∀ ps,Pt.w w∈ps→mk ps=Æ):∀ (ws:List Str) (st st':List (List Pt)),run mk st ws=À st'→w∈ws→∃ l∈st',Pt.w w∈l
 | x::ws,st,st',h,k=>by
  by_cases hx:x=w
  ·subst hx
   match st with
   | []=>rw [run,if_neg ho,if_neg hs] at h;cases h
   | q::st=>rw [gI ho hs] at h;exact gJ hb ws _ _ h ⟨_,ô,by simp⟩
  ·have k':w∈ws:=by
    rcases Ò.mp k with z | z
    ·exact absurd z.symm hx
    ·exact z
   rw [run] at h;obtain ⟨st1,_,h⟩:=Option.bind_eq_some_iff.mp h;exact oX ho hs hb ws _ _ h k'
theorem w9 {k:Nat} {ws:List Str} {w:Str} (h:oW w) (hm:w∈ws):¬ reads k ws:=λr=>by obtain ⟨l,hl,hw⟩:=oX h.o h.s (λps=>z5 h k) _ _ _ r hm;simp at hl;subst hl;simp at hw
def kL (mk:List Pt→Option Str) (ws:List Str) (ps:List Pt):Prop:=∀ l st rest,run mk (l::st) (ws++rest)=run mk ((l++ps)::st) rest
theorem qD:kL mk [] []:=λl st rest=>by simp
theorem kC {a b:List Str} {p q:List Pt} (h:kL mk a p) (k:kL mk b q):kL mk (a++b) (p++q):=λl st rest=>by rw [Ü,h,k,Ü]
theorem qE {w:Str} (ho:¬ w="(") (hs:¬ w=")"):kL mk [w] [.w w]:=λl st rest=>gI ho hs
theorem fB {ws:List Str} {ps:List Pt} {s:Str} (h:kL mk ws ps) (hm:mk ps=À s):kL mk (("(":Str)::(ws++[(")":Str)])) [.b s]:=λl st rest=>by rw [Ē,gH,Ü,h,â,Ē,â,jT hm]
theorem ve {w:Str} {ws:List Str} {ps:List Pt} (ho:¬ w="(") (hs:¬ w=")") (h:kL mk ws ps):kL mk (w::ws) (.w w::ps):=kC (qE ho hs) h
theorem iP {k:Nat} {ws:List Str} (h:kL (kB k) ws [.b (Kz k)]):reads k ws∧¬ reads k (ws++ws)∧¬ reads k []:=by
 have h1:=h [] [] [];have h2:=h [] [] ws;have h3:=h [.b (Kz k)] [] [];simp only [ò,â] at h1 h2 h3;refine ⟨h1.trans rfl,λr=>?_,λr=>?_⟩
 ·unfold reads at r;rw [h2,h3] at r;simp [run] at r
 ·unfold reads at r;simp [run] at r
theorem qF:∀ (pre:List Str) (l:List Pt) (st:List (List Pt)) (rest:List Str),(∀ w∈pre,¬ w=")")→∃ l' st',run mk (l::st) (pre++rest)=run mk (l'::st') rest
 | [],l,st,rest,_=>⟨l,st,rfl⟩
 | w::pre,l,st,rest,h=>by
  have hs:=h w (by simp);have h':∀ w∈pre,¬ w=")":=λx hx=>h x (by simp [hx]);by_cases ho:w="("
  ·subst ho;rw [Ē,gH];exact qF pre _ _ _ h'
  ·rw [Ē,gI ho hs];exact qF pre _ _ _ h'
theorem sy:∀ (b:List Str),(∀ w∈b,¬ w="("∧¬ w=")")→kL mk b (b.map .w)
 | [],_=>qD
 | w::b,h=>ve (h w (by simp)).1 (h w (by simp)).2 (sy b λx hx=>h x (by simp [hx]))
theorem sA {k:Nat} {pre b rest:List Str} (hp:∀ w∈pre,¬ w=")") (hb:∀ w∈b,¬ w="("∧¬ w=")") (hm:kB k (b.map .w)=Æ):¬ reads k (pre++("(":Str)::(b++(")":Str)::rest)):=λr=>by unfold reads at r;obtain ⟨l,st,e⟩:=qF (mk:=kB k) pre [] [] (("(":Str)::(b++(")":Str)::rest)) hp;rw [e,gH,sy b hb,â,lH hm] at r;cases r
end
def Dp (w:List Nat):Prop:=∀ x∈w,x≠32∧x≠10∧x≠40∧x≠41
structure Pn (w:Str):Prop where
 ne:w.cps.toList≠[]
 wd:Dp w.cps.toList
 ch:∀ c∈w.cps.toList,c<1114112
 le:w.length≤20
def LW (w:Str):Prop:=w="("∨w=")"∨Pn w
theorem JE (a b:List Nat) (G:DH) (h:a.length+b.length≤2000000):aB (.str (bT a)) (.str (bT b)) G=.ok (.str (bT (a++b))) G:=by
 have e:bT a++bT b=bT (a++b):=pT (by show ((bT a).cps++(bT b).cps).toList=_;simp [bT])
 have hz:(bT a).length+(bT b).length≤Ä:=by rw [gq,gq];exact lz h
 simp [aB,hz,e]
theorem sC {w:Str} (h:Pn w):(!(à ("()":Str) w 0 ("()":Str).length 1).isEmpty)=Â:=by
 cases e:(!(à ("()":Str) w 0 ("()":Str).length 1).isEmpty) with
 | false=>rfl
 | true=>
  obtain ⟨i,h1,h2⟩:=(StrLaws.found_iff _ _).mp e;unfold Builtin.Str.subAt at h2;rw [beq_iff_eq] at h2;obtain ⟨a,ha⟩:=Ť _ h.ne;have hm:a∈(("()":Str).cps.extract i (i+w.length)).toList:=by rw [h2];exact ha
  have hm':a∈("()":Str).cps.toList:=by rw [Array.toList_extract] at hm;exact Ĳ (ĳ hm)
  have:("()":Str).cps.toList=[40,41]:=by symm
  rw [this] at hm';have hw:=h.wd a ha;simp at hm';nofun
theorem Ct (t0:List Nat) (a:Nat) (G:DH) (hl:t0.length≤100000):bO (.str (bT (t0++[a]))) (.int (-1)) G=.ok (.str ⟨#[a]⟩) G:=by
 have ha:cS (t0++[a]) (-1)=À a:=lG t0 a;have hz:(bT (t0++[a])).length≤Ä:=by rw [gq];exact lz (by simp;nofun)
 simp only [bO,aG,hz,if_true,fT,ha]
def sep (c:Bool):List Nat:=if c=Á then [32] else []
theorem sD (tl:List Nat) (w:Str) (sp c:Bool) (a0:Option D) (G:DH) (hl:tl.length≤100000) (hw:w.length≤100) (h:(gj (dh (aj (eF Á) (af 2) (eC (.str "")))) (gj (j4 (dh (aj (ja Á) (af 3) (eC (.str "()")))) (cO dM (af 1))) (dh (aj (ja Á) (aj bO (af 2) (tL (eC (.int 1)))) (eC (.str "(")))))) [a0,À (.bl sp),À (.str (bT tl)),À (.str w)] G=.ok c G) :
  b5 [a0,À (.bl sp),À (.str (bT tl)),À (.str w)] G=.nx [a0,À (.bl sp),À (.str (bT (tl++sep c++w.cps.toList))),À (.str w)] G:=by
 have hwl:w.cps.toList.length≤100:=by rw [← str_len];exact hw
 have aw:∀ t:List Nat,t.length≤100001→aB (.str (bT t)) (.str w) G=.ok (.str (bT (t++w.cps.toList))) G:=λt h=>by
  have:=JE t w.cps.toList G (by nofun)
  rwa [oK] at this
 have ab:aB (.str (bT tl)) (.str " ") G=.ok (.str (bT (tl++[32]))) G:=JE tl [32] G (by simp;nofun);cases c with
 | true=>have a2:=aw (tl++[32]) (by simp;nofun);simp only [b5,gX,oG,h,yW,kg,jJ,fS,pR,Č,č,jg,ao,ab,oH,è,é,jI,a2,sep,if_true]
 | false=>have a2:=aw tl (by nofun);simp only [b5,gX,oG,h,yX,pQ,kg,jJ,fS,pR,Č,č,jg,ao,oH,è,é,jI,a2,sep,Se,if_false,ò]
theorem xg (tl:List Nat) (w:Str) (sp:Bool) (a0:Option D) (ht:∀ c∈tl,c<1114112) (hl:tl.length≤100000) (hw:w.length≤100):∃ c:Bool,(∀ G,b5 [a0,À (.bl sp),À (.str (bT tl)),À (.str w)] G=.nx [a0,À (.bl sp),À (.str (bT (tl++sep c++w.cps.toList))),À (.str w)] G) ∧
  (∀ t0 a,tl=t0++[a]→a≠40→Pn w→c=Á):=by
 have hg:Þ (bT tl)=Á:=u9 ht;rcases RJ tl with rfl | ⟨t0,a,rfl⟩
 ·refine ⟨Â,λG=>sD [] w sp Â a0 G hl hw ?_,λt0 a h=>by simp at h⟩;have e0:=cU Á (bT []) "" G hg (by symm);rw [show (bT []==("":Str))=Á by symm] at e0;simp! [e0]
 ·rw [RK] at *;have hne:(bT (t0++[a])==("":Str))=Â:=by
   cases q:(bT (t0++[a])==("":Str)) with
   | false=>rfl
   | true=>
    rw [beq_iff_eq] at q;have:=congrArg (λs:Str=>s.cps.toList) q;simp only [fT] at this;have h0:("":Str).cps.toList=[]:=by symm
    rw [h0] at this;simp at this
  refine ⟨(((Á ^^ !(à ("()":Str) w 0 ("()":Str).length 1).isEmpty)||sp)&&(Á ^^ decide (a∈[40]))),λG=>sD _ w sp _ a0 G hl hw ?_,λt1 b h hb hp=>?_⟩
  ·have e0:=cU Á (bT (t0++[a])) "" G hg (by symm);rw [hne] at e0;have ei:=Ct t0 a G (by simp at hl;nofun);have eo:=StrLaws.found_one ("(":Str) a;have Jk:("(":Str).cps.toList=[40]:=by symm
   rw [Jk] at eo;have NF:ja Á (.str ⟨#[a]⟩) (.str "(") G=.ok (.bl (Á ^^ decide (a∈[40]))) G:=by simp only [ja,aG];rw [eo]
   have ew:ja Á (.str w) (.str "()") G=.ok (.bl (Á ^^ !(à ("()":Str) w 0 ("()":Str).length 1).isEmpty)) G:=by simp only [ja,aG]
   generalize (Á ^^ !(à ("()":Str) w 0 ("()":Str).length 1).isEmpty)=b1 at ew;generalize (Á ^^ decide (a∈[40]))=b2 at NF;simp only [pS,FD,rE,yZ,jJ,FE,FF,fS,pR,Č,č,jg,ao,e0,mP,Bool.xor_false,if_true,ew];cases b1<;>cases sp<;>simp [dM,ei,NF]
  ·obtain ⟨_,h2⟩:=List.append_inj' h rfl;cases h2;rw [sC hp];have:¬ a∈[40]:=by simpa using hb
   simp [this]
def Ti (tl:List Nat) (ws:List Str):Prop:=∃ (cur:List Nat) (pre:List (List Nat)),(∀ r,dX [] (tl++r)=pre++dX cur r)∧pre++pW cur=ws.map (λw=>w.cps.toList)∧Dp cur∧(cur=[]∨∃ t0,tl=t0++cur)
theorem ni:∀ (w cur r:List Nat),Dp w→dX cur (w++r)=dX (cur++w) r
 | [],cur,r,_=>by simp
 | x::w,cur,r,h=>by have hx:=h x (by simp);rw [Ē,dX,if_neg hx.1,if_neg hx.2.1,if_neg hx.2.2.1,if_neg hx.2.2.2,ni w (cur++[x]) r λy hy=>h y (by simp [hy])];simp
theorem Cu {tl:List Nat} {ws:List Str} {w:Str} {c:Bool} (T:Ti tl ws) (hw:LW w) (hc:∀ t0 a,tl=t0++[a]→a≠40→Pn w→c=Á):Ti (tl++sep c++w.cps.toList) (ws++[w]):=by
 obtain ⟨cur,pre,h1,h2,h3,h4⟩:=T;have qP:∀ r,dX cur (sep c++r)=(if c=Á then pW cur++dX [] r else dX cur r):=λr=>by cases c<;>simp [sep,dX]
 have z7:Dp []:=λx hx=>by simp at hx
 rcases hw with rfl | rfl | hp
 ·refine ⟨[],pre++pW cur++[[40]],λr=>?_,?_,z7,.inl rfl⟩
  ·have e:(("(":Str).cps.toList)=[40]:=by symm
   rw [e,Ü,Ü,h1,qP];cases c<;>simp [dX,jP]
  ·have e:(("(":Str).cps.toList)=[40]:=by symm
   rw [h2,jP,ò,ÿ,Í,e];rfl
 ·refine ⟨[],pre++pW cur++[[41]],λr=>?_,?_,z7,.inl rfl⟩
  ·have e:((")":Str).cps.toList)=[41]:=by symm
   rw [e,Ü,Ü,h1,qP];cases c<;>simp [dX,jP]
  ·have e:((")":Str).cps.toList)=[41]:=by symm
   rw [h2,jP,ò,ÿ,Í,e];rfl
 ·refine ⟨w.cps.toList,pre++pW cur,λr=>?_,?_,hp.wd,.inr ⟨tl++sep c,rfl⟩⟩
  ·rw [Ü,Ü,h1,qP];cases hcc:c with
   | true=>simp [ni _ _ _ hp.wd]
   | false=>
    have Mv:cur=[]:=by
     rcases h4 with h | ⟨t0,h⟩
     ·exact h
     ·rcases RJ cur with h' | ⟨c0,a,h'⟩
      ·exact h'
      ·rw [RK] at h';have:=hc (t0++c0) a (by rw [h,h',Ü]) (h3 a (by rw [h'];simp)).2.2.1 hp;rw [hcc] at this;cases this
    subst Mv;simp [ni _ _ _ hp.wd,jP]
  ·rw [h2,ÿ];congr 1;have hne:=hp.ne;unfold pW;cases e:w.cps.toList with
   | nil=>exact absurd e hne
   | cons x y=>simp [e]
theorem oY (sp:Bool) (a0:Option D):∀ (ws ps:List Str) (tl:List Nat) (b:Option D),Ti tl ps→(∀ c∈tl,c<1114112)→tl.length≤21*ps.length→ps.length+ws.length≤290→(∀ w∈ws,LW w) →
  ∃ tl' b',(∀ G,bZ (gN 3) b5 (ws.map .str) [a0,À (.bl sp),À (.str (bT tl)),b] G=.nx [a0,À (.bl sp),À (.str (bT tl')),b'] G)∧Ti tl' (ps++ws)∧(∀ c∈tl',c<1114112)∧tl'.length≤21*(ps.length+ws.length)
 | [],ps,tl,b,T,hc,hl,hn,hw=>⟨tl,b,λG=>by simp [bZ],by simpa using T,hc,by simpa using hl⟩
 | w::ws,ps,tl,b,T,hc,hl,hn,hw=>by
  have ww:=hw w (by simp);have hn':ps.length+(ws.length+1)≤290:=by simpa using hn
  have hwl:w.cps.toList.length≤20∧∀ c∈w.cps.toList,c<1114112:=by
   rcases ww with rfl | rfl | hp
   ·exact ⟨by symm,by symm⟩
   ·exact ⟨by symm,by symm⟩
   ·exact ⟨by rw [← str_len];exact hp.le,hp.ch⟩
  obtain ⟨c,e,k⟩:=xg tl w sp a0 hc (by nofun) (by rw [str_len];nofun);have T':=Cu T ww k;have hsl:(sep c).length≤1:=by cases c<;>simp [sep]
  obtain ⟨tl',b',e',PL,hc',hl'⟩:=oY sp a0 ws (ps++[w]) _ (À (.str w)) T' (λx hx=>by
   rcases ñ.mp hx with hx | hx
   ·rcases ñ.mp hx with hx | hx
    ·exact hc x hx
    ·cases c<;>simp [sep] at hx;nofun
   ·exact hwl.2 x hx) (by simp only [ü,ŵ,List.length_nil];nofun) (by simp;nofun) (λx hx=>hw x (by simp [hx]))
  refine ⟨tl',b',λG=>?_,by simpa using PL,hc',by simp at hl' ⊢;nofun⟩;rw [Í,cV rfl];simp only [è,é,e,kJ];exact e' G
theorem ju (ws:List Str) (sp:Bool) (hn:ws.length≤290) (hw:∀ w∈ws,LW w):∃ x,Tx x ws∧∀ G,e9 [.con (ws.map .str),.bl sp] G=.ok (.str x) G:=by
 have T0:Ti [] []:=⟨[],[],λr=>by simp,rfl,λx hx=>by simp at hx,.inl rfl⟩;obtain ⟨tl,b,e,T,hc,hl⟩:=oY sp (À (.con (ws.map .str))) ws [] [] Æ T0 (by simp) (by simp) (by simpa using hn) hw;refine ⟨bT tl,⟨by rw [fT];exact hc,by rw [gq];simp at hl;nofun,?_,hn,λw h=>?_⟩,λG=>?_⟩
 ·obtain ⟨cur,pre,h1,h2,_⟩:=T;have:=h1 [];rw [ò] at this;rw [fT,this,show dX cur []=pW cur from by rw [dX],h2,â,ň]
  conv=>rhs;rw [← List.map_id ws]
  exact RY λs _=>oK s
 ·rcases hw w h with rfl | rfl | hp
  ·exact ⟨by symm,by symm⟩
  ·exact ⟨by symm,by symm⟩
  ·refine ⟨?_,by have:=hp.le;nofun⟩;have:=u9 hp.ch
   rwa [oK] at this
 ·have e:=e G;unfold e9;refine av ?_ bh;have e':bZ (gN 3) b5 (ws.map .str) [À (.con (ws.map .str)),À (.bl sp),À (.str ""),Æ] G=.nx [À (.con (ws.map .str)),À (.bl sp),À (.str (bT tl)),b] G:=e;simp! [iM,e']
theorem JF (a b:Str) (G:DH) (h:a.length+b.length≤2000000):∃ t,aB (.str a) (.str b) G=.ok (.str t) G∧t.cps.toList=a.cps.toList++b.cps.toList∧t.length=a.length+b.length:=by
 refine ⟨a++b,?_,?_,BL a b⟩
 ·simp [aB,lz h]
 ·show (a.cps++b.cps).toList=_;simp
theorem xh (ns pre:List Int) (G:DH) (k:Nat) (m:Int) (c:Option D) (hl:ns.length≤63) (hp:pre.length≤1000) :
  ∃ (x:Int) (c':Option D),cL [À (.con (ns.map .int)),À (.int m),À (.obj G.length),À (.int (0+(k:Int))),c] (G++[.lst (pre.map .int)]) =
   .nx [À (.con (ns.map .int)),À (.int m),À (.obj G.length),À (.int (0+(k:Int))),c'] (G++[.lst ((pre++[x]).map .int)]):=by
 have NG:pre.length<Ä:=Ë (by nofun) (lz (n:=2000) (by nofun));by_cases h0:0<ns.length
 ·have hm:(0:Int)≤(k:Int) % (ns.length:Int)∧(k:Int) % (ns.length:Int)<ns.length:=⟨OQ _ (by nofun),ş _ (by nofun)⟩;obtain ⟨d,ed,PM⟩:=jH (xs:=ns.map D.int) (i:=(k:Int) % (ns.length:Int)) hm.1 (by simpa using hm.2);obtain ⟨v,ev⟩:∃ v,d=.int v:=by have:=û PM;simp at this;obtain ⟨v,_,rfl⟩:=this;exact ⟨v,rfl⟩
  subst ev;have PN:(if 1<ns.length then (ns.length:Int) else 1)=ns.length:=by split<;>nofun
  have hlt:ns.length<1073741824:=by nofun
  have Mw:(if (1:Int)<(ns.length:Int) then (ns.length:Int) else 1)=ns.length:=by split<;>nofun
  have Mx:(ns.length:Int)<1073741824:=by nofun
  have vc:(0:Int)<(ns.length:Int):=by nofun
  refine ⟨v % 1000000000000000000+7919*((k:Int) / (ns.length:Int)),À (.int (v % 1000000000000000000)),?_⟩;simp! [cL,h0,ed,PN,hlt,NG,Mw,Mx,vc,CY,GO]
 ·have h1:ns=[]:=by
   cases ns with
   | nil=>rfl
   | cons a r=>exact absurd (by simp) h0
  subst h1;refine ⟨0+7919*((k:Int) / 1),À (.int 0),?_⟩;simp! [cL,NG,CY,GO]
theorem nj (ns:List Int) (G:DH) (mm:Int) (hl:ns.length≤63):∀ (m j:Nat) (pre:List Int) (a3 a4:Option D),pre.length+m≤1000 →
  ∃ (ds:List Int) (b3 b4:Option D),ds.length=m∧bZ (gN 3) cL ((í j m).map λ(k:Nat)=>.int (0+(k:Int))) [À (.con (ns.map .int)),À (.int mm),À (.obj G.length),a3,a4] (G++[.lst (pre.map .int)]) =
   .nx [À (.con (ns.map .int)),À (.int mm),À (.obj G.length),b3,b4] (G++[.lst ((pre++ds).map .int)])
 | 0,j,pre,a3,a4,h=>⟨[],a3,a4,rfl,by simp [bZ]⟩
 | m+1,j,pre,a3,a4,h=>by obtain ⟨x,c',e⟩:=xh ns pre G j mm a4 hl (by nofun);obtain ⟨ds,b3,b4,hd,ih⟩:=nj ns G mm hl m (j+1) (pre++[x]) (À (.int (0+(j:Int)))) c' (by simp;nofun);refine ⟨x::ds,b3,b4,by simp [hd],?_⟩;rw [đ,Í,cV rfl];simp only [è,é,e,kJ];rw [ih];simp
theorem z8 (ns:List Int) (m:Nat) (hm:m≤900) (hl:ns.length≤63) (G:DH):∃ ds:List Int,ds.length=m∧dY [.con (ns.map .int),.int m] G=.ok (.con (ds.map .int)) G:=by obtain ⟨ds,b3,b4,hd,e⟩:=nj ns G m hl m 0 [] Æ Æ (by simp;nofun);refine ⟨ds,hd,?_⟩;have hr:=gm (j:=(m:Int)) (by nofun) (by nofun);rw [Ũ] at hr;unfold dY;refine jO (R:=[.dead]) ?_ (by rw [bR];exact cF λ_=>fV);generalize ((í 0 m).map λ(k:Nat)=>D.int (0+(k:Int)))=its at hr e;simp only [Ý,â] at e;simp! [g8,hr,e,Jf,aI]
theorem vf (i:Int) (G:DH):bO (.str d8) (.int (i % 26)) G=.ok (.str (bT [97+(i % 26).toNat])) G:=by
 have Mp:∀ k<26,d8.cps.toList[k]?=À (97+k):=by symm
 have hk:=Mp (i % 26).toNat (by nofun);have ha:cS d8.cps.toList (i % 26)=À (97+(i % 26).toNat):=by
  have:=fC hk
  rwa [show (((i % 26).toNat:Nat):Int)=i % 26 by nofun] at this
 have hz:d8.length≤Ä:=lz (by symm);simp only [bO,aG,hz,if_true,ha];rfl
theorem oZ (c:Int):∀ (m j:Nat) (l:List Nat) (a3 a4 a5:Option D),j+m≤7→l.length=j+1→(∀ x∈l,97≤x∧x≤122) →
  ∃ (l':List Nat) (b3 b4:Option D),l'.length=j+m+1∧(∀ x∈l',97≤x∧x≤122)∧∀ G,bZ (gN 3) cW ((í j m).map λ(k:Nat)=>.int (0+(k:Int))) [À (.int c),À (.str d8),À (.str (bT l)),a3,a4,a5] G=.nx [À (.int c),À (.str d8),À (.str (bT l')),b3,b4,a5] G
 | 0,j,l,a3,a4,a5,h,k1,k2=>⟨l,a3,a4,by nofun,k2,λG=>by simp [bZ]⟩
 | m+1,j,l,a3,a4,a5,h,k1,k2=>by
  have es:=vf (c / 208+7*(j:Int)*(j:Int)+c / 5408 % 26*(j:Int));generalize hv:(c / 208+7*(j:Int)*(j:Int)+c / 5408 % 26*(j:Int))=v at es;have hd:97≤97+(v % 26).toNat∧97+(v % 26).toNat≤122:=by nofun
  have ha:∀ G,aB (.str (bT l)) (.str (bT [97+(v % 26).toNat])) G=.ok (.str (bT (l++[97+(v % 26).toNat]))) G:=λG=>by obtain ⟨t,e,hc,_⟩:=JF (bT l) (bT [97+(v % 26).toNat]) G (by rw [gq,gq];simp;nofun);rw [e];have:t=bT (l++[97+(v % 26).toNat]):=pT (by rw [hc,fT,fT,fT]);rw [this]
  obtain ⟨l',b3,b4,ku,lu,ih⟩:=oZ c m (j+1) (l++[97+(v % 26).toNat]) (À (.int (0+(j:Int)))) (À (.int v)) a5 (by nofun) (by simp;nofun) (λx hx=>by
   rcases ñ.mp hx with hx | hx
   ·exact k2 x hx
   ·simp at hx;nofun)
  refine ⟨l',b3,b4,by nofun,lu,λG=>?_⟩;have hjl:-18446744073709551616<(j:Int):=by nofun
  have PR:(j:Int)<18446744073709551616:=by nofun
  have e:cW [À (.int c),À (.str d8),À (.str (bT l)),À (.int (0+(j:Int))),a4,a5] G=.nx [À (.int c),À (.str d8),À (.str (bT (l++[97+(v % 26).toNat]))),À (.int (0+(j:Int))),À (.int v),a5] G:=by simp [cW,gX,kg,jJ,fS,pR,jg,ao,cY,uV,zx,oH,jI,hv,es,ha,hjl,PR]
  rw [đ,Í,cV rfl];simp only [è,é,e,kJ];exact ih G
theorem Gi:∀ w∈words,words.any (·==bT (w.cps.toList++[122]))=Â∧w.cps.toList.length≤7:=by symm
theorem Cv (c:Int):∃ l:List Nat,Nm l∧∀ G,bJ [.int c] G=.ok (.str (bT l)) G:=by
 obtain ⟨l,b3,b4,ku,lu,e⟩:=oZ c (c / 26 % 8).toNat 0 [97+(c % 26).toNat] Æ Æ Æ (by nofun) rfl (by simp;nofun);have es:=vf c;have hr:=gm (j:=c / 26 % 8) (by nofun) (by nofun);generalize ((í 0 (c / 26 % 8).toNat).map λ(k:Nat)=>D.int (0+(k:Int)))=its at hr e;have hg:Þ (bT l)=Á:=u9 λx hx=>by have:=lu x hx;nofun
 have hin:=λG=>rC (bT l) words G hg (by symm);have hcl:aM (words.map D.str)=Á:=cF λ_=>bh;have hfw:=λG=>fD (G:=G) (ds:=words.map D.str) (lz (by simp [words])) hcl;have PU:l.length≤8:=by nofun
 have hne:l≠[]:=λz=>by rw [z] at ku;simp at ku
 have es':∀ G,bO (.str "abcdefghijklmnopqrstuvwxyz") (.int (c % 26)) G=.ok (.str (bT [97+(c % 26).toNat])) G:=es;have e':∀ G,bZ (gN 3) cW its [À (.int c),À (.str "abcdefghijklmnopqrstuvwxyz"),À (.str (bT [97+(c % 26).toNat])),Æ,Æ,Æ] G=.nx [À (.int c),À (.str "abcdefghijklmnopqrstuvwxyz"),À (.str (bT l)),b3,b4,Æ] G:=e;cases hb:words.any (·==bT l) with
 | true=>
  obtain ⟨w,hw,PV⟩:=ų.mp hb;have My:w=bT l:=by simpa using PV
  obtain ⟨z1,z2⟩:=Gi w hw;rw [My,fT] at z1 z2;refine ⟨l++[122],⟨by simp,by simp;nofun,λx hx=>?_,z1⟩,λG=>?_⟩
  ·rcases ñ.mp hx with hx | hx
   ·exact lu x hx
   ·simp at hx;nofun
  ·obtain ⟨t,et,hc,_⟩:=JF (bT l) "z" G (by rw [gq,show ("z":Str).length=1 by symm];nofun);have ht:t=bT (l++[122]):=pT (by rw [hc,fT,fT];rfl);rw [ht] at et;have uv:=hin G;have z9:=hfw G;rw [hb] at uv;simp only [words,Í,Ý] at uv z9;unfold bJ;refine av ?_ bh;simp [gn,za,gX,kg,jJ,fS,pR,jg,ao,cY,uV,et,oH,jI,es',oJ,uX,tW,De,hr,e',fG,aR,uW,z9,oG,rE,ja,aG,uv,mP,yW,yX,yY,Dc,CZ,Df,pQ]
 | false=>refine ⟨l,⟨hne,PU,lu,hb⟩,λG=>?_⟩;have uv:=hin G;have z9:=hfw G;rw [hb] at uv;simp only [words,Í,Ý] at uv z9;unfold bJ;refine av ?_ bh;simp [gn,za,gX,kg,jJ,fS,pR,jg,ao,cY,uV,oH,jI,es',oJ,uX,tW,De,hr,e',fG,aR,uW,z9,oG,rE,ja,aG,uv,mP,yW,yX,yY,Dc,CZ,Df,pQ]
def nR (ds:List Int) (k:Nat):Int:=ds.getD k 0
theorem Dq (ds:List Int) (k:Nat) (h:k<ds.length):cS (ds.map D.int) (k:Int)=À (.int (nR ds k)):=by unfold nR;refine fC ?_;rw [å,Ð h];simp [List.getD,Ð h]
structure Na (s:Str):Prop where
 nm:xy s=Á
 pn:Pn s
theorem JG {l:List Nat} (h:Nm l):Na (bT l):=by
 have hk:=h.kw;have h8:=h.le;have hl:(bT l).length=l.length:=gq l;have hp:0<l.length:=ĸ.mpr h.ne;refine ⟨?_,⟨by rw [fT];exact h.ne,λx hx=>?_,λx hx=>?_,by nofun⟩⟩
 ·unfold xy;have e1:(words.any λt=>bT l==t)=Â:=by rw [← hk];unfold words;congr 1;funext t;exact ſ.mpr ⟨λz=>by simp at z ⊢;exact z.symm,λz=>by simp at z ⊢;exact z.symm⟩
  have e2:(((bT l).length:Int)==0)=Â:=beq_eq_false_iff_ne.mpr (by nofun);have e3:(bT l).cps.toList.all sgn=Á:=by rw [fT,Ĥ];exact λx hx=>F8 (h.az x hx)
  have e4:¬ (8<(bT l).length):=by nofun
  rw [e1,e2,e3];simp [e4]
 ·rw [fT] at hx;have:=h.az x hx;nofun
 ·rw [fT] at hx;have:=h.az x hx;nofun
theorem Na.no {s:Str} (h:Na s) {t:Str} (ht:t∈words):¬ s=t:=λz=>by subst z;have:=h.nm;unfold xy at this;rw [show (words.any λt=>s==t)=Á from ų.mpr ⟨s,ht,by simp⟩] at this;simp at this
theorem Pn.o {s:Str} (h:Pn s):¬ s="(":=λz=>by subst z;exact (h.wd 40 (by symm)).2.2.1 rfl
theorem Pn.s {s:Str} (h:Pn s):¬ s=")":=λz=>by subst z;exact (h.wd 41 (by symm)).2.2.2 rfl
theorem vg {mk:List Pt→Option Str} {s:Str} (h:Na s):kL mk [s] [.w s]:=qE h.pn.o h.pn.s
instance (w:List Nat):Decidable (Dp w):=by unfold Dp;infer_instance
theorem eB {s:Str} (h:(decide (s.cps.toList≠[])&&(decide (Dp s.cps.toList)&&(decide (∀ c∈s.cps.toList,c<1114112)&&decide (s.length≤20))))=Á):Pn s:=by obtain ⟨h1,h⟩:=aW h;obtain ⟨h2,h⟩:=aW h;obtain ⟨h3,h4⟩:=aW h;exact ⟨of_decide_eq_true h1,of_decide_eq_true h2,of_decide_eq_true h3,of_decide_eq_true h4⟩
theorem bN (ws:List Str):aM (ws.map D.str)=Á:=cF λ_=>bh
theorem cz (ws:List Str) (h:ws.length≤1000) (G:DH):(aI (ws.map D.str) G).fw G=.ok (.con (ws.map D.str)) G:=fD (by rw [ý];exact lz (by nofun)) (bN ws)
theorem gu (a b:List Str) (h:a.length+b.length≤1000) (G:DH):(aB (.con (a.map D.str)) (.con (b.map D.str)) G).fw G=.ok (.con ((a++b).map D.str)) G:=by show (aI (a.map D.str++b.map D.str) G).fw G=_;rw [← ÿ];exact cz (a++b) (by simp;nofun) G
structure uw (k:Nat) (ws:List Str):Prop where
 wr:kL (kB k) ws [.b (Kz k)]
 lw:∀ w∈ws,LW w
 ot:∃ pre b rest:List Str,ws=pre++("(":Str)::(b++(")":Str)::rest)∧(∀ w∈pre,¬ w=")")∧(∀ w∈b,¬ w="("∧¬ w=")")∧b≠[]∧∀ k',k'≤2→k'≠k→kB k' (b.map .w)=Æ
 le:ws.length≤140
section
def OT (k:Nat) (ws:List Str):Prop:=∃ pre b rest:List Str,ws=pre++("(":Str)::(b++(")":Str)::rest)∧(∀ w∈pre,¬ w=")")∧(∀ w∈b,¬ w="("∧¬ w=")")∧b≠[]∧∀ k',k'≤2→k'≠k→kB k' (b.map .w)=Æ
theorem ux {k:Nat} {ws:List Str} (h:OT k ws) (a c:List Str) (ha:∀ w∈a,¬ w=")"):OT k (a++ws++c):=by
 obtain ⟨pre,b,rest,rfl,h1,h2,h3,h4⟩:=h;refine ⟨a++pre,b,rest++c,by simp,λw hw=>?_,h2,h3,h4⟩;rcases ñ.mp hw with hw | hw
 ·exact ha w hw
 ·exact h1 w hw
theorem Aa:kB 0=oS:=rfl
theorem Dr:kB 1=kW:=rfl
theorem Ac {k:Nat} (h0:k≠0) (h1:k≠1):kB k=kr:=by unfold kB;rw [if_neg h0,if_neg h1]
theorem jv:LW "(":=.inl rfl
theorem kY:LW ")":=.inr (.inl rfl)
theorem Na.lw {s:Str} (h:Na s):LW s:=.inr (.inr h.pn)
theorem sE:Pn "start":=eB (by symm)
theorem vh:Pn "rule":=eB (by symm)
theorem Gj:Pn "row":=eB (by symm)
theorem Gk:Pn "mix":=eB (by symm)
theorem Cw:Pn "many":=eB (by symm)
theorem Mz:Pn "0":=eB (by symm)
theorem MA:Pn "1":=eB (by symm)
theorem JH:Pn "2":=eB (by symm)
theorem qG:Pn "way":=eB (by symm)
theorem nk:Pn "any":=eB (by symm)
theorem Ad:Pn "not":=eB (by symm)
theorem vj:Pn "both":=eB (by symm)
theorem o4:Pn "either":=eB (by symm)
theorem i8:Pn "kind":=eB (by symm)
theorem qH:Pn "down":=eB (by symm)
theorem qI:Pn "deep":=eB (by symm)
theorem Ae:Pn "later":=eB (by symm)
theorem Pn.lw {s:Str} (h:Pn s):LW s:=.inr (.inr h)
variable {mk:List Pt→Option Str}
theorem dF {s:Str} {ws:List Str} {ps:List Pt} (h:Pn s) (k:kL mk ws ps):kL mk (s::ws) (.w s::ps):=ve h.o h.s k
theorem Na.is {s:Str} (h:Na s) {t:Str} (ht:t∈words):(Pt.w s).is t=Â:=by have:=h.no ht;simp [Pt.is,this]
theorem xj {ps:List Pt} (h1:fst "start" ps=Á) (h2:AG ps=Á):kW ps=À ("shape":Str):=by unfold kW;rw [if_pos h1,if_pos h2]
theorem Af {ps:List Pt} (h1:fst "start" ps=Â) (h2:fst "rule" ps=Á) (h3:vd ps=Á):kW ps=À ("rule":Str):=by unfold kW;rw [if_neg (by rw [h1];decide),if_pos h2,if_pos h3]
theorem Ag {ps:List Pt} (h1:fst "start" ps=Â) (h2:fst "rule" ps=Â) (h3:wV ps=Á):kW ps=À ("item":Str):=by unfold kW;rw [if_neg (by rw [h1];decide),if_neg (by rw [h2];decide),if_pos h3]
theorem sF {ps:List Pt} (h1:fst "way" ps=Â) (h2:nB ps=Á) (h3:Jx ps=Á):kr ps=À ("step":Str):=by unfold kr;rw [if_neg (by rw [h1];decide),if_pos h2,if_pos h3]
structure nq (j:Nat) (ws:List Str):Prop where
 wr:kL oS ws [.b "tree"]
 lw:∀ w∈ws,LW w
 ot:OT 0 ws
 le:ws.length≤3+6*j
theorem Gm {one:Str} (h:Na one):nq 0 (["(",one,")"]:List Str):=by
 refine ⟨fB (ws:=[one]) (vg h) (by simp [oS,Pt.nm,h.nm,vals]),λw hw=>?_,⟨[],[one],[],rfl,by simp,λw hw=>?_,by simp,λk MB hk=>?_⟩,by simp⟩
 ·simp at hw;rcases hw with rfl | rfl | rfl
  ·exact jv
  ·exact h.lw
  ·exact kY
 ·simp at hw;subst hw;exact ⟨h.pn.o,h.pn.s⟩
 ·by_cases h1:k=1
  ·subst h1;rw [Dr];simp [kW,fst,h.is (t:="start") (by symm),h.is (t:="rule") (by symm),wV]
  ·rw [Ac hk h1];simp [kr,fst,h.is (t:="way") (by symm),nB,kX]
theorem Gn {j:Nat} {ws:List Str} {a other:Str} (T:nq j ws) (ha:Na a) (ho:Na other):nq (j+1) (((["(",a]:List Str)++ws)++(["(",other,")",")"]:List Str)):=by
 have hw1:kL oS (["(",other,")"]:List Str) [.b "tree"]:=fB (ws:=[other]) (vg ho) (by simp [oS,Pt.nm,ho.nm,vals]);have NH:kL oS (a::(ws++(["(",other,")"]:List Str))) (.w a::([.b "tree"]++[.b "tree"])):=dF ha.pn (kC T.wr hw1);have PX:=fB (s:="tree") NH (by simp [oS,Pt.nm,ha.nm,vals]);refine ⟨?_,λw hw=>?_,ux T.ot _ _ (by simp [ha.pn.s,show ¬ (("(":Str)=")") by symm]),by have:=T.le;simp;nofun⟩
 ·have e:((["(",a]:List Str)++ws)++(["(",other,")",")"]:List Str)=("(":Str)::((a::(ws++(["(",other,")"]:List Str)))++([")"]:List Str)):=by simp
  rw [e];exact PX
 ·simp at hw;rcases hw with rfl | rfl | hw | rfl | rfl | rfl
  ·exact jv
  ·exact ha.lw
  ·exact T.lw w hw
  ·exact jv
  ·exact ho.lw
  ·exact kY
structure sG (j:Nat) (ws:List Str):Prop where
 wr:kL kW ws (Ì j (.b "item"))
 lw:∀ w∈ws,LW w
 ot:ws=[]∨∃ n l h rest,Na n∧ws=("(":Str)::n::l::h::(")":Str)::rest∧Pn l∧Pn h
 le:ws.length≤5*j
theorem JI:sG 0 []:=⟨qD,by simp,.inl rfl,by simp⟩
theorem JJ {j:Nat} {ws:List Str} {n l h:Str} (T:sG j ws) (hn:Na n) (hl:l="0"∨l="1"∨l="2") (hh:h="many"∨h="2"):sG (j+1) (ws++(["(",n,l,h,")"]:List Str)):=by
 have pl:Pn l:=by rcases hl with rfl | rfl | rfl<;>first | exact Mz | exact MA | exact JH
 have ph:Pn h:=by rcases hh with rfl | rfl<;>first | exact Cw | exact JH
 have hi:wV [.w n,.w l,.w h]=Á:=by rcases hl with rfl | rfl | rfl<;>rcases hh with rfl | rfl<;>simp [wV,Pt.cnt,Pt.nm,hn.nm,Pt.high,Pt.is]<;>symm
 have hm:kW [.w n,.w l,.w h]=À ("item":Str):=Ag (hn.is (t:="start") (by symm)) (hn.is (t:="rule") (by symm)) hi;have hw1:kL kW (["(",n,l,h,")"]:List Str) [.b "item"]:=fB (ws:=[n,l,h]) (dF hn.pn (dF pl (dF ph qD))) hm;refine ⟨?_,λw hw=>?_,?_,by have:=T.le;simp;nofun⟩
 ·rw [RU];exact kC T.wr hw1
 ·simp at hw;rcases hw with hw | rfl | rfl | rfl | rfl | rfl
  ·exact T.lw w hw
  ·exact jv
  ·exact hn.lw
  ·exact pl.lw
  ·exact ph.lw
  ·exact kY
 ·right;rcases T.ot with rfl | ⟨n',l',h',rest,q1,rfl,q2,q3⟩
  ·exact ⟨n,l,h,[],hn,rfl,pl,ph⟩
  ·exact ⟨n',l',h',rest++(["(",n,l,h,")"]:List Str),q1,by simp,q2,q3⟩
theorem jw {ws jV:List Str} {ps ps':List Pt} (h:kL mk ws ps) (e:ws=jV) (e':ps=ps'):kL mk jV ps':=by subst e e';exact h
theorem sH (s:Str):∀ j,vals s (Ì j (.b s))=Á:=λj=>by unfold vals;rw [Ĥ];intro p hp;have:=List.eq_of_mem_replicate hp;simp [this]
structure sI (j:Nat) (ws:List Str):Prop where
 wr:kL kW ws (Ì j (.b "rule"))
 lw:∀ w∈ws,LW w
 ot:ws=[]∧j=0∨OT 1 ws
 le:ws.length≤16*j
theorem JK:sI 0 []:=⟨qD,by simp,.inl ⟨rfl,rfl⟩,by simp⟩
theorem JL {j i:Nat} {ws its:List Str} {a b o:Str} (T:sI j ws) (I:sG i its) (hi:i≤2) (ha:Na a) (hb:Na b) (ho:o="row"∨o="mix"):sI (j+1) (ws++(((["(","rule",a,b,o]:List Str)++its)++([")"]:List Str))):=by
 have po:Pn o:=by rcases ho with rfl | rfl<;>first | exact Gj | exact Gk
 have hm:kW (.w "rule"::.w a::.w b::.w o::Ì i (.b "item"))=À ("rule":Str):=Af (show (Pt.w "rule").is "start"=Â by symm) (show (Pt.w "rule").is "rule"=Á by symm) (by rw [vd,sH];rcases ho with rfl | rfl<;>simp [Pt.is,Pt.nm,ha.nm,hb.nm])
 have hw1:=fB (dF (mk:=kW) vh (dF ha.pn (dF hb.pn (dF po I.wr)))) hm;have n1:¬ (("(":Str)=")"):=by symm
 have n2:¬ (("rule":Str)=")"):=by symm
 have n3:¬ (("rule":Str)="("):=by symm
 have PY:OT 1 (((["(","rule",a,b,o]:List Str)++its)++([")"]:List Str)):=by
  rcases I.ot with rfl | ⟨n,l,h,rest,q1,rfl,q2,q3⟩
  ·refine ⟨[],(["rule",a,b,o]:List Str),[],by simp,by simp,λw hw=>?_,by simp,λk MB hk=>?_⟩
   ·simp at hw;rcases hw with rfl | rfl | rfl | rfl
    ·exact ⟨n3,n2⟩
    ·exact ⟨ha.pn.o,ha.pn.s⟩
    ·exact ⟨hb.pn.o,hb.pn.s⟩
    ·exact ⟨po.o,po.s⟩
   ·by_cases h0:k=0
    ·subst h0;rw [Aa];simp [oS,Pt.nm,show xy "rule"=Â by symm]
    ·rw [Ac h0 hk];have:fst "way" ((["rule",a,b,o]:List Str).map Pt.w)=Â:=(show (Pt.w "rule").is "way"=Â by symm);simp only [Í,Ý] at this ⊢;simp [kr,this,nB,kX]
  ·refine ⟨(["(","rule",a,b,o]:List Str),[n,l,h],rest++([")"]:List Str),by simp,λw hw=>?_,λw hw=>?_,by simp,λk MB hk=>?_⟩
   ·simp at hw;rcases hw with rfl | rfl | rfl | rfl | rfl
    ·exact n1
    ·exact n2
    ·exact ha.pn.s
    ·exact hb.pn.s
    ·exact po.s
   ·simp at hw;rcases hw with rfl | rfl | rfl
    ·exact ⟨q1.pn.o,q1.pn.s⟩
    ·exact ⟨q2.o,q2.s⟩
    ·exact ⟨q3.o,q3.s⟩
   ·by_cases h0:k=0
    ·subst h0;rw [Aa];simp [oS,vals]
    ·rw [Ac h0 hk];simp [kr,fst,q1.is (t:="way") (by symm),nB,kX,q1.is (t:="both") (by symm),q1.is (t:="either") (by symm)]
 refine ⟨?_,λw hw=>?_,.inr ?_,by have:=T.le;have:=I.le;simp;nofun⟩
 ·rw [RU];exact kC T.wr (jw hw1 (by simp) rfl)
 ·simp at hw;rcases hw with hw | rfl | rfl | rfl | rfl | rfl | hw | rfl
  ·exact T.lw w hw
  ·exact jv
  ·exact vh.lw
  ·exact ha.lw
  ·exact hb.lw
  ·exact po.lw
  ·exact I.lw w hw
  ·exact kY
 ·rcases T.ot with ⟨rfl,_⟩ | hT
  ·exact PY
  ·have:=ux hT [] (((["(","rule",a,b,o]:List Str)++its)++([")"]:List Str)) (by simp);simpa using this
theorem Cy {j:Nat} {rs:List Str} {one:Str} (T:sI j rs) (hj:1≤j) (h6:j≤6) (ho:Na one):uw 1 (((["(","start",one]:List Str)++rs)++([")"]:List Str)):=by
 have hm:kW (.w "start"::.w one::Ì j (.b "rule"))=À ("shape":Str):=xj (show (Pt.w "start").is "start"=Á by symm) (by obtain ⟨i,rfl⟩:∃ i,j=i+1:=⟨j - 1,by nofun⟩;have:=sH "rule" (i+1);rw [ă] at this ⊢;rw [AG,this];simp [Pt.nm,ho.nm])
 have hw1:=fB (dF (mk:=kW) sE (dF ho.pn T.wr)) hm;refine ⟨jw hw1 (by simp) rfl,λw hw=>?_,?_,by have:=T.le;simp;nofun⟩
 ·simp at hw;rcases hw with rfl | rfl | rfl | hw | rfl
  ·exact jv
  ·exact sE.lw
  ·exact ho.lw
  ·exact T.lw w hw
  ·exact kY
 ·rcases T.ot with ⟨_,h⟩ | h
  ·nofun
  ·refine ux h (["(","start",one]:List Str) ([")"]:List Str) λw hw=>?_;simp at hw;rcases hw with rfl | rfl | rfl
   ·symm
   ·symm
   ·exact ho.pn.s
structure ig (j:Nat) (ws:List Str):Prop where
 wr:∃ p,kL kr ws [p]∧p.look=Á
 lw:∀ w∈ws,LW w
 le:ws.length≤1+7*j
theorem Gp:ig 0 (["any"]:List Str):=⟨⟨.w "any",qE nk.o nk.s,by symm⟩,λw hw=>by simp at hw;subst hw;exact nk.lw,by simp⟩
theorem iQ {ps:List Pt} (h1:fst "way" ps=Â) (h2:nB ps=Â) (h3:kX ps=Á):kr ps=À ("look":Str):=by unfold kr;rw [if_neg (by rw [h1];decide),if_neg (by rw [h2];decide),if_pos h3]
theorem Gq {j:Nat} {ws:List Str} {one go:Str} (T:ig j ws) (ho:Na one) (hg:go="down"∨go="deep"∨go="later") :
  ig (j+1) ((["(","not"]:List Str)++ws++([")"]:List Str))∧ig (j+1) ((["(","both","any"]:List Str)++ws++([")"]:List Str))∧ig (j+1) ((["(","either","(","kind",one,")"]:List Str)++ws++([")"]:List Str))∧ig (j+1) ((["(","way","(",go]:List Str)++ws++([")",")"]:List Str)):=by
 obtain ⟨⟨p,hw,hp⟩,lw,le⟩:=T;have pg:Pn go:=by rcases hg with rfl | rfl | rfl<;>first | exact qH | exact qI | exact Ae
 have JM:(Pt.w "any").look=Á:=by symm
 have KA:(Pt.b "look").look=Á:=by symm
 have PZ:(Pt.b "way").look=Á:=by symm
 refine ⟨⟨⟨.b "look",jw (fB (dF Ad hw) (iQ (show (Pt.w "not").is "way"=Â by symm) ?_ ?_)) (by simp) rfl,KA⟩,λw hw=>?_,by simp;nofun⟩,⟨⟨.b "look",jw (fB (dF vj (dF nk hw)) (iQ (show (Pt.w "both").is "way"=Â by symm) rfl ?_)) (by simp) rfl,KA⟩,λw hw=>?_,by simp;nofun⟩,
  ⟨⟨.b "look",?_,KA⟩,λw hw=>?_,by simp;nofun⟩,⟨⟨.b "way",?_,PZ⟩,λw hw=>?_,by simp;nofun⟩⟩
 ·show goes (.w "not")=Â;symm
 ·show (if (Pt.w "not").is "kind"=Á then p.nm else (Pt.w "not").is "not"&&p.look)=Á;rw [hp,if_neg (by symm)];symm
 ·simp at hw;rcases hw with rfl | rfl | hw | rfl
  all_goals first | exact jv | exact Ad.lw | exact lw w hw | exact kY
 ·show (((Pt.w "both").is "both"||(Pt.w "both").is "either")&&((Pt.w "any").look&&p.look))=Á;rw [hp,JM];symm
 ·simp at hw;rcases hw with rfl | rfl | rfl | hw | rfl
  all_goals first | exact jv | exact vj.lw | exact nk.lw | exact lw w hw | exact kY
 ·have hk:kL kr (["(","kind",one,")"]:List Str) [.b "look"]:=fB (ws:=(["kind",one]:List Str)) (dF i8 (vg ho)) (iQ (show (Pt.w "kind").is "way"=Â by symm) (show goes (.w "kind")=Â by symm) (by rw [kX,if_pos (by symm)];exact ho.nm))
  refine jw (fB (dF o4 (kC hk hw)) (iQ (show (Pt.w "either").is "way"=Â by symm) rfl ?_)) (by simp) rfl;show (((Pt.w "either").is "both"||(Pt.w "either").is "either")&&((Pt.b "look").look&&p.look))=Á;rw [hp,KA];symm
 ·simp at hw;rcases hw with rfl | rfl | rfl | rfl | rfl | rfl | hw | rfl
  all_goals first | exact jv | exact o4.lw | exact jv | exact i8.lw | exact ho.lw | exact kY | exact lw w hw | exact kY
 ·have hm:kr [.w go,p]=À ("step":Str):=sF (show (Pt.w go).is "way"=Â by rcases hg with rfl | rfl | rfl<;>symm) (show goes (.w go)=Á by rcases hg with rfl | rfl | rfl<;>symm) hp;have hs:=fB (dF pg hw) hm;refine jw (fB (s:="way") (dF qG hs) ?_) (by simp) rfl;symm
 ·simp at hw;rcases hw with rfl | rfl | rfl | rfl | hw | rfl
  all_goals first | exact jv | exact qG.lw | exact jv | exact pg.lw | exact lw w hw | exact kY
theorem JN {j:Nat} {ws:List Str} {other:Str} (T:ig j ws) (hj:j≤7) (ho:Na other):uw 2 (((["(","way","(","deep","(","kind",other,")",")","(","down"]:List Str)++ws)++([")",")"]:List Str)):=by
 obtain ⟨⟨p,hw,hp⟩,lw,le⟩:=T;have hk:kL kr (["(","kind",other,")"]:List Str) [.b "look"]:=fB (ws:=(["kind",other]:List Str)) (dF i8 (vg ho)) (iQ (show (Pt.w "kind").is "way"=Â by symm) (show goes (.w "kind")=Â by symm) (by rw [kX,if_pos (by symm)];exact ho.nm))
 have hd:=fB (s:="step") (dF qI hk) (by symm);have hm:kr [.w "down",p]=À ("step":Str):=sF (show (Pt.w "down").is "way"=Â by symm) (show goes (.w "down")=Á by symm) hp;have hs:=fB (dF qH hw) hm;refine ⟨jw (fB (s:="way") (dF (mk:=kr) qG (kC hd hs)) (by symm)) (by simp) rfl,λw hw=>?_,⟨(["(","way","(","deep"]:List Str),(["kind",other]:List Str),([")","(","down"]:List Str)++ws++([")",")"]:List Str),by simp,by symm,λw hw=>?_,by simp,λk MB hk=>?_⟩,by simp;nofun⟩
 ·simp at hw;rcases hw with rfl | rfl | rfl | rfl | rfl | rfl | rfl | rfl | rfl | rfl | hw | rfl
  all_goals first | exact jv | exact kY | exact lw w hw | exact ho.lw | exact qG.lw | exact qI.lw | exact i8.lw | exact qH.lw
 ·simp at hw;rcases hw with rfl | rfl
  ·exact ⟨i8.o,i8.s⟩
  ·exact ⟨ho.pn.o,ho.pn.s⟩
 ·by_cases h0:k=0
  ·subst h0;rw [Aa];simp [oS,Pt.nm,show xy "kind"=Â by symm]
  ·by_cases h1:k=1
   ·subst h1;rw [Dr];have f1:fst "start" ((["kind",other]:List Str).map Pt.w)=Â:=(show (Pt.w "kind").is "start"=Â by symm);have f2:fst "rule" ((["kind",other]:List Str).map Pt.w)=Â:=(show (Pt.w "kind").is "rule"=Â by symm);simp only [Í,Ý] at f1 f2 ⊢;simp [kW,f1,f2,wV]
   ·nofun
end
section
structure iR (ns:List Str):Prop where
 len:ns.length=4
 na:∀ s∈ns,Na s
theorem iR.ix {ns:List Str} (P:iR ns) (v:Int):∃ s,Na s∧cS (ns.map D.str) (v % 4)=À (.str s):=by obtain ⟨d,e,e'⟩:=jH (xs:=ns.map D.str) (i:=v % 4) (by nofun) (by simp [P.len];nofun);obtain ⟨s,hs,rfl⟩:=ĵ.mp (û e');exact ⟨s,P.na s hs,e⟩
theorem iR.one {ns:List Str} (P:iR ns):∃ a b:Str,Na a∧Na b∧cS (ns.map D.str) 0=À (.str a)∧cS (ns.map D.str) 1=À (.str b):=by obtain ⟨a,ha,ea⟩:=P.ix 0;obtain ⟨b,hb,eb⟩:=P.ix 1;exact ⟨a,b,ha,hb,ea,eb⟩
theorem dH (ds:List Int) (k:Nat) (h:k<ds.length):∃ v,cS (ds.map D.int) (k:Int)=À (.int v):=⟨_,Dq ds k h⟩
variable {ds:List Int} {ns:List Str} {one other:Str}
theorem xm (hd:ds.length=18) (P:iR ns) (ho:Na other) {j:Nat} (hj:j≤8) {ws:List Str} (T:nq j ws) (a0 a3 a7 a8 a9 iu iw:Option D):∃ jV,nq (j+1) jV∧∀ G,dw [a0,À (.con (ds.map .int)),À (.con (ns.map .str)),a3,À (.str other),À (.con (ws.map .str)),À (.int (0+(j:Int))),a7,a8,a9,iu,iw] G=.nx [a0,À (.con (ds.map .int)),À (.con (ns.map .str)),a3,À (.str other),À (.con (jV.map .str)),À (.int (0+(j:Int))),a7,a8,a9,iu,iw] G:=by
 obtain ⟨v,ev⟩:=dH ds (4+j) (by nofun);have ev':cS (ds.map D.int) (4+(j:Int))=À (.int v):=by simpa using ev
 obtain ⟨a,ha,ea⟩:=P.ix v;have hl:=T.le;refine ⟨_,Gn T ha ho,λG=>?_⟩;have f1:=cz (["(",a]:List Str) (by simp) G;have f2:=gu (["(",a]:List Str) ws (by simp;nofun) G;have f3:=cz (["(",other,")",")"]:List Str) (by simp) G;have f4:=gu ((["(",a]:List Str)++ws) (["(",other,")",")"]:List Str) (by simp;nofun) G;generalize hw1:((["(",a]:List Str)++ws).map D.str=w1 at f2 f4;generalize NH:(((["(",a]:List Str)++ws)++(["(",other,")",")"]:List Str)).map D.str=w2 at f4;generalize ws.map D.str=w0 at f2;simp only [Í,Ý] at f1 f2 f3 f4;dsimp! [dw,ev',ea,aR,f1,f2,f3,f4]
theorem o5 (hd:ds.length=18) (P:iR ns) (ho:Na other):∀ (m j:Nat) (ws:List Str) (a0 a3 a6 a7 a8 a9 iu iw:Option D),j+m≤8→nq j ws→∃ jV b6,nq (j+m) jV∧∀ G,bZ (gN 6) dw ((í j m).map λ(k:Nat)=>.int (0+(k:Int))) [a0,À (.con (ds.map .int)),À (.con (ns.map .str)),a3,À (.str other),À (.con (ws.map .str)),a6,a7,a8,a9,iu,iw] G=.nx [a0,À (.con (ds.map .int)),À (.con (ns.map .str)),a3,À (.str other),À (.con (jV.map .str)),b6,a7,a8,a9,iu,iw] G
 | 0,j,ws,a0,a3,a6,a7,a8,a9,iu,iw,h,T=>⟨ws,a6,T,λG=>by simp [bZ]⟩
 | m+1,j,ws,a0,a3,a6,a7,a8,a9,iu,iw,h,T=>by obtain ⟨MC,T1,e⟩:=xm hd P ho (j:=j) (by nofun) T a0 a3 a7 a8 a9 iu iw;obtain ⟨jV,b6,T',ih⟩:=o5 hd P ho m (j+1) MC a0 a3 (À (.int (0+(j:Int)))) a7 a8 a9 iu iw (by nofun) T1;refine ⟨jV,b6,by rw [show j+(m+1)=j+1+m by nofun];exact T',λG=>?_⟩;rw [đ,Í,cV rfl];simp only [è,é,e G,kJ];exact ih G
theorem Cz (hd:ds.length=18) (P:iR ns):∃ ws,uw 0 ws∧∀ G,bH [.int 0,.con (ds.map .int),.con (ns.map .str)] G=.ok (.con (ws.map .str)) G:=by obtain ⟨one,other,h1,h2,e0,e1⟩:=P.one;obtain ⟨v,ev⟩:=dH ds 1 (by nofun);have ev':cS (ds.map D.int) 1=À (.int v):=ev;obtain ⟨ws,b6,T,e⟩:=o5 hd P h2 (v % 8).toNat 0 (["(",one,")"]:List Str) (À (.int 0)) (À (.str one)) Æ Æ Æ Æ Æ Æ (by nofun) (Gm h1);have hr:=gm (j:=v % 8) (by nofun) (by nofun);have hl:=T.le;refine ⟨ws,⟨T.wr,T.lw,T.ot,by nofun⟩,λG=>?_⟩;have f1:=cz (["(",one,")"]:List Str) (by simp) G;have e:=e G;generalize ((í 0 (v % 8).toNat).map λ(k:Nat)=>D.int (0+(k:Int)))=its at hr e;simp only [Í,Ý] at f1 e;unfold bH;refine av ?_ (by rw [bR];exact bN ws);dsimp! [dZ,e0,e1,ak,gy,aR,f1,ev',hr,e,Out.fz]
theorem Ds {m:DS→M D} {τ:DS} {G R:DH} {d:D} (h:m τ G=.ok d (G++R)) (hc:d.closed=Á):B9 m τ G=.ok d G:=by unfold B9;rw [h];simp [iW,hc]
theorem Gr (a b:List Str) (h:a.length+b.length≤1000) (G:DH):(aB (.con (a.map D.str)) (.con (b.map D.str)) G).fz=.ok (.con ((a++b).map D.str)) (G++[.dead]):=by show (aI (a.map D.str++b.map D.str) G).fz=_;have hz:(a.map D.str++b.map D.str).length≤Ä:=lz (by simp;nofun);rw [aI,if_pos hz,ÿ];simp [Out.fz,GO]
def P0 (one go:Str):List (List Str):=[(["(","not"]:List Str),(["(","both","any"]:List Str),(["(","either","(","kind",one,")"]:List Str),(["(","way","(",go]:List Str)]
def Dt (one go:Str):List D:=(P0 one go).map λl=>.con (l.map .str)
def Ah (v:Int):List Str:=Ì (if v / 3 % 4=3 then 2 else 1) ")"
theorem CA {τ:DS} {v:Int} (h7:τ[7]?=À (À (.int v))) (G:DH):B9 (zh (aj kK (ai aI (aa (eC (.str ")")) (ah))) (aj aB (eC (.int 1)) (ai mO (aa (aj (eF Â) (aj cI (aj eu (af 7) (eC (.int 3))) (eC (.int 4))) (eC (.int 3))) (ah)))))) τ G=.ok (.con ((Ah v).map .str)) G:=by
 refine Ds (R:=[.lst [.str ")"],.dead]) ?_ (by rw [bR];exact bN _);have z1:=z1;have z2:=z2;have n0:((G++[DO.lst [D.str ")"]])[G.length]?)=À (.lst [.str ")"]):=CY G _ [];unfold Ah;by_cases h3:v / 3 % 4=3
 ·have hb:(v / 3 % 4==3)=Á:=by simp [h3]
  have e1:(Out.ok (D.obj (G.length+1)) (G++[DO.lst [D.str ")"],DO.lst [D.str ")",D.str ")"]])).fz=.ok (.con [D.str ")",D.str ")"]) (G++[DO.lst [D.str ")"],.dead]):=zq;rw [if_pos h3];dsimp! [h7,aI,z1,ak,hb,mO,kK,n0,z2,Ì,e1]
 ·have hb:(v / 3 % 4==3)=Â:=by simpa using h3
  have e1:(Out.ok (D.obj (G.length+1)) (G++[DO.lst [D.str ")"],DO.lst [D.str ")"]])).fz=.ok (.con [D.str ")"]) (G++[DO.lst [D.str ")"],.dead]):=zq;rw [if_neg h3];dsimp! [h7,aI,z1,ak,hb,mO,kK,n0,z2,Ì,e1]
theorem Ai (hd:ds.length=18) (ho:Na one) {j:Nat} (hj:j≤8) {ws:List Str} (T:ig j ws) (a0 a2 a4 a7 a8 a9 iu iw:Option D):∃ jV b7 GR GS,ig (j+1) jV∧∀ G,dB [a0,À (.con (ds.map .int)),a2,À (.str one),a4,À (.con (ws.map .str)),À (.int (0+(j:Int))),a7,a8,a9,iu,iw] G=.nx [a0,À (.con (ds.map .int)),a2,À (.str one),a4,À (.con (jV.map .str)),À (.int (0+(j:Int))),b7,a8,a9,GR,GS] G:=by
 obtain ⟨v,ev⟩:=dH ds (4+j) (by nofun);have ev':cS (ds.map D.int) (4+(j:Int))=À (.int v):=by simpa using ev
 have hl:=T.le;obtain ⟨go,hg,eg⟩:∃ go:Str,(go="down"∨go="deep"∨go="later")∧cS [D.str "down",.str "deep",.str "later"] (v % 3)=À (.str go):=by
  have h3:v % 3=0∨v % 3=1∨v % 3=2:=by nofun
  rcases h3 with h | h | h<;>rw [h]
  ·exact ⟨_,.inl rfl,rfl⟩
  ·exact ⟨_,.inr (.inl rfl),rfl⟩
  ·exact ⟨_,.inr (.inr rfl),rfl⟩
 obtain ⟨t1,t2,t3,t4⟩:=Gq T ho hg;obtain ⟨A,ea,hA,hT⟩:∃ A:List Str,cS (Dt one go) (v / 3 % 4)=À (.con (A.map .str))∧A.length≤10∧ig (j+1) ((A++ws)++Ah v):=by
  have h4:v / 3 % 4=0∨v / 3 % 4=1∨v / 3 % 4=2∨v / 3 % 4=3:=by nofun
  unfold Ah;rcases h4 with h | h | h | h<;>rw [h]
  ·exact ⟨_,rfl,by simp,t1⟩
  ·exact ⟨_,rfl,by simp,t2⟩
  ·exact ⟨_,rfl,by simp,t3⟩
  ·exact ⟨_,rfl,by simp,t4⟩
 refine ⟨_,À (.int v),À (.str go),À (.con (Dt one go)),hT,λG=>?_⟩;have f1:=cz (["down","deep","later"]:List Str) (by simp) G;have f2:=cz (["(","not"]:List Str) (by simp) G;have f3:=cz (["(","both","any"]:List Str) (by simp) G;have f4:=cz (["(","either","(","kind",one,")"]:List Str) (by simp) G;have f5:=cz (["(","way","(",go]:List Str) (by simp) G;have f6:(aI (Dt one go) G).fw G=.ok (.con (Dt one go)) G:=fD z4 (cF λl=>by rw [bR];exact bN l);have hsl:(Ah v).length≤2:=by unfold Ah;split<;>simp
 have f7:=gu A ws (by nofun) G;have f8:=Gr (A++ws) (Ah v) (by simp;nofun) G;have hr:=λa6:Option D=>CA (τ:=[a0,À (.con (ds.map .int)),a2,À (.str one),a4,À (.con (ws.map .str)),a6,À (.int v),a8,a9,À (.str go),À (.con (Dt one go))]) (v:=v) rfl G;have hf:∀ a6:Option D,(B9 (zh (aj aB (eFn (aj aB (aj bO (af 11) (aj cI (aj eu (af 7) (eC (.int 3))) (eC (.int 4)))) (af 5))) (B9 (zh (aj kK (ai aI (aa (eC (.str ")")) (ah))) (aj aB (eC (.int 1)) (ai mO (aa (aj (eF Â) (aj cI (aj eu (af 7) (eC (.int 3))) (eC (.int 4))) (eC (.int 3))) (ah)))))))))) [a0,À (.con (ds.map .int)),a2,À (.str one),a4,À (.con (ws.map .str)),a6,À (.int v),a8,a9,À (.str go),À (.con (Dt one go))] G=.ok (.con (((A++ws)++Ah v).map .str)) G:=λa6=>by refine Ds (R:=[.dead]) ?_ (by rw [bR];exact bN _);have hr:=hr a6;generalize ((A++ws)++Ah v).map D.str=w2 at f8;generalize (A++ws).map D.str=w1 at f7 f8;generalize (Ah v).map D.str=w3 at f8 hr;generalize ws.map D.str=w0 at f7 hr;generalize A.map D.str=wA at f7 ea;dsimp! [ea,aR,f7,hr,f8]
 generalize hG:((A++ws)++Ah v).map D.str=w2 at hf;have e6:Dt one go=[.con [.str "(",.str "not"],.con [.str "(",.str "both",.str "any"],.con [.str "(",.str "either",.str "(",.str "kind",.str one,.str ")"],.con [.str "(",.str "way",.str "(",.str go]]:=rfl;generalize Dt one go=ar at f6 hf e6;subst e6;simp only [Í,Ý] at f1 f2 f3 f4 f5;dsimp! [dB,ev',aR,f1,eg,f2,f3,f4,f5,f6,hf]
theorem sJ (hd:ds.length=18) (ho:Na one):∀ (m j:Nat) (ws:List Str) (a0 a2 a4 a6 a7 a8 a9 iu iw:Option D),j+m≤8→ig j ws→∃ jV b6 b7 GR GS,ig (j+m) jV∧∀ G,bZ (gN 6) dB ((í j m).map λ(k:Nat)=>.int (0+(k:Int))) [a0,À (.con (ds.map .int)),a2,À (.str one),a4,À (.con (ws.map .str)),a6,a7,a8,a9,iu,iw] G=.nx [a0,À (.con (ds.map .int)),a2,À (.str one),a4,À (.con (jV.map .str)),b6,b7,a8,a9,GR,GS] G
 | 0,j,ws,a0,a2,a4,a6,a7,a8,a9,iu,iw,h,T=>⟨ws,a6,a7,iu,iw,T,λG=>by simp [bZ]⟩
 | m+1,j,ws,a0,a2,a4,a6,a7,a8,a9,iu,iw,h,T=>by obtain ⟨MC,c7,P1,P4,T1,e⟩:=Ai hd ho (j:=j) (by nofun) T a0 a2 a4 a7 a8 a9 iu iw;obtain ⟨jV,b6,b7,GR,GS,T',ih⟩:=sJ hd ho m (j+1) MC a0 a2 a4 (À (.int (0+(j:Int)))) c7 a8 a9 P1 P4 (by nofun) T1;refine ⟨jV,b6,b7,GR,GS,by rw [show j+(m+1)=j+1+m by nofun];exact T',λG=>?_⟩;rw [đ,Í,cV rfl];simp only [è,é,e G,kJ];exact ih G
theorem CB (hd:ds.length=18) (P:iR ns):∃ ws,uw 2 ws∧∀ G,bH [.int 2,.con (ds.map .int),.con (ns.map .str)] G=.ok (.con (ws.map .str)) G:=by obtain ⟨one,other,h1,h2,e0,e1⟩:=P.one;obtain ⟨v,ev⟩:=dH ds 1 (by nofun);have ev':cS (ds.map D.int) 1=À (.int v):=ev;obtain ⟨ws,b6,b7,GR,GS,T,e⟩:=sJ hd h1 (v % 8).toNat 0 (["any"]:List Str) (À (.int 2)) (À (.con (ns.map .str))) (À (.str other)) Æ Æ Æ Æ Æ Æ (by nofun) Gp;have hr:=gm (j:=v % 8) (by nofun) (by nofun);have hl:=T.le;refine ⟨_,JN T (by nofun) h2,λG=>?_⟩;have f1:=cz (["any"]:List Str) (by simp) G;have f2:=cz (["(","way","(","deep","(","kind",other,")",")","(","down"]:List Str) (by simp) G;have f3:=gu (["(","way","(","deep","(","kind",other,")",")","(","down"]:List Str) ws (by simp;nofun) G;have f4:=cz ([")",")"]:List Str) (by simp) G;have f5:=gu ((["(","way","(","deep","(","kind",other,")",")","(","down"]:List Str)++ws) ([")",")"]:List Str) (by simp;nofun) G;have e:=e G;have hcl:=bN (((["(","way","(","deep","(","kind",other,")",")","(","down"]:List Str)++ws)++([")",")"]:List Str));generalize ((í 0 (v % 8).toNat).map λ(k:Nat)=>D.int (0+(k:Int)))=its at hr e;generalize (((["(","way","(","deep","(","kind",other,")",")","(","down"]:List Str)++ws)++([")",")"]:List Str)).map D.str=w2 at f5 hcl;generalize ((["(","way","(","deep","(","kind",other,")",")","(","down"]:List Str)++ws).map D.str=w1 at f3 f5;generalize ws.map D.str=w0 at f3 e;simp only [Í,Ý] at f1 f2 f3 f4 f5 e;unfold bH;refine av ?_ (by rw [bR];exact hcl);dsimp! [dZ,e0,e1,ak,aR,f1,ev',hr,e,f2,f3,f4,f5]
end
section
variable {ds:List Int} {ns:List Str} {one other:Str} {G0:DH}
theorem Gs {d:D} {xs ys:List D} {G:DH} (h:iI G d=À xs):aB d (.con ys) G=aI (xs++ys) G:=by
 cases d with
 | con zs=>cases h;rfl
 | obj n=>simp only [aB,h];rfl
 | _=>cases h
structure Ob (G0 G:DH) (n:Nat) (ws:List Str):Prop where
 pre:∃ R,G=G0++R
 at_:G[n]?=À (.lst (ws.map .str))
 ge:G0.length≤n
theorem Ob.ls {G:DH} {n:Nat} {ws:List Str} (h:Ob G0 G n ws):iI G (.obj n)=À (ws.map .str):=by simp only [iI,h.at_]
theorem Aj {G:DH} (hp:∃ R,G=G0++R) (ws:List Str):Ob G0 (G++[.lst (ws.map .str)]) G.length ws:=by obtain ⟨R,rfl⟩:=hp;exact ⟨⟨R++[.lst (ws.map .str)],by simp⟩,CY _ _ _,by simp⟩
theorem xo (P:iR ns) (v:Int) {j:Nat} (hj:j≤4) {its pre:List Str} (T:sG j its) (hl:pre.length+its.length≤900) {G:DH} {n:Nat} (O:Ob G0 G n (pre++its)) (a0 a1 a3 a4 a6 a9 iu iw:Option D):∃ its' n' G' b9,sG (j+1) its'∧Ob G0 G' n' (pre++its') ∧
  cM [a0,a1,À (.con (ns.map .str)),a3,a4,À (.obj n),a6,À (.int v),À (.int (0+(j:Int))),a9,iu,iw] G=.nx [a0,a1,À (.con (ns.map .str)),a3,a4,À (.obj n'),a6,À (.int v),À (.int (0+(j:Int))),b9,iu,iw] G':=by
 obtain ⟨a,ha,ea⟩:=P.ix (v+(j:Int));obtain ⟨lo,hlo,hle⟩:∃ lo:Nat,v / (96+(j:Int)) % 3=lo∧lo≤2:=⟨(v / (96+(j:Int)) % 3).toNat,by nofun,by nofun⟩;obtain ⟨l,hl3,el⟩:∃ l:Str,(l="0"∨l="1"∨l="2")∧mS [.int (lo:Int)] G=.ok (.str l) G:=by
  have e:=FT (G:=G) (i:=(lo:Int)) (by nofun);have h3:lo=0∨lo=1∨lo=2:=by nofun
  rcases h3 with rfl | rfl | rfl
  ·exact ⟨"0",.inl rfl,e⟩
  ·exact ⟨"1",.inr (.inl rfl),e⟩
  ·exact ⟨"2",.inr (.inr rfl),e⟩
 obtain ⟨h,hh,eh⟩:∃ h:Str,(h="many"∨h="2")∧cS [D.str "many",.str "2"] (v / 288 % 2)=À (.str h):=by
  have h2:v / 288 % 2=0∨v / 288 % 2=1:=by nofun
  rcases h2 with h | h<;>rw [h]
  ·exact ⟨_,.inl rfl,rfl⟩
  ·exact ⟨_,.inr rfl,rfl⟩
 have f1:=cz (["many","2"]:List Str) (by simp) G;have f2:=cz (["(",a,l,h,")"]:List Str) (by simp) G;have hz:((pre++its).map D.str++(["(",a,l,h,")"]:List Str).map D.str).length≤Ä:=lz (by simp;nofun);have f3:aB (.obj n) (.con ((["(",a,l,h,")"]:List Str).map D.str)) G=.ok (.obj G.length) (G++[.lst ((pre++(its++(["(",a,l,h,")"]:List Str))).map D.str)]):=by rw [Gs O.ls,aI,if_pos hz,← ÿ,Ü]
 refine ⟨_,G.length,_,À (.int lo),JJ T ha hl3 hh,Aj O.pre _,?_⟩;generalize (pre++(its++(["(",a,l,h,")"]:List Str))).map D.str=w2 at f3;have NI:¬ (96+(j:Int))=0:=by nofun
 have MD:((96+(j:Int))==0)=Â:=beq_eq_false_iff_ne.mpr NI;have hlt:96+(j:Int)<1073741824:=by nofun
 have hgt:(0:Int)<96+(j:Int):=by nofun
 simp only [Í,Ý] at f1 f2 f3;dsimp! [cM,ea,NI,MD,hlt,hgt,hlo,el,aR,f1,eh,f2,f3]
theorem nt (P:iR ns) (v:Int) (a0 a1 a3 a4 a6 iu iw:Option D):∀ (m j:Nat) (its pre:List Str) (G:DH) (n:Nat) (a8 a9:Option D),j+m≤4→pre.length≤800→sG j its→Ob G0 G n (pre++its)→∃ its' n' G' b8 b9,sG (j+m) its'∧Ob G0 G' n' (pre++its') ∧
  bZ (gN 8) cM ((í j m).map λ(k:Nat)=>.int (0+(k:Int))) [a0,a1,À (.con (ns.map .str)),a3,a4,À (.obj n),a6,À (.int v),a8,a9,iu,iw] G=.nx [a0,a1,À (.con (ns.map .str)),a3,a4,À (.obj n'),a6,À (.int v),b8,b9,iu,iw] G'
 | 0,j,its,pre,G,n,a8,a9,h,hp,T,O=>⟨its,n,G,a8,a9,T,O,by simp [bZ]⟩
 | m+1,j,its,pre,G,n,a8,a9,h,hp,T,O=>by have hl:=T.le;obtain ⟨ME,n1,G1,c9,T1,O1,e⟩:=xo P v (j:=j) (by nofun) T (by nofun) O a0 a1 a3 a4 a6 a9 iu iw;obtain ⟨its',n',G',b8,b9,T',O',ih⟩:=nt P v a0 a1 a3 a4 a6 iu iw m (j+1) ME pre G1 n1 (À (.int (0+(j:Int)))) c9 (by nofun) hp T1 O1;refine ⟨its',n',G',b8,b9,by rw [show j+(m+1)=j+1+m by nofun];exact T',O',?_⟩;rw [đ,Í,cV rfl];simp only [è,é,e,kJ];exact ih
theorem xq (hd:ds.length=18) (P:iR ns) {j:Nat} (hj:j≤6) {pre rs:List Str} (hp:pre.length≤10) (T:sI j rs) {G:DH} (hG:∃ R,G=G0++R) {d:D} (hls:iI G d=À ((pre++rs).map .str)) (a0 a3 a4 a7 a8 a9 iu iw:Option D):∃ rs' n' G' b7 b8 b9,sI (j+1) rs'∧Ob G0 G' n' (pre++rs') ∧
  dz [a0,À (.con (ds.map .int)),À (.con (ns.map .str)),a3,a4,À d,À (.int (0+(j:Int))),a7,a8,a9,iu,iw] G=.nx [a0,À (.con (ds.map .int)),À (.con (ns.map .str)),a3,a4,À (.obj n'),À (.int (0+(j:Int))),b7,b8,b9,iu,iw] G':=by
 obtain ⟨v,ev⟩:=dH ds (4+j) (by nofun);have ev':cS (ds.map D.int) (4+(j:Int))=À (.int v):=by simpa using ev
 obtain ⟨a,ha,ea⟩:=P.ix v;obtain ⟨b,hb,eb⟩:=P.ix (v / 4);obtain ⟨o,ho,eo⟩:∃ o:Str,(o="row"∨o="mix")∧cS [D.str "row",.str "mix"] (v / 16 % 2)=À (.str o):=by
  have h2:v / 16 % 2=0∨v / 16 % 2=1:=by nofun
  rcases h2 with h | h<;>rw [h]
  ·exact ⟨_,.inl rfl,rfl⟩
  ·exact ⟨_,.inr rfl,rfl⟩
 have hl:=T.le;have f1:=cz (["row","mix"]:List Str) (by simp) G;have f2:=cz (["(","rule",a,b,o]:List Str) (by simp) G;have hz:((pre++rs).map D.str++(["(","rule",a,b,o]:List Str).map D.str).length≤Ä:=lz (by simp;nofun);have f3:aB d (.con ((["(","rule",a,b,o]:List Str).map D.str)) G=.ok (.obj G.length) (G++[.lst (((pre++rs)++(["(","rule",a,b,o]:List Str)).map D.str)]):=by rw [Gs hls,aI,if_pos hz,← ÿ]
 have O0:=Aj (G0:=G0) hG ((pre++rs)++(["(","rule",a,b,o]:List Str));have hr:=gm (j:=v / 32 % 3) (by nofun) (by nofun);obtain ⟨its,n1,G1,b8,b9,I,O1,e⟩:=nt P v a0 (À (.con (ds.map .int))) a3 a4 (À (.int (0+(j:Int)))) iu iw (v / 32 % 3).toNat 0 [] ((pre++rs)++(["(","rule",a,b,o]:List Str)) _ _ a8 a9 (by nofun) (by simp;nofun) JI (by rw [ò];exact O0);have hil:=I.le;have hw:((pre++rs)++(["(","rule",a,b,o]:List Str))++its++([")"]:List Str)=pre++(rs++(((["(","rule",a,b,o]:List Str)++its)++([")"]:List Str))):=by simp
 have hn1:n1<G1.length:=(É.mp O1.at_).1;have O2:Ob G0 (G1.set n1 (.lst ((pre++(rs++(((["(","rule",a,b,o]:List Str)++its)++([")"]:List Str)))).map .str))) n1 (pre++(rs++(((["(","rule",a,b,o]:List Str)++its)++([")"]:List Str)))):=⟨jS O1.pre O1.ge _,lF O1.at_,O1.ge⟩;refine ⟨_,n1,_,À (.int v),b8,b9,JL T I (by nofun) ha hb ho,O2,?_⟩;rw [← hw,ÿ];have hat:=O1.at_;have hlt:((((pre++rs)++(["(","rule",a,b,o]:List Str))++its).map D.str).length<Ä:=Ë (show _<1001 by simp;nofun) (lz (by nofun));generalize ((((pre++rs)++(["(","rule",a,b,o]:List Str))++its).map D.str)=w2 at hat hlt;generalize (((pre++rs)++(["(","rule",a,b,o]:List Str)).map D.str)=w1 at f3 e;generalize ((í 0 (v / 32 % 3).toNat).map λ(k:Nat)=>D.int (0+(k:Int)))=ks at hr e;have e':bZ (gN 8) cM ks [a0,À (.con (ds.map .int)),À (.con (ns.map .str)),a3,a4,À (.obj G.length),À (.int (j:Int)),À (.int v),a8,a9,iu,iw] (G++[.lst w1])=.nx [a0,À (.con (ds.map .int)),À (.con (ns.map .str)),a3,a4,À (.obj n1),À (.int (j:Int)),À (.int v),b8,b9,iu,iw] G1:=by simpa using e
 simp only [Í,Ý] at f1 f2 f3;dsimp! [dz,ev',ea,eb,aR,f1,eo,f2,f3,hr,e',hat,hlt]
theorem nv (hd:ds.length=18) (P:iR ns) {pre:List Str} (hp:pre.length≤10) (a0 a3 a4 iu iw:Option D):∀ (m j:Nat) (rs:List Str) (G:DH) (d:D) (a6 a7 a8 a9:Option D),j+m≤6→sI j rs→(∃ R,G=G0++R)→iI G d=À ((pre++rs).map .str)→∃ rs' d' G' b6 b7 b8 b9,sI (j+m) rs'∧(∃ R,G'=G0++R)∧iI G' d'=À ((pre++rs').map .str) ∧
  bZ (gN 6) dz ((í j m).map λ(k:Nat)=>.int (0+(k:Int))) [a0,À (.con (ds.map .int)),À (.con (ns.map .str)),a3,a4,À d,a6,a7,a8,a9,iu,iw] G=.nx [a0,À (.con (ds.map .int)),À (.con (ns.map .str)),a3,a4,À d',b6,b7,b8,b9,iu,iw] G'
 | 0,j,rs,G,d,a6,a7,a8,a9,h,T,hG,hls=>⟨rs,d,G,a6,a7,a8,a9,T,hG,hls,by simp [bZ]⟩
 | m+1,j,rs,G,d,a6,a7,a8,a9,h,T,hG,hls=>by obtain ⟨P5,n1,G1,c7,c8,c9,T1,O1,e⟩:=xq (G0:=G0) hd P (j:=j) (by nofun) hp T hG hls a0 a3 a4 a7 a8 a9 iu iw;obtain ⟨rs',d',G',b6,b7,b8,b9,T',P6,MF,ih⟩:=nv hd P hp a0 a3 a4 iu iw m (j+1) P5 G1 (.obj n1) (À (.int (0+(j:Int)))) c7 c8 c9 (by nofun) T1 O1.pre O1.ls;refine ⟨rs',d',G',b6,b7,b8,b9,by rw [show j+(m+1)=j+1+m by nofun];exact T',P6,MF,?_⟩;rw [đ,Í,cV rfl];simp only [è,é,e,kJ];exact ih
theorem CC (hd:ds.length=18) (P:iR ns) (G:DH):∃ ws,uw 1 ws∧bH [.int 1,.con (ds.map .int),.con (ns.map .str)] G=.ok (.con (ws.map .str)) G:=by
 obtain ⟨one,other,h1,h2,e0,e1⟩:=P.one;obtain ⟨v,ev⟩:=dH ds 1 (by nofun);have ev':cS (ds.map D.int) 1=À (.int v):=ev;obtain ⟨rs,d,G',b6,b7,b8,b9,T,⟨R,hR⟩,hls,e⟩:=nv (G0:=G) (pre:=(["(","start",one]:List Str)) hd P (by simp) (À (.int 1)) (À (.str one)) (À (.str other)) Æ Æ (1+v % 6).toNat 0 [] G (.con ((["(","start",one]:List Str).map .str)) Æ Æ Æ Æ (by nofun) JK ⟨[],by simp⟩ (by simp [iI]);have hr:=gm (j:=1+v % 6) (by nofun) (by nofun);have hl:=T.le;refine ⟨_,Cy T (by nofun) (by nofun) h1,?_⟩;have f1:=cz (["(","start",one]:List Str) (by simp) G;have f2:=cz ([")"]:List Str) (by simp) G';have f3:(aB d (.con (([")"]:List Str).map D.str)) G').fw G'=.ok (.con (((["(","start",one]:List Str)++rs++([")"]:List Str)).map D.str)) G':=by rw [Gs hls,← ÿ];exact cz _ (by simp;nofun) G'
 have hcl:=bN ((["(","start",one]:List Str)++rs++([")"]:List Str));generalize ((["(","start",one]:List Str)++rs++([")"]:List Str)).map D.str=w2 at f3 hcl;generalize ((í 0 (1+v % 6).toNat).map λ(k:Nat)=>D.int (0+(k:Int)))=its at hr e;simp only [Í,Ý] at f1 f2 f3 e;unfold bH;refine jO (R:=R) ?_ (by rw [bR];exact hcl);rw [← hR];dsimp! [dZ,e0,e1,ak,gz,aR,f1,ev',hr,e,f2,f3]
end
def ny:List Str:=["Foo","007","3","abcdefghi","a.b","a_b","a1","x'","-1","Many","ROW","None","True","[","{","+","1.0","x,",";","#","~","*","Any","\"a\"","<a>","a=b","zzzzzzzzzz"]
def JO (w:Str):Bool:=(!decide (w="(")&&!decide (w=")"))&&((!(xy w))&&((["start","rule","row","mix","0","1","2","many","way","down","deep","later","kind","not","both","either","any"]:List Str).all λt=>!decide (w=t)))
theorem Gu {w:Str} (h:JO w=Á):oW w:=by obtain ⟨h1,h2⟩:=aW h;obtain ⟨h3,h4⟩:=aW h1;obtain ⟨h5,h6⟩:=aW h2;refine ⟨by simpa using h3,by simpa using h4,by simpa using h5,λt ht=>?_⟩;have:=Ĥ.mp h6 t ht;simpa using this
theorem CD:∀ w∈ny,JO w=Á:=by symm
theorem CF:∀ w∈ny,(decide (w.cps.toList≠[])&&(decide (Dp w.cps.toList)&&(decide (∀ c∈w.cps.toList,c<1114112)&&decide (w.length≤20))))=Á:=by symm
theorem xr (c:Int):∃ w,oW w∧Pn w∧∀ G,fY [.int c] G=.ok (.str w) G:=by obtain ⟨d,e,e'⟩:=jH (xs:=ny.map D.str) (i:=c % 27) (by nofun) (by rw [ý,show ny.length=27 from rfl];nofun);obtain ⟨w,hw,rfl⟩:=ĵ.mp (û e');refine ⟨w,Gu (CD w hw),eB (CF w hw),λG=>?_⟩;have f1:=cz (ny.take 15) (by decide) G;have f2:=cz (ny.drop 15) (by decide) G;have f3:=gu (ny.take 15) (ny.drop 15) (by decide) G;rw [RL] at f3;generalize ny.map D.str=w3 at f3 e;have g1:(ny.take 15).map D.str=[.str "Foo",.str "007",.str "3",.str "abcdefghi",.str "a.b",.str "a_b",.str "a1",.str "x'",.str "-1",.str "Many",.str "ROW",.str "None",.str "True",.str "[",.str "{"]:=rfl;have g2:(ny.drop 15).map D.str=[.str "+",.str "1.0",.str "x,",.str ";",.str "#",.str "~",.str "*",.str "Any",.str "\"a\"",.str "<a>",.str "a=b",.str "zzzzzzzzzz"]:=rfl;rw [g1] at f1 f3;rw [g2] at f2 f3;unfold fY;refine av ?_ bh;dsimp! [jo,aR,f1,f2,f3,e]
theorem Gv {xs:List D} {k:Nat} (h:k≤xs.length):cutD xs Æ (À (k:Int))=xs.take k:=by simp [cutD,HT.pA,HT.lT,SO h]
theorem Ak {xs:List D} {k:Nat} (h:k≤xs.length):cutD xs (À (k:Int)) Æ=xs.drop k:=by simp only [cutD,HT.pA,HT.lT,SO h];exact List.take_of_length_le (by simp)
theorem vm (ws:List Str) (k:Nat) (h:k≤ws.length) (hl:ws.length≤1000) (G:DH):(jW (.con (ws.map .str)) Æ (À (k:Int)) G).fw G=.ok (.con ((ws.take k).map .str)) G:=by show (aI (cutD (ws.map .str) Æ (À (k:Int))) G).fw G=_;rw [Gv (by simpa using h),← List.map_take];exact cz _ (by simp;nofun) G
theorem lK (ws:List Str) (k:Nat) (h:k≤ws.length) (hl:ws.length≤1000) (G:DH):(jW (.con (ws.map .str)) (À (k:Int)) Æ G).fw G=.ok (.con ((ws.drop k).map .str)) G:=by show (aI (cutD (ws.map .str) (À (k:Int)) Æ) G).fw G=_;rw [Ak (by simpa using h),← List.map_drop];exact cz _ (by simp;nofun) G
def AH (w:Str):Bool:=!(à ("()":Str) w 0 ("()":Str).length 1).isEmpty
theorem uy {w:Str} (h:LW w):AH w=(decide (w="(")||decide (w=")")):=by
 rcases h with rfl | rfl | h
 ·symm
 ·symm
 ·have e:AH w=Â:=sC h;rw [e];simp [h.o,h.s]
def brk (g:Bool) (ws:List Str):List Nat:=(í 0 ws.length).filter λk=>g ^^ AH (ws.getD k "")
theorem vn (g:Bool) (ws:List Str) (hl:ws.length≤1000) (r:DS) (G:DH):eFn (gx fk oN [Á] (aa (ai c5 (aa (af 0) (ah))) (ah)) (dh (aj (ja g) (aj bO (af 1) (af 0)) (eC (.str "()")))) (af 0)) (À (.con (ws.map .str))::r) G=.ok (.con ((brk g ws).map λk:Nat=>.int (0+(k:Int)))) G:=by
 have hz:ws.length≤Ä:=lz (by nofun);have hr:=gm (j:=(ws.length:Int)) (by nofun) (by nofun);rw [Ũ] at hr;have hc:=fE (gO:=oN) (ks:=[Á]) (tt:=dh (aj (ja g) (aj bO (af 1) (af 0)) (eC (.str "()")))) (te:=af 0) (own:=λk:Nat=>[D.int (0+(k:Int))]) (dat:=λk:Nat=>D.int (0+(k:Int))) (f:=λk:Nat=>D.int (0+(k:Int))) (c:=λk=>g ^^ AH (ws.getD k "")) (G:=G) (τ:=À (.con (ws.map .str))::r) (í 0 ws.length) [] (by simp;nofun) (λ_ _=>rfl) (λk hk acc=>by
   have hk':k<ws.length:=by simpa using hk
   have e:cS (ws.map D.str) (k:Int)=À (.str (ws.getD k "")):=fC (by rw [å,ę,Ð hk'];rfl);have e2:ja g (.str (ws.getD k "")) (.str "()") (G++[.lst acc])=.ok (.bl (g ^^ AH (ws.getD k ""))) (G++[.lst acc]):=by simp only [ja,aG];rfl
   generalize ws.getD k ""=w at e e2;simp! [mask,e,e2]) (λk hk acc=>by simp! [mask])
 have hcl:aM ((brk g ws).map λk:Nat=>D.int (0+(k:Int)))=Á:=cF λ_=>fV;have hc':bE oN [Á] (dh (aj (ja g) (aj bO (af 1) (af 0)) (eC (.str "()")))) (af 0) G.length ((í 0 ws.length).map λk:Nat=>D.int (0+(k:Int))) (À (.con (ws.map .str))::r) (G++[.lst []])=.ok (.obj G.length) (G++[.lst ((brk g ws).map λk:Nat=>D.int (0+(k:Int)))]):=by rw [hc,â];rfl
 generalize ((í 0 ws.length).map λk:Nat=>D.int (0+(k:Int)))=its at hr hc';generalize ((brk g ws).map λk:Nat=>D.int (0+(k:Int)))=bs at hc' hcl;simp! [aR,hz,hr,hc',kj hcl]
theorem Al {g:Bool} {ws:List Str} (hne:brk g ws≠[]) (v:Int):∃ k,k<ws.length∧(g ^^ AH (ws.getD k ""))=Á∧cS ((brk g ws).map λk:Nat=>D.int (0+(k:Int))) (v % ((brk g ws).length:Int))=À (.int (0+(k:Int))):=by have hp:0<(brk g ws).length:=ĸ.mpr hne;have h0:0≤v % ((brk g ws).length:Int):=OQ _ (by nofun);have h1:v % ((brk g ws).length:Int)<(brk g ws).length:=ş _ (by nofun);obtain ⟨d,e,e'⟩:=jH (xs:=(brk g ws).map λk:Nat=>D.int (0+(k:Int))) h0 (by simpa using h1);obtain ⟨k,hk,rfl⟩:=ĵ.mp (û e');obtain ⟨q1,q2⟩:=Ļ.mp hk;exact ⟨k,by simpa using q1,q2,e⟩
theorem Am {g:Bool} {ws:List Str} {w:Str} (hw:w∈ws) (hb:(g ^^ AH w)=Á):brk g ws≠[]:=λz=>by obtain ⟨k,hk,e⟩:=Ŕ hw;have:k∈brk g ws:=Ļ.mpr ⟨by simpa using hk,by rw [ę,Ð hk,e];exact hb⟩;rw [z] at this;simp at this
theorem An {ws:List Str} {k:Nat} (h:k<ws.length):ws=ws.take k++ws.getD k ""::ws.drop (k+1):=by rw [ę,Ð h];simp
theorem vo (w:Str) (ws:List Str):nO (w::ws)=nO ws+(if w="(" then 1 else 0):=by unfold nO;rw [SG];by_cases h:w="("<;>simp [h]
theorem vp (w:Str) (ws:List Str):nS (w::ws)=nS ws+(if w=")" then 1 else 0):=by unfold nS;rw [SG];by_cases h:w=")"<;>simp [h]
structure Sp (k:Nat) (ws:List Str):Prop where
 no:¬ reads k ws
 lw:∀ w∈ws,LW w
 le:ws.length≤290
theorem Gw {k:Nat} {ws:List Str} (W:uw k ws) (i:Nat) (c:Str) (hc:c="("∨c=")"):Sp k (ws.take i++[c]++ws.drop i):=by
 have hb:=i7 (iP W.wr).1;have hs:=RL i ws;have n1:¬ (("(":Str)=")"):=by symm
 refine ⟨λr=>?_,λw hw=>?_,by have:=W.le;simp;nofun⟩
 ·have h2:=i7 r;rw [← hs,qB,qC] at hb;simp only [qB,qC,vo,vp] at h2;rcases hc with rfl | rfl
  ·simp [n1,nO,nS] at h2 hb;nofun
  ·simp [oV,nO,nS] at h2 hb;nofun
 ·rcases ñ.mp hw with hw | hw
  ·rcases ñ.mp hw with hw | hw
   ·exact W.lw w (ĳ hw)
   ·simp at hw;subst hw;rcases hc with rfl | rfl
    ·exact jv
    ·exact kY
  ·exact W.lw w (Ĳ hw)
theorem Gx {k:Nat} {ws:List Str} (W:uw k ws) (i:Nat) (hi:i<ws.length) (hc:AH (ws.getD i "")=Á):Sp k (ws.take i++ws.drop (i+1)):=by
 have hb:=i7 (iP W.wr).1;have hs:=An hi;have hm:ws.getD i ""∈ws:=by rw [ę,Ð hi];exact Sy hi
 have hw:=uy (W.lw _ hm);rw [hc] at hw;have n1:¬ (("(":Str)=")"):=by symm
 refine ⟨λr=>?_,λw hw=>?_,by have:=W.le;simp;nofun⟩
 ·have h2:=i7 r;rw [hs,qB,qC,vo,vp] at hb;simp only [qB,qC] at h2;have hc:ws.getD i ""="("∨ws.getD i ""=")":=by simpa using hw.symm
  rcases hc with e | e<;>rw [e] at hb
  ·simp [n1] at hb;nofun
  ·simp [oV] at hb;nofun
 ·rcases ñ.mp hw with hw | hw
  ·exact W.lw w (ĳ hw)
  ·exact W.lw w (Ĳ hw)
theorem Ao {k:Nat} {ws:List Str} (W:uw k ws) (i j:Nat) {b:Str} (hb:oW b) (pb:Pn b):Sp k (ws.take i++[b]++ws.drop j):=by
 refine ⟨w9 hb (by simp),λw hw=>?_,by have:=W.le;simp;nofun⟩;rcases ñ.mp hw with hw | hw
 ·rcases ñ.mp hw with hw | hw
  ·exact W.lw w (ĳ hw)
  ·simp at hw;subst hw;exact pb.lw
 ·exact W.lw w (Ĳ hw)
theorem CG {k:Nat} {ws:List Str} (W:uw k ws):Sp k []:=⟨(iP W.wr).2.2,by simp,by simp⟩
theorem Gy {k:Nat} {ws:List Str} (W:uw k ws):Sp k (ws++ws):=⟨(iP W.wr).2.1,λw hw=>by rcases ñ.mp hw with hw | hw<;>exact W.lw w hw,by have:=W.le;simp;nofun⟩
theorem Gz {k:Nat} {ws:List Str} (W:uw k ws):∃ a b:Str,a∈ws∧AH a=Á∧b∈ws∧AH b=Â:=by
 obtain ⟨pre,b,rest,e,_,h2,h3,_⟩:=W.ot;obtain ⟨x,hx⟩:=Ť _ h3;have m1:("(":Str)∈ws:=by rw [e];simp
 have m2:x∈ws:=by rw [e];simp [hx]
 refine ⟨"(",x,m1,by rw [uy jv];symm,m2,?_⟩;rw [uy (W.lw x m2)];simp [(h2 x hx).1,(h2 x hx).2]
theorem Aq (q:Int) (a:Nat) (h:cS ("()":Str).cps.toList q=À a) (G:DH):bO (.str "()") (.int q) G=.ok (.str ⟨#[a]⟩) G:=by have hz:("()":Str).length≤Ä:=lz (by symm);simp only [bO,aG,hz,if_true,h]
theorem Ar {k:Nat} {ws:List Str} (W:uw k ws) (way place cell:Int) (h1:1≤way) (h5:way≤5) (G:DH):∃ jV,Sp k jV∧dD [.con (ws.map .str),.int way,.int place,.int cell] G=.ok (.con (jV.map .str)) G:=by
 have hl:=W.le;have hz:ws.length≤Ä:=lz (by nofun);obtain ⟨wa,wb,ma,ba,mb,bb⟩:=Gz W;have nb:brk Â ws≠[]:=Am ma (by rw [ba];rfl);have no:brk Á ws≠[]:=Am mb (by rw [bb];rfl);obtain ⟨i,hi⟩:∃ i:Nat,place % ((ws.length:Int)+1)=i∧i≤ws.length:=by have h0:0≤place % ((ws.length:Int)+1):=OQ _ (by nofun);have h1:place % ((ws.length:Int)+1)<(ws.length:Int)+1:=ş _ (by nofun);exact ⟨(place % ((ws.length:Int)+1)).toNat,by nofun,by nofun⟩
 obtain ⟨bk,P7,P8,KC⟩:=Al nb place;obtain ⟨ok,hok,RB,KD⟩:=Al no place;obtain ⟨bad,hbad,JP,JQ⟩:=xr cell;have r1:=λr=>vn Â ws (by nofun) r G;have r2:=λr=>vn Á ws (by nofun) r G;have zb:(brk Â ws).length≤Ä:=lz (by have:(brk Â ws).length≤(í 0 ws.length).length:=RM _ _;simp at this;nofun)
 have zo:(brk Á ws).length≤Ä:=lz (by have:(brk Á ws).length≤(í 0 ws.length).length:=RM _ _;simp at this;nofun)
 have RC:0<(brk Â ws).length:=ĸ.mpr nb;have RD:0<(brk Á ws).length:=ĸ.mpr no;have hlb:(((brk Â ws).map λk:Nat=>D.int (0+(k:Int))).length:Int)=(brk Â ws).length:=by simp
 have hlo:(((brk Á ws).map λk:Nat=>D.int (0+(k:Int))).length:Int)=(brk Á ws).length:=by simp
 have lb:((brk Â ws).map λk:Nat=>D.int (0+(k:Int))).length≤Ä:=by rw [ý];exact zb
 have lo:((brk Á ws).map λk:Nat=>D.int (0+(k:Int))).length≤Ä:=by rw [ý];exact zo
 have NJ:¬ ((brk Â ws).length:Int)=0:=by nofun
 have NK:¬ ((brk Á ws).length:Int)=0:=by nofun
 rw [← hlb] at KC NJ;rw [← hlo] at KD NK;generalize ((brk Â ws).map λk:Nat=>D.int (0+(k:Int)))=bs at r1 KC NJ lb;generalize ((brk Á ws).map λk:Nat=>D.int (0+(k:Int)))=os at r2 KD NK lo;have P9:0<bs.length:=by nofun
 have Qa:0<os.length:=by nofun
 rw [Int.zero_add] at KC KD;have hpos:(0:Int)<(ws.length:Int)+1:=by nofun
 have Qc:¬ ((ws.length:Int)+1)=0:=by nofun
 have go:∀ jV:List Str,bq [À (.con (ws.map .str)),À (.int way),À (.int place),À (.int cell),À (.int (i:Int)),À (.con bs),À (.con os)] G=.rt (.con (jV.map .str)) G→dD [.con (ws.map .str),.int way,.int place,.int cell] G=.ok (.con (jV.map .str)) G:=λjV h=>by
  unfold dD;refine av ?_ (by rw [bR];exact bN jV);have hi1:=hi.1;have JR:place % (((ws.map D.str).length:Int)+1)=i:=by rw [ý];exact hi1
  have hz':(ws.map D.str).length≤Ä:=by rw [ý];exact hz
  generalize ws.map D.str=w0 at r1 r2 h JR hz';have hp1:(0:Int)<(w0.length:Int)+1:=by nofun
  have hp2:¬ ((w0.length:Int)+1)=0:=by nofun
  simp [cY,gA,gb,c5,aG,hz',zx,hp1,JR,r1,r2,h]
 have hw:way=1∨way=2∨way=3∨way=4∨way=5:=by nofun
 rcases hw with rfl | rfl | rfl | rfl | rfl
 ·obtain ⟨c,hc,ec⟩:∃ c:Str,(c="("∨c=")")∧∀ G:DH,bO (.str "()") (.int (cell % 2)) G=.ok (.str c) G:=by
   have h2:cell % 2=0∨cell % 2=1:=by nofun
   rcases h2 with h | h<;>rw [h]
   ·exact ⟨"(",.inl rfl,λG=>Aq 0 40 (by symm) G⟩
   ·exact ⟨")",.inr rfl,λG=>Aq 1 41 (by symm) G⟩
  refine ⟨_,Gw W i c hc,go _ ?_⟩;have s1:=vm ws i hi.2 (by nofun) G;have s2:=lK ws i hi.2 (by nofun) G;have f1:=cz [c] (by simp) G;have f2:=gu (ws.take i) [c] (by simp;nofun) G;have f3:=gu (ws.take i++[c]) (ws.drop i) (by simp;nofun) G;generalize (ws.take i++[c]++ws.drop i).map D.str=w4 at f3;generalize (ws.take i++[c]).map D.str=w3 at f2 f3;generalize (ws.drop i).map D.str=w2 at s2 f3;generalize (ws.take i).map D.str=w1 at s1 f2;generalize ws.map D.str=w0 at s1 s2;simp only [Í,Ý] at f1 f2;simp [dM,cY,bq,ak,aR,s1,s2,ec,f1,f2,f3]
 ·refine ⟨_,Gx W bk P7 (by simpa using P8),go _ ?_⟩;have s1:=vm ws bk (by nofun) (by nofun) G;have s2:(jW (.con (ws.map .str)) (À ((bk:Int)+1)) Æ G).fw G=.ok (.con ((ws.drop (bk+1)).map .str)) G:=lK ws (bk+1) (by nofun) (by nofun) G;have f3:=gu (ws.take bk) (ws.drop (bk+1)) (by simp;nofun) G;generalize (ws.take bk++ws.drop (bk+1)).map D.str=w4 at f3;generalize (ws.drop (bk+1)).map D.str=w2 at s2 f3;generalize (ws.take bk).map D.str=w1 at s1 f3;generalize ws.map D.str=w0 at s1 s2;simp [dM,cY,bq,fZ,ak,aR,c5,aG,lb,P9,bO,KC,zx,s1,s2,f3]
 ·refine ⟨_,Ao W i i hbad JP,go _ ?_⟩;have s1:=vm ws i hi.2 (by nofun) G;have s2:=lK ws i hi.2 (by nofun) G;have f1:=cz [bad] (by simp) G;have f2:=gu (ws.take i) [bad] (by simp;nofun) G;have f3:=gu (ws.take i++[bad]) (ws.drop i) (by simp;nofun) G;have eb:=JQ G;generalize (ws.take i++[bad]++ws.drop i).map D.str=w4 at f3;generalize (ws.take i++[bad]).map D.str=w3 at f2 f3;generalize (ws.drop i).map D.str=w2 at s2 f3;generalize (ws.take i).map D.str=w1 at s1 f2;generalize ws.map D.str=w0 at s1 s2;simp only [Í,Ý] at f1 f2;simp [dM,cY,bq,ak,aR,s1,s2,eb,f1,f2,f3]
 ·refine ⟨_,Ao W ok (ok+1) hbad JP,go _ ?_⟩;have s1:=vm ws ok (by nofun) (by nofun) G;have s2:(jW (.con (ws.map .str)) (À ((ok:Int)+1)) Æ G).fw G=.ok (.con ((ws.drop (ok+1)).map .str)) G:=lK ws (ok+1) (by nofun) (by nofun) G;have f1:=cz [bad] (by simp) G;have f2:=gu (ws.take ok) [bad] (by simp;nofun) G;have f3:=gu (ws.take ok++[bad]) (ws.drop (ok+1)) (by simp;nofun) G;have eb:=JQ G;generalize (ws.take ok++[bad]++ws.drop (ok+1)).map D.str=w4 at f3;generalize (ws.take ok++[bad]).map D.str=w3 at f2 f3;generalize (ws.drop (ok+1)).map D.str=w2 at s2 f3;generalize (ws.take ok).map D.str=w1 at s1 f2;generalize ws.map D.str=w0 at s1 s2;simp only [Í,Ý] at f1 f2;simp [dM,cY,bq,f9,ak,aR,c5,aG,lo,Qa,bO,KD,zx,eb,f1,s1,s2,f2,f3]
 ·have f1:=cz [] (by simp) G;have f2:=gu ws ws (by nofun) G;have f3:(aI [D.con [],D.con ((ws++ws).map .str)] G).fw G=.ok (.con [D.con [],D.con ((ws++ws).map .str)]) G:=fD z2 (by rw [aV,aV,bR,bR,bN];rfl);have h2:cell % 2=0∨cell % 2=1:=by nofun
  rcases h2 with h | h
  ·refine ⟨[],CG W,go _ ?_⟩;have ea:cS [D.con [],D.con ((ws++ws).map .str)] 0=À (.con []):=rfl;generalize (ws++ws).map D.str=w2 at f2 f3 ea;generalize ws.map D.str=w0 at f2;simp only [Ý] at f1 f2;simp [dM,cY,bq,ak,aR,f1,f2,f3,h,bO,aG,ea]
  ·refine ⟨_,Gy W,go _ ?_⟩;have ea:cS [D.con [],D.con ((ws++ws).map .str)] 1=À (.con ((ws++ws).map .str)):=rfl;generalize (ws++ws).map D.str=w2 at f2 f3 ea;generalize ws.map D.str=w0 at f2;simp only [Ý] at f1 f2;simp [dM,cY,bq,ak,aR,f1,f2,f3,h,bO,aG,ea]
theorem CH {d:D} {G:DH} (h:∀ R:DH,mV .str d (G++R)=.ok (.bl Â) (G++R)) (k:Nat) (hk:k≤2):Rf (bM [.int k,d] G) G:=by
 have z1:=z1;have hw:∀ R:DH,∃ as,eU [d] (G++R)=.bw (.mk "NoText" as) (G++R):=λR=>by
  refine ⟨[.str "what is read must be a text"],?_⟩;unfold eU;refine dG ?_;have e:oO .str (af 0) [À d,Æ] (G++R)=.ok (.bl Â) (G++R):=by unfold oO;rw [ao,fS];exact h R
  simp! [g6,e,z1]
 obtain ⟨as,e1⟩:=hw [.lst [],.lst [.obj G.length]];have e2:∀ f:Str,aE [d,.fn f] G=.bw (.mk "NoText" as) G:=λf=>by unfold aE;refine jr (R:=[.lst [],.lst [.obj G.length]]) ?_;simp! [bB,aI,z1,e1]
 refine ⟨as,?_⟩;have eT:fh [d] G=.bw (.mk "NoText" as) G:=by unfold fh;refine dG ?_;simp! [iN,e2]
 have eS:d7 [d] G=.bw (.mk "NoText" as) G:=by unfold d7;refine dG ?_;simp! [g9,e2]
 have eW:gc [d] G=.bw (.mk "NoText" as) G:=by unfold gc;refine dG ?_;simp! [jq,e2]
 unfold bM;refine dG ?_
 match k,hk with
 | 0,_=>simp! [bf,ak,eT]
 | 1,_=>simp! [bf,ak,eS]
 | 2,_=>simp! [bf,ak,eW]
theorem uz (c:Int):∃ s:Str,Na s∧∀ G,bJ [.int c] G=.ok (.str s) G:=by obtain ⟨l,h,e⟩:=Cv c;exact ⟨bT l,JG h,e⟩
def qJ (c:Int):Str:=Classical.choose (uz c)
theorem GA (c:Int):Na (qJ c):=(RN (uz c)).1
theorem CI (c:Int) (G:DH):bJ [.int c] G=.ok (.str (qJ c)) G:=(RN (uz c)).2 G
theorem As {ds:List Int} (hd:ds.length=18) (a0:Option D) (r:DS) (G:DH):∃ ns,iR ns∧eFn (gx fk oN [Â,Á] (aa (eC (.int 4)) (ah)) (gF) (aA 1 bJ (aa (aj bO (af 2) (aj aB (eC (.int 12)) (af 0))) (ah)))) (a0::À (.con (ds.map .int))::r) G=.ok (.con (ns.map .str)) G:=by
 have hr:fk [.int 4]=À ([0,1,2,3].map D.int):=by have:=gm (j:=4) (by nofun) (by nofun);rw [this];rfl
 have hc:=oM (gO:=oN) (ks:=[Â,Á]) (te:=aA 1 bJ (aa (aj bO (af 2) (aj aB (eC (.int 12)) (af 0))) (ah))) (own:=λd=>[d]) (f:=λd=>match d with | .int k=>.str (qJ (nR ds (12+k.toNat))) | d=>d) (G:=G) (τ:=a0::À (.con (ds.map .int))::r) ([0,1,2,3].map D.int) [] (by simp) (λ_ _=>rfl) (by
  intro x hx acc;obtain ⟨k,hk,rfl⟩:=ĵ.mp hx;have hk':0≤k∧k≤3:=by simp at hk;nofun
  have e:cS (ds.map D.int) (12+k)=À (.int (nR ds (12+k.toNat))):=by
   have:=Dq ds (12+k.toNat) (by nofun)
   rwa [show ((12+k.toNat:Nat):Int)=12+k by nofun] at this
  have e2:=CI (nR ds (12+k.toNat)) (G++[.lst acc]);simp! [mask,e,e2])
 refine ⟨[qJ (nR ds 12),qJ (nR ds 13),qJ (nR ds 14),qJ (nR ds 15)],⟨rfl,λs hs=>?_⟩,?_⟩
 ·simp at hs;rcases hs with rfl | rfl | rfl | rfl<;>exact GA _
 ·have hcl:=bN [qJ (nR ds 12),qJ (nR ds 13),qJ (nR ds 14),qJ (nR ds 15)];have hc':bE oN [Â,Á] gF (aA 1 bJ (aa (aj bO (af 2) (aj aB (eC (.int 12)) (af 0))) (ah))) G.length ([0,1,2,3].map D.int) (a0::À (.con (ds.map .int))::r) (G++[.lst []])=.ok (.obj G.length) (G++[.lst ([qJ (nR ds 12),qJ (nR ds 13),qJ (nR ds 14),qJ (nR ds 15)].map D.str)]):=hc;generalize [qJ (nR ds 12),qJ (nR ds 13),qJ (nR ds 14),qJ (nR ds 15)].map D.str=bs at hc' hcl;generalize ([0,1,2,3].map D.int)=its at hr hc';simp [aR,hr,hc',kj hcl]
theorem CJ {ds:List Int} {ns:List Str} (hd:ds.length=18) (P:iR ns) (k:Nat) (hk:k≤2) (G:DH):∃ ws,uw k ws∧bH [.int k,.con (ds.map .int),.con (ns.map .str)] G=.ok (.con (ws.map .str)) G:=by
 match k,hk with
 | 0,_=>obtain ⟨ws,W,e⟩:=Cz hd P;exact ⟨ws,W,e G⟩
 | 1,_=>exact CC hd P G
 | 2,_=>obtain ⟨ws,W,e⟩:=CB hd P;exact ⟨ws,W,e G⟩
theorem sL {k:Nat} (hk:k≤2) {ws:List Str} (hn:¬ reads k ws) {x:Str} (T:Tx x ws) (G:DH):bC [.int k,.str x] G=.ok (.bl Á) G:=nh ((ng T k hk G).2 hn)
theorem Au {k k':Nat} {ws:List Str} (W:uw k ws) (h2:k'≤2) (hne:k'≠k):¬ reads k' ws:=by obtain ⟨pre,b,rest,e,h1,hb,_,hm⟩:=W.ot;rw [e];exact sA h1 hb (hm k' h2 hne)
theorem JS {d:D} {k:Nat} (hk:k≤2) {G:DH} (h:∀ R:DH,mV .str d (G++R)=.ok (.bl Â) (G++R)):bC [.int k,d] G=.ok (.bl Á) G:=nh (CH h k hk)
theorem Av {ds:List Int} {ns:List Str} {k:Nat} (hk:k≤2) (hd:ds.length=18) (P:iR ns) {ws:List Str} (W:uw k ws) (a0 a6 a7:Option D):∃ G',m5 [a0,À (.con (ds.map .int)),À (.con (ns.map .str)),À (.int (k:Int)),À (.con (ws.map .str)),Æ,a6,a7] []=.rt (.bl Á) G':=by
 obtain ⟨v,ev⟩:=dH ds 2 (by nofun);have ev':cS (ds.map D.int) 2=À (.int v):=ev;obtain ⟨one,other,h1,h2,e0,e1⟩:=P.one;have z2:=z2;have z1:=z1;have z6:(6:Nat)≤Ä:=lz (by nofun);have f1:=cz (["x"]:List Str) (by simp) [];simp only [Í,Ý] at f1;generalize hO:[D.dR,.int 5,.bl Á,.con [.str "x"],.tup [.str one,.tup []],.obj 0]=os;have Ka:os.length=6:=by rw [← hO];rfl
 have hN:aI [D.dR,.int 5,.bl Á,.con [.str "x"],.tup [.str one,.tup []],.obj 0] [.dct []]=.ok (.obj 1) [.dct [],.lst os]:=by rw [hO,aI,if_pos (by rw [Ka];exact z6)];rfl
 refine ⟨[.dct [],.lst os],?_⟩;by_cases hv:v % 2=0
 ·have hb:(v % 2==0)=Á:=by simp [hv]
  obtain ⟨x,T,ex⟩:=ju ws Â (by have:=W.le;nofun) W.lw;have Du:=ex [.dct [],.lst os];obtain ⟨k',hk',h2',hne⟩:∃ k':Nat,((k:Int)+1+v / 2 % 2) % 3=k'∧k'≤2∧k'≠k:=by
   have hq:v / 2 % 2=0∨v / 2 % 2=1:=by nofun
   exact ⟨(((k:Int)+1+v / 2 % 2) % 3).toNat,by nofun,by nofun,by nofun⟩
  have er:=sL h2' (Au W h2' hne) T [.dct [],.lst os];generalize ws.map D.str=w0 at Du;dsimp! [m5,aR,f1,e0,hN,z2,ev',ak,hb,hk',Du,er]
 ·have hb:(v % 2==0)=Â:=by simpa using hv
  obtain ⟨d,ed,hd'⟩:∃ d,cS os (v / 2 % 6)=À d∧∀ R:DH,mV .str d ([.dct [],.lst os]++R)=.ok (.bl Â) ([.dct [],.lst os]++R):=by
   have hq:v / 2 % 6=0∨v / 2 % 6=1∨v / 2 % 6=2∨v / 2 % 6=3∨v / 2 % 6=4∨v / 2 % 6=5:=by nofun
   rcases hq with h | h | h | h | h | h<;>rw [h,← hO]<;>exact ⟨_,rfl,λR=>rfl⟩
  have er:=JS hk hd';dsimp! [m5,aR,f1,e0,hN,z2,ev',ak,hb,ed,er]
theorem Aw {ds:List Int} {ns:List Str} (hd:ds.length=18) (P:iR ns) (a0:Option D):∃ G',kq [a0,À (.con (ds.map .int)),À (.con (ns.map .str)),Æ,Æ,Æ,Æ,Æ] []=.rt (.bl Á) G':=by
 obtain ⟨v0,LY⟩:=dH ds 0 (by nofun);obtain ⟨v2,Nv⟩:=dH ds 2 (by nofun);obtain ⟨v3,Nx⟩:=dH ds 3 (by nofun);obtain ⟨NL,MG⟩:=dH ds 16 (by nofun);obtain ⟨KG,MH⟩:=dH ds 17 (by nofun);have GB:cS (ds.map D.int) 0=À (.int v0):=LY;have JT:cS (ds.map D.int) 2=À (.int v2):=Nv;have MJ:cS (ds.map D.int) 3=À (.int v3):=Nx;have JU:cS (ds.map D.int) 16=À (.int NL):=MG;have Dv:cS (ds.map D.int) 17=À (.int KG):=MH;obtain ⟨k,hk,hk2⟩:∃ k:Nat,v0 % 3=k∧k≤2:=⟨(v0 % 3).toNat,by nofun,by nofun⟩;obtain ⟨ws,W,ew⟩:=CJ hd P k hk2 [];by_cases h7:v0 / 3 % 8=7
 ·have hb:(v0 / 3 % 8==7)=Á:=by simp [h7]
  obtain ⟨G',e⟩:=Av hk2 hd P W a0 Æ Æ;refine ⟨G',?_⟩;generalize ws.map D.str=w0 at ew e;dsimp! [kq,GB,hk,ew,ak,hb,e]
 ·have hb:(v0 / 3 % 8==7)=Â:=by simpa using h7
  have RG:=ak Â (KG % 2) 1 [];refine ⟨[],?_⟩;by_cases hw:v2 % 6=0
  ·have hg:¬ (0:Int)<v2 % 6:=by nofun
   obtain ⟨x,T,ex⟩:=ju ws (KG % 2==1) (by have:=W.le;nofun) W.lw;have Du:=ex [];obtain ⟨v,_,er⟩:=(ng T k hk2 []).1 (iP W.wr).1;generalize ws.map D.str=w0 at ew Du;dsimp! [kq,GB,hk,ew,ak,hb,JT,hw,hg,ya,Dv,Du,zg,er,IV]
  ·have hg:(0:Int)<v2 % 6:=by nofun
   obtain ⟨jV,S,es⟩:=Ar W (v2 % 6) v3 NL (by nofun) (by nofun) [];obtain ⟨x,T,ex⟩:=ju jV (KG % 2==1) S.le S.lw;have Du:=ex [];have er:=sL hk2 S.no T [];generalize jV.map D.str=w1 at es Du;generalize ws.map D.str=w0 at ew es;dsimp! [kq,GB,hk,ew,ak,hb,JT,hg,ya,MJ,JU,es,Dv,Du,er]
theorem Ax:∀ ns:List Int,ns.length≤63→∃ G,zS [.con (ns.map .int)] []=.ok (.bl Á) G:=by intro ns hl;obtain ⟨ds,hd,e⟩:=z8 ns 18 (by nofun) hl [];obtain ⟨pl,P,ep⟩:=As hd (À (.con (ns.map .int))) [Æ,Æ,Æ,Æ,Æ,Æ] [];obtain ⟨G',et⟩:=Aw hd P (À (.con (ns.map .int)));refine ⟨[],?_⟩;unfold zS;refine jO (R:=G') ?_ rfl;have e':dY [.con (ns.map .int),.int 18] []=.ok (.con (ds.map .int)) []:=e;generalize ns.map D.int=n0 at e' ep et;generalize ds.map D.int=d0 at e' ep et;simp [zR,e',ep,et,u6]
end
end K15
end
namespace K15
noncomputable section
open PySem PySem.Spec L2 L3
theorem walk {l:SN} {qq:ó} {loose:List Str} {XP:(Str→Option Ã)→Heap→Prop} {YP:Đ→Heap→Prop} {d:DefRec} {K:Params→Å} (hn:l.most=À 63) (hdf:d.params.defaults=[])
    (hY:∀ (w:Đ) (h:Heap),YP w h→(K w.params).In h) (hd:d.name="law")
    (F:∀ (w:Đ) (mg:Str→Option Ã) (h:Heap),(K w.params).In h→h.Ns mainGlobals mg→jR (K w.params) mg defs∧iK mg F6∧fW (K w.params) mg "COUNTS" ["0","1","2"]∧fW (K w.params) mg "GOES" ["down","deep","later"]∧fW (K w.params) mg "KEPT_WORDS" ["start","rule","row","mix","many","any","kind","not","both","either","way","mark"]∧gC (K w.params) mg "LETTERS" (.str "abcdefghijklmnopqrstuvwxyz")∧gC (K w.params) mg "LONGEST" (.int (8))∧fW (K w.params) mg "ORDERS" ["row","mix"]∧F3 (⟨l.prog,w,K w.params,mg,h⟩:jQ) "NoText"∧t9 (⟨l.prog,w,K w.params,mg,h⟩:jQ) "PathError" [("NoText",Á)]∧jx (⟨l.prog,w,K w.params,mg,h⟩:jQ) "NoName" [("NoText",Â)]∧jx (⟨l.prog,w,K w.params,mg,h⟩:jQ) "NoRow" [("NoText",Â)]∧jx (⟨l.prog,w,K w.params,mg,h⟩:jQ) "NoRule" [("NoText",Â)]∧jx (⟨l.prog,w,K w.params,mg,h⟩:jQ) "NoShape" [("NoText",Â)]∧jx (⟨l.prog,w,K w.params,mg,h⟩:jQ) "NoSort" [("NoText",Â)]∧jx (⟨l.prog,w,K w.params,mg,h⟩:jQ) "NoText" [("NoText",Á)]∧jx (⟨l.prog,w,K w.params,mg,h⟩:jQ) "TooGreat" [("NoText",Â)]∧jx (⟨l.prog,w,K w.params,mg,h⟩:jQ) "Twice" [("NoText",Â)]∧GP (⟨l.prog,w,K w.params,mg,h⟩:jQ) "ValueError" [("NoText",Á)]) :
    R4 qq loose XP YP l.row.toRowW d [] (λf vs=>SS f vs):=
  zO (n:=63) (k:=9) (x:="_law_script") (CX:=λw=>tR l.prog w) hn (by decide) hdf ⟨rfl,by decide,by decide⟩ hY (λw mg fa h KX G hm=>by obtain ⟨Td,Tn,k0,k1,k2,k3,k4,k5,k6,k7,k8,k9,Qd,Qe,Qf,Qg,Qh,Qi,Qj⟩:=F w mg h KX G;obtain ⟨f,fd,Fu,hm1⟩:=Td.at 28 rfl;rw [hd,hm1] at hm;cases hm;exact ⟨fd,_,wB Fu (by intro _ _ _ _ _ _;exact B3 λ_=>rfl),λbase=>F7 (g:=⟨l.prog,w,K w.params,mg,base⟩) ⟨Td,Tn,k0,k1,k2,k3,k4,k5,k6,k7,k8,k9,Qd,Qe,Qf,Qg,Qh,Qi,Qj⟩ Fu,λH a ns hl hO hS=>F5 Ax hl hO hS⟩) λ_ _ _ _ _ zz=>by obtain ⟨_,_,_,_,_,_,_,_,_,z⟩:=zz;exact z
end
end K15
def PySem.W.Fast.tw1766563734863016720:=0
def PySem.W.Fast.tw14022263956544519057:=0
def PySem.W.Fast.tw6469990295772315905:=0
def PySem.W.Fast.tw6796286247994403264:=0
def PySem.W.Fast.tw14781916986897106070:=0
def PySem.W.Fast.tw8307465972662175476:=0
def PySem.W.Fast.tw4488816192066387818:=0
def PySem.W.Fast.tw1173594453477001139:=0
def PySem.W.Fast.tw9926219514069241323:=0
open PySem PySem.W PyProof.Rows
set_option maxRecDepth 100000 in
set_option maxHeartbeats 0 in
theorem PySem.Challenge.cw_pathshape_k15_bad_words_holds : PySem.Challenge.rw_pathshape_k15_bad_words.Holds := by
  w_on;o_law;z_head;(case hw=>w_witness2)
  k_fill
  refine L3.zK (λP=>rfl) (K15.walk (l:=PySem.Challenge.rw_pathshape_k15_bad_words) rfl rfl (λ_ _ Y=>Y) rfl ?F)
  case F=>
    intro w mg h KX G
    refine ⟨?_,?_,?_,?_,?_,?_,?_,?_,?_,?_,?_,?_,?_,?_,?_,?_,?_,?_,?_⟩
    · delta K15.defs
      repeat (refine' L3.jR.zI KX G ?_ ?_ ?_ ?_ ?_;any_goals exact rfl)
      exact trivial
    · delta K15.F6
      repeat (refine L3.iK.zI KX G ?_ ?_;exact rfl)
      exact trivial
    · refine' L3.fW.Kv KX G ?_ ?_ ?_ ?_;any_goals exact rfl
    · refine' L3.fW.Kv KX G ?_ ?_ ?_ ?_;any_goals exact rfl
    · refine' L3.fW.Kv KX G ?_ ?_ ?_ ?_;any_goals exact rfl
    · refine' L3.gC.Mm KX G ?_;any_goals exact rfl
    · refine' L3.gC.Mn KX G ?_;any_goals exact rfl
    · refine' L3.fW.Kv KX G ?_ ?_ ?_ ?_;any_goals exact rfl
    · refine' ⟨_,PySem.W.mg_of KX G (L3.bG ?_),?_⟩;any_goals exact rfl
      kernel_rfl
    · refine' L3.t9.one (PySem.W.mg_of KX G (L3.bG ?_)) (PySem.W.mg_of KX G (L3.bG ?_)) ?_;any_goals exact rfl
    · refine' L3.jx.one (PySem.W.mg_of KX G (L3.bG ?_)) (PySem.W.mg_of KX G (L3.bG ?_)) ⟨?_,?_,?_,?_,?_,?_,?_,?_⟩ ?_;any_goals exact rfl
    · refine' L3.jx.one (PySem.W.mg_of KX G (L3.bG ?_)) (PySem.W.mg_of KX G (L3.bG ?_)) ⟨?_,?_,?_,?_,?_,?_,?_,?_⟩ ?_;any_goals exact rfl
    · refine' L3.jx.one (PySem.W.mg_of KX G (L3.bG ?_)) (PySem.W.mg_of KX G (L3.bG ?_)) ⟨?_,?_,?_,?_,?_,?_,?_,?_⟩ ?_;any_goals exact rfl
    · refine' L3.jx.one (PySem.W.mg_of KX G (L3.bG ?_)) (PySem.W.mg_of KX G (L3.bG ?_)) ⟨?_,?_,?_,?_,?_,?_,?_,?_⟩ ?_;any_goals exact rfl
    · refine' L3.jx.one (PySem.W.mg_of KX G (L3.bG ?_)) (PySem.W.mg_of KX G (L3.bG ?_)) ⟨?_,?_,?_,?_,?_,?_,?_,?_⟩ ?_;any_goals exact rfl
    · refine' L3.jx.one (PySem.W.mg_of KX G (L3.bG ?_)) (PySem.W.mg_of KX G (L3.bG ?_)) ⟨?_,?_,?_,?_,?_,?_,?_,?_⟩ ?_;any_goals exact rfl
    · refine' L3.jx.one (PySem.W.mg_of KX G (L3.bG ?_)) (PySem.W.mg_of KX G (L3.bG ?_)) ⟨?_,?_,?_,?_,?_,?_,?_,?_⟩ ?_;any_goals exact rfl
    · refine' L3.jx.one (PySem.W.mg_of KX G (L3.bG ?_)) (PySem.W.mg_of KX G (L3.bG ?_)) ⟨?_,?_,?_,?_,?_,?_,?_,?_⟩ ?_;any_goals exact rfl
    · refine' L3.GP.one (PySem.W.mg_of KX G (L3.bG ?_)) ⟨?_,?_,?_,?_,?_,?_,?_,?_⟩ ?_;any_goals exact rfl
