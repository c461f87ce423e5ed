import PyProof.Rows.All
import Wide.All
import OpenK.AllK
import Wide.FinOn
import Lean
import PyProof.EqAt
import PyProof.EqKinds
import PyProof.TupleCall
import PyProof.StrWalks
import KE.KTryMore
import PyProof.ZipIter
import PyProof.Rows.Range3
import PyProof.Draws
import PyProof.WalksMore
import PyProof.ExcBaseAll.ValueError
import PyProof.StrReplace2
import PyProof.FactsAll.range_2
import KE.KRevIter
import KE.KNest
import KE.BitLaws
import PySem.Challenge.RW_pathshape_k34_looks_without_ways
set_option Elab.async false
set_option linter.all false
set_option maxRecDepth 100000
set_option maxHeartbeats 4000000
set_option compiler.extract_closed false
set_option genSizeOf false
set_option genInjectivity false
open PySem renaming wpAny_bind→Us,Value→V0,sizeLine→WO,Shared→WT,wpAny_pure→WY,wpAny→Xe,starEach→Xh,wpAny_Call_Name_kw→Xw,Program→Xx,wpAny_field→XG,wpAny_mono→XH,wpAny_newObj_type→XM,World→XR,wpAny_callSpecial?_slot→X6,mem_of_lookup→Yn,wpAny_call_entry→Yr,wpAny_seqItems→Yv,wpAny_typeNameOfWhole_keyiter→Yx,wpAny_setField_rec→YQ,wpAny_passesOwn→YV,rawInt→Y6,wpAny_getItem_str_slice→Zd,wpAny_pyIter_tuple→Zh,wpAny_truthy_bool→Zm,wpAny_setField→Zq,wpAny_pyIter_enum→ZS,wpAny_holding→Z5,wpAny_pyIter_revIter→Z6,wpAny_updateSeq_pair→Z8,wpAny_execs_nil→Z9,wpAny_load→aai,wpAny_newFunctionEnv_cells→aan,wpAny_assign_Name→aau,wpAny_pyIter_list→aav,wpAny_dictEntries→aay,wpAny_comprehension_free→aaB,wpAny_attempt→aaD,wpAny_onRaise→aaE,wpAny_execs_cons→aaF,wpAny_isInstance→aaK,wpAny_pyNext_range_end→aaT,wpAny_pyIter_rangeiter→aaU,wpAny_rule→aaY,wpAny_specialOf→aa4,wpAny_dictEpoch→aa5,wpAny_storeName_local→aa8,wpAny_isOneOf_keyiter→abb,wpAny_newFunctionEnv→abl,wpAny_letGo→abm,wpAny_newTuple→abq,Builtin→abt,wpAny_pyIter_range→abz,wpAny_Return_some→abF,wpAny_typeOf→abK,wpAny_Dict_empty→abU,wpAny_pyIter_zip→abZ,wpAny_throw→ab3,wpAny_updateSeq→ab4,wpAny_loadPart'→ab5,wpAny_Name→acd,call→ace
open PySem.Heap renaming get?_push_of_some→WQ,lt_size→W3,get?_push_size→W5,size_push→XY,get?_update_other→Yj,get?_update_self→Yp,SameBut→Y0,get?_push_ne→aax,of_hide→aaX,ExtBut→abk,FlyingW→abN
open List renaming length_cons→WR,getElem?_eq_some_iff→WS,map_cons→WU,getElem?_cons_zero→WX,getElem?_eq_getElem→W2,getElem?_cons_succ→W4,getElem?_append_left→W7,length_map→W8,length_append→W9,length_nil→Xb,nil_append→Xd,mem_map→Xf,size_toArray→Xg,replicate→Xi,mem_singleton→Xj,map_nil→Xk,mem_cons→Xl,getElem?_append_right→Xm,getElem?_map→Xn,map_map→Xo,set_cons_zero→Xp,set_cons_succ→Xq,range'→Xs,map_append→Xu,append_nil→Xv,mem_append→Xy,range→Xz,zipWith→XA,getElem?_set_ne→XC,mem_of_getElem?→XE,mem_cons_of_mem→XI,getElem?_eq_none_iff→XN,lookup_cons→XS,cons_append→XT,reverse_cons→XU,getElem?_set→XW,lookup→XZ,mem_append_right→X0,getElem_inj→Yh,append_assoc→Yk,zipWith_cons_cons→Ym,getElem_of_mem→Yo,range'_succ→Ys,mem_append_left→Yt,nodup_cons→Yz,find?_cons→YA,filterMap_cons→YC,map_congr_left→YD,ext_getElem→YJ,mem_cons_self→YK,zip_cons_cons→YN,drop_eq_getElem_cons→YT,of_mem_zip→YW,forIn_cons→YZ,nodup_append→Y7,getElem?_replicate→Zc,filter_cons_of_neg→Ze,drop_eq_nil_of_le→Zg,dropLast_concat_getLast→Zi,dropLast_eq_take→Zk,getElem?_eq_none→Zl,flatMap_cons→Zo,getElem?_mapIdx→Zs,length_take→Zt,map_reverse→Zu,length_reverse→Zy,replicate_zero→Zz,mem_mapIdx→ZE,length→ZF,filter_cons_of_pos→ZJ,length_replicate→ZT,length_singleton→ZU,getElem?_toArray→ZX,all_eq_true→ZZ,not_mem_nil→Z3,mem_filterMap→aaj,getElem?_zip_eq_some→aas,getElem?_take_of_lt→aaz,any_cons→aaA,length_drop→aaH,getElem_mem→aaL,reverse_nil→aaM,getElem?_set_self→aaR,take_of_length_le→aa0,mem_filter→aa3,length_zip→aa6,getElem?_reverse→aa9,set_append_right→aba,length_filter_le→abe,mem_range→abg,take_set_of_le→abu,reverse_append→abw,flatMap_append→abx,replicate_succ→aby,getElem_range→abA,filter_append→abD,filter_filter→abE,take_sublist→abJ,ext_getElem?→abR,mapIdx_cons→ab0,flatMap_nil→ab2,filter_map→ab8,any_append→ab9
open PySem.W renaming Frag→WV,keepIn→XX,emptyDict→Yi,tabIn→YG,tabObj→YR,instObj→YU,kia_one→YY,fnOf→Y3,CodeHd→Zf,findIn→ZK,cellsFrom_some→ZM,codeIn→aal,codeRec_of→aam,callWith_K→aaq,methodObj→aat,lookIn→abh,noTabs→abr,specialIn→abG,kitx_list→abM,nsIn→abS,OpenLaw→ab7
open PySem.PyData renaming strOk→WW,eqv→X4,depth→Ye,canLayAll0→Yl,canLay0→Yw,depthAll→YX,eqvAll→Zj,str→Z0
open Nat renaming le_refl→WZ,lt_of_lt_of_le→W0,ne_of_lt→Xa,succ_pos→XO,zero_le→XQ,le_trans→X5,lt_irrefl→X7,lt_succ_self→YI,zero_add→aag,one_le_two_pow→aar,lt_succ_of_lt→aaw,testBit_zero→aaN,testBit_succ→aaO,le_of_lt→aaQ,ne_of_gt→aaS,sub_self→aa1,pow_succ→aa2,testBit_and→aa7,le_succ→abn,le_of_not_lt→abT,succ_ne_self→abV,succ_le_succ→abW
open Eq renaming trans→W6
open PyProof.Rows renaming callWith_type1→Xr,slot_tuple_getitem→Za,envOfC→Zb,AllBare→Zr,callWith_builtin1→ZY,bitXor_and→aaP
open Bool renaming false_ne_true→XF,and_eq_true→X8,or_eq_true→aaa,true_or→abL
open Option.some renaming inj→XJ
open False renaming elim→X3
open PySem.Builtin.SmallTypes renaming nextOf→Yb,ownedTupleIsFree→ZC
open PySem.Builtin renaming bitXor→Yc,bitAnd→Yu,bitOr→YF
open PySem.Builtin.Tuple renaming tupleExact→Yd
open PySem.F renaming slot_dict_keyiterator_next→Yg,slot_tuple_iterator_next→YO,args_tuple_add_2→ZA,entry_tuple_add→ZG,slot_tuple_add→ZN,slot_dict_get→ZV,args_dict_keyiterator_next_1→Z1,entry_dict_keyiterator_next→Z7,args_tuple_iterator_next_1→aab,slot_zip_next→aac,entry_tuple_iterator_next→aaf,args_dict_get_3→aaI,plainAttrs_list→aaJ,entry_dict_get→aaW,args_object_init_2→abp,slot_list_extend→abB,plain_list_iadd→abO,args_zip_next_1→abQ,slot_dict_iter→abX,entry_zip_next→abY
open PySem.Calls renaming spliced_cons→Yq,spliced_nil→ZL,callWith_builtin→ZO,Name_function_global→aah,evalArgs_plain→abj
open PySem.Builtin.Range renaming rangeSize→Yy,small→abv
open PySem.Builtin.Dict_items renaming ownsTuple→YB
open Ne renaming symm→YE
open PySem.Obj renaming mapFields→YH,data_mapFields→YM,isFreed_of_fields→ZW,mapSeq→aap,cls_mapFields→abP
open Array renaming getElem?_eq_some_iff→YL,getElem?_eq_getElem→Zw,getElem?_eq_none→ZP,length_toList→aad
open PySem.Builtin.Slice renaming slicePlaces→YS,sliceAdjust→Zv,sliceApplied→aao
open Int renaming toNat_natCast→Y4,fdiv_eq_ediv_of_nonneg→aak,zero_add→aaZ,natCast_zero→ab1,ediv_nonneg→ab6
open PySem.Str renaming ofString→Y5
open PySem.Builtin.List renaming listTooLong→Y8,listExtendWith→Zn,listLengthHint→aae,listSameRef→aaC
open PySem.AutoSeq1 renaming wpAny_loadPart'→Y9
open True renaming intro→Zp
open PySem.Heap.SameBut renaming update→Zx
open Function renaming comp→ZD
open PySem.Txt renaming slice→ZH
open Classical renaming propDecidable→ZI,choose_spec→abd
open PySem.PassesOwn renaming leaving→ZQ
open PyProof.Rows.IsTup renaming new→ZR,new→acf
open PySem.Paired renaming length→Z4
open PySem.Builtin.Str renaming occurrences→aaG
open PyProof renaming noPylong_small→aaV
open PySem.Builtin.Dict renaming showsAll→abc
open Sum.inl renaming inj→abf
open PySem.Around renaming frames_deeper→abi,under_plainId→abo,under→abH
open PySem.ScopeKind renaming function→abC
open PySem.Code renaming isFrame→abI
open Or renaming inr→acg
local macro_rules
 | `(tactic| nofun)=>`(tactic| first | decide | lia | omega)
local macro_rules
 | `(tactic| symm)=>`(tactic| decide +kernel)
namespace L2
open PySem PySem.Spec PyProof.Rows
variable {pins gx:List (Addr×Obj)} {K:WV} {s s':WT} {A:Around} {P:Xx} {mg mA:Str→Option V0} {u:V0} {x:Str} {w:XR} {us its:List V0} {h base:Heap} {b a C it dx:Addr} {f:V0→V0→Sem V0} {t' i n tk j:Nat} {Q E:V0→WT→Prop} {fp ch:List Addr} {kw:List (Str×V0)} {ps N:List Str} {fd:FuncData} {g:Int→Int→Int} {body:List Stmt} {tg e c iter:Expr} {outer:List Env} {es:List Expr} {op:CmpOp} {g':Array GenState} {vs:Array V0} {p:Addr×Obj} {sc:Scope} {β α:Type} {k':Bool} {pos' pos:Pos} {lo hi:Int}
noncomputable abbrev Key:=Sum Int Str
noncomputable def qV:Key→V0→Bool
  | .inl k,v=>Value.isInt k v
  | .inr x,v=>Value.isStrOf x v
noncomputable def O8 (w:XR):Key→Int
  | .inl k=>hashInt k
  | .inr x=>hashStr w x
theorem cQ:∀ {k:Key} {v:V0},qV k v=true→(∃ i t,k=Sum.inl i∧v=Value.int i t)∨(∃ x t,k=Sum.inr x∧v=Value.str x t)
  | .inl i,v,h=>by
    obtain ⟨t,e⟩:=Value.isInt_shape (k:=i) (v:=v) h
    exact .inl ⟨i,t,rfl,e⟩
  | .inr x,v,h=>by
    obtain ⟨t,e⟩:=Value.isStrOf_shape (x:=x) (v:=v) h
    exact .inr ⟨x,t,rfl,e⟩
theorem zK (i:Int) (t:Tok):qV (.inl i) (.int i t)=true:=by simp [qV,Value.isInt]
theorem zL (x:Str) (t:Tok):qV (.inr x) (.str x t)=true:=by simp [qV,Value.isStrOf]
theorem IC (a b:Int):decide ((Sum.inl a:Key)=Sum.inl b)=(a==b):=by
  by_cases e:a=b
  · subst e;simp
  · have h:¬ (Sum.inl a:Key)=Sum.inl b:=λq=>e (abf q)
    rw [decide_eq_false h]
    exact (beq_eq_false_iff_ne.mpr e).symm
theorem ID (a b:Str):decide ((Sum.inr a:Key)=Sum.inr b)=decide (a=b):=by
  by_cases e:a=b
  · subst e;simp
  · have h:¬ (Sum.inr a:Key)=Sum.inr b:=λq=>e (Sum.inr.inj q)
    rw [decide_eq_false h,decide_eq_false e]
theorem IE (a:Int) (b:Str):decide ((Sum.inl a:Key)=Sum.inr b)=false:=decide_eq_false (λq=>nomatch q)
theorem IF (a:Str) (b:Int):decide ((Sum.inr a:Key)=Sum.inl b)=false:=decide_eq_false (λq=>nomatch q)
noncomputable def cM (prog:Xx) (w:XR):PySem.KeyKind prog w Key where
  is:=qV
  hash:=O8 w
  inj:=λv a b ha hb=>by
    rcases cQ ha with ⟨i,t,rfl,rfl⟩ | ⟨x,t,rfl,rfl⟩
    · rcases cQ hb with ⟨j,u,rfl,e⟩ | ⟨y,u,rfl,e⟩
      · injection e with e1 _;rw [e1]
      · exact nomatch e
    · rcases cQ hb with ⟨j,u,rfl,e⟩ | ⟨y,u,rfl,e⟩
      · exact nomatch e
      · injection e with e1 _;rw [e1]
  byValue:=λk v h=>by
    rcases cQ h with ⟨i,t,rfl,rfl⟩ | ⟨x,t,rfl,rfl⟩<;>rfl
  pyHash:=λhv h=>by
    rcases cQ hv with ⟨i,t,rfl,rfl⟩ | ⟨x,t,rfl,rfl⟩
    · exact wpAny_pyHash_int h
    · exact wpAny_pyHash_str h
  eqBool:=λhu hv h=>by
    rcases cQ hu with ⟨i,t,rfl,rfl⟩ | ⟨x,t,rfl,rfl⟩
    · rcases cQ hv with ⟨j,u,rfl,rfl⟩ | ⟨y,u,rfl,rfl⟩
      · rw [IC] at h;exact wpAny_eqBool_int h
      · rw [IE] at h;exact SeqAt.EqAt.int_str i t y u _ _ _ _ h
    · rcases cQ hv with ⟨j,u,rfl,rfl⟩ | ⟨y,u,rfl,rfl⟩
      · rw [IF] at h;exact SeqAt.EqAt.str_int x t j u _ _ _ _ h
      · rw [ID] at h;exact wpAny_eqBool_str h
  «strs»:=λk x t v h=>by
    rcases cQ h with ⟨i,u,rfl,e⟩ | ⟨y,u,rfl,e⟩
    · exact nomatch e
    · injection e with e1 _
      subst e1
      cases v<;>rfl
theorem uG (prog:Xx) (w:XR) (i:Int) (t:Tok):(cM prog w).is (.inl i) (.int i t)=true:=zK i t
theorem uH (prog:Xx) (w:XR) (x:Str) (t:Tok):(cM prog w).is (.inr x) (.str x t)=true:=zL x t
inductive V where
  | eO | bl (b:Bool) | int (i:Int) | str (x:Str) | L4 (b:Array UInt8) | L5 (b:UInt64) | ref (a:Addr) | ty (n:String)
  deriving DecidableEq
variable {v y:V} {xs:List V}
noncomputable def RelV:V→V0→Prop
  | .eO,u=>u=Value.none
  | .bl b,u=>u=Value.bool b
  | .int i,u=>∃ t,u=Value.int i t
  | .str x,u=>∃ t,u=Value.str x t
  | .L4 b,u=>∃ t,u=Value.bytes b t
  | .L5 b,u=>∃ t,u=Value.float b t
  | .ref a,u=>u=Value.ref a
  | .ty n,u=>u=Value.type n
noncomputable abbrev Vals:List V→List V0→Prop:=Paired RelV
theorem Vals.length (r:Vals xs us):xs.length=us.length:=Z4 r
theorem Vals.get:∀ {xs:List V} {us:List V0} {i:Nat} {x:V},Vals xs us→xs[i]?=some x→∃ u,us[i]?=some u∧RelV x u
  | _,_,_,_,.nil,e=>by simp at e
  | _,_,0,_,.cons r _,e=>by simp at e;subst e;exact ⟨_,rfl,r⟩
  | _,_,i+1,x,.cons _ t,e=>by
    obtain ⟨u,h1,h2⟩:=Vals.get (i:=i) (x:=x) t (by simpa using e)
    exact ⟨u,by simpa using h1,h2⟩
theorem Vals.append:∀ {xs ys:List V} {us ws:List V0},Vals xs us→Vals ys ws→Vals (xs++ys) (us++ws)
  | _,_,_,_,.nil,s=>s
  | _,_,_,_,.cons r t,s=>.cons r (Vals.append t s)
theorem Vals.take:∀ {xs:List V} {us:List V0} (n:Nat),Vals xs us→Vals (xs.take n) (us.take n)
  | _,_,0,_=>.nil
  | _,_,_+1,.nil=>.nil
  | _,_,n+1,.cons r t=>.cons r (Vals.take n t)
theorem Vals.drop:∀ {xs:List V} {us:List V0} (n:Nat),Vals xs us→Vals (xs.drop n) (us.drop n)
  | _,_,0,r=>r
  | _,_,_+1,.nil=>.nil
  | _,_,n+1,.cons _ t=>Vals.drop n t
noncomputable def nF:Option V→Option V0→Prop
  | some v,some u=>RelV v u
  | none,none=>True
  | _,_=>False
noncomputable def KV {κ:Type}:List (κ×V)→List (κ×V0)→Prop:=Paired λ(p:κ×V) (q:κ×V0)=>p.1=q.1∧RelV p.2 q.2
noncomputable def kV:Key→V
  | .inl i=>.int i
  | .inr x=>.str x
inductive HO where
  | lst (xs:List V)
  | tup (xs:List V)
  | dK (kvs:List (Key×V)) | dT (kvs:List (List Key×V))
  | set (S:Int→Bool) (n:Nat)
  | ins (C dx:Addr) (fs:List (Str×V))
  | own (x:Addr)
  | xd (fs:List (Str×V))
  | met (f x:Addr)
  | zM (lo hi:Int)
  | cV (o:Obj) (u:HO)
  | k9 (ps:Array V0)
  | ext (φ:Heap→Prop)
variable {o:HO}
noncomputable abbrev Hp:=Addr→Option HO
variable {H:Hp}
noncomputable def upd (H:Hp) (a:Addr) (o:HO):Hp:=λb=>if b=a then some o else H b
theorem aM:upd H a o a=some o:=by unfold upd;rw [if_pos rfl]
theorem az (h:b≠a):upd H a o b=H b:=by unfold upd;rw [if_neg h]
theorem dH {u:HO} (h:H a=some o) (h':H b=some u) (d:o≠u):a≠b:=by
  intro e;subst e;rw [h] at h';exact d (XJ h')
theorem cy (h:H a=some o) (h':H b=none):a≠b:=by
  intro e;subst e;rw [h] at h';cases h'
section
variable (P:Xx) (w:XR)
noncomputable def dD (H:Hp) (h:Heap) (a:Addr):HO→Prop
  | .lst xs=>xs.length≤WO∧∃ (its:List V0) (n:Nat),Vals xs its∧h.get? a=some {cls:=.type "list",data:=.seq its.toArray n}
  | .tup xs=>xs.length≤WO∧∃ its:List V0,Vals xs its∧IsTup h a its.toArray
  | .dK kvs=>kvs.length≤WO∧(a==sysModules)=false∧∃ vs,KV kvs vs∧h.DictOf (cM P w) a vs
  | .dT kvs=>kvs.length≤WO∧(a==sysModules)=false∧∃ xs:List (List Key×Addr×V0),
      Paired (λ(p:List Key×V) (q:List Key×Addr×V0)=>p.1=q.1∧H q.2.1=some (.tup (p.1.map kV))∧RelV p.2 q.2.2) kvs xs ∧
      ∃ o es ep,h.get? a=some o∧o.ExactDict∧o.data=.dict es ep∧es.toList=xs.map (entryOfKey (tupleKind (cM P w)))∧(xs.map (·.1)).Nodup
  | .set S n=>h.SetOf (intKind P w) a S n
  | .ins C dx fs=>H dx=some (.own a)∧fs.length≤1000∧dx≠a∧h.get? a=some (YU C dx) ∧
      ∃ mA,h.Ns1 dx mA∧(∀ f,nF (fs.lookup f) (mA f))∧PySem.Within mA (fs.map (·.1))
  | .own _=>∃ o,h.get? a=some o
  | .xd fs=>∃ mA,h.Ns1 a mA∧∀ f,nF (fs.lookup f) (mA f)
  | .zM lo hi=>∃ t u v,h.get? a=some {cls:=.type "range",data:=.fields #[.int lo t,.int hi u,.int 1 v]}
  | .cV o u=>h.get? a=some o∧dD H h a u
  | .k9 ps=>h.get? a=some {cls:=.none,data:=.fields ps}
  | .met f x=>h.get? a=some (aat (.ref f) (.ref x))
  | .ext φ=>φ h∧(∃ o,h.get? a=some o)∧∀ h1 h2:Heap,φ h1→(∀ o,h1.get? a=some o→h2.get? a=some o)→φ h2
noncomputable def iY (H:Hp) (h:Heap):Prop:=∀ a o,H a=some o→dD P w H h a o
end
section
variable {P:Xx} {w:XR} {H H':Hp} {h h':Heap} {a:Addr} {o:HO}
theorem dD.lt (x:dD P w H h a o):a<h.objs.size:=by
  cases o with
  | lst xs=>obtain ⟨_,_,_,_,e⟩:=x;exact W3 e
  | tup xs=>obtain ⟨_,_,_,p⟩:=x;exact p.lt
  | dK kvs=>obtain ⟨_,_,_,_,o,_,_,e,_⟩:=x;exact W3 e
  | dT kvs=>obtain ⟨_,_,_,_,o,_,_,e,_⟩:=x;exact W3 e
  | set S n=>obtain ⟨o,_,_,_,e,_⟩:=x;exact W3 e
  | ins C dx fs=>obtain ⟨_,_,_,e,_⟩:=x;exact W3 e
  | own y=>obtain ⟨_,e⟩:=x;exact W3 e
  | xd fs=>obtain ⟨_,⟨_,_,_,e,_⟩,_⟩:=x;exact W3 e
  | zM lo hi=>obtain ⟨_,_,_,e⟩:=x;exact W3 e
  | cV ob u=>obtain ⟨e,_⟩:=x;exact W3 e
  | k9 ps=>exact W3 (show h.get? a=some _ from x)
  | met f y=>exact W3 (show h.get? a=some _ from x)
  | ext φ=>obtain ⟨_,⟨_,e⟩,_⟩:=x;exact W3 e
theorem Paired.IG {F G:α→β→Prop}:∀ {l₁:List α} {l₂:List β},Paired F l₁ l₂→(∀ a b,F a b→G a b)→Paired G l₁ l₂
  | _,_,.nil,_=>.nil
  | _,_,.cons r t,f=>.cons (f _ _ r) (Paired.IG t f)
theorem dD.stay (x:dD P w H h a o) (k:∀ b u,(b=a∨H b=some (.own a))→h.get? b=some u→h'.get? b=some u)
    (ho:∀ b,H b=some (.own a)→H' b=some (.own a)) (ht:∀ b xs,H b=some (.tup xs)→H' b=some (.tup xs)):dD P w H' h' a o:=by
  induction o with
  | lst xs=>obtain ⟨z,its,n,r,e⟩:=x;exact ⟨z,its,n,r,k _ _ (.inl rfl) e⟩
  | tup xs=>obtain ⟨z,its,r,ob,e,c⟩:=x;exact ⟨z,its,r,ob,k _ _ (.inl rfl) e,c⟩
  | dK kvs=>obtain ⟨z,y,vs,r,ob,es,ep,e,c⟩:=x;exact ⟨z,y,vs,r,ob,es,ep,k _ _ (.inl rfl) e,c⟩
  | dT kvs=>
    obtain ⟨z,y,xs,r,ob,es,ep,e,c⟩:=x
    exact ⟨z,y,xs,Paired.IG r λp q z=>⟨z.1,ht _ _ z.2.1,z.2.2⟩,ob,es,ep,k _ _ (.inl rfl) e,c⟩
  | set S n=>obtain ⟨ob,es,ep,t,e,c⟩:=x;exact ⟨ob,es,ep,t,k _ _ (.inl rfl) e,c⟩
  | ins C dx fs=>
    obtain ⟨d,z,ne,e,mA,⟨od,es,ep,e2,c⟩,r⟩:=x
    exact ⟨ho _ d,z,ne,k _ _ (.inl rfl) e,mA,⟨od,es,ep,k _ _ (.inr d) e2,c⟩,r⟩
  | own y=>obtain ⟨ob,e⟩:=x;exact ⟨ob,k _ _ (.inl rfl) e⟩
  | xd fs=>obtain ⟨mA,⟨od,es,ep,e,c⟩,r⟩:=x;exact ⟨mA,⟨od,es,ep,k _ _ (.inl rfl) e,c⟩,r⟩
  | zM lo hi=>obtain ⟨t,u,v,e⟩:=x;exact ⟨t,u,v,k _ _ (.inl rfl) e⟩
  | cV ob u ih=>obtain ⟨e,q⟩:=x;exact ⟨k _ _ (.inl rfl) e,ih q⟩
  | k9 ps=>
    have e:h.get? a=some {cls:=.none,data:=.fields ps}:=x
    show h'.get? a=some {cls:=.none,data:=.fields ps}
    exact k a _ (.inl rfl) e
  | met f y=>
    have e:h.get? a=some (aat (.ref f) (.ref y)):=x
    show h'.get? a=some (aat (.ref f) (.ref y))
    exact k a _ (.inl rfl) e
  | ext φ=>obtain ⟨p,⟨o,e⟩,st⟩:=x;exact ⟨st _ _ p λo q=>k _ _ (.inl rfl) q,⟨o,k _ _ (.inl rfl) e⟩,st⟩
theorem iY.lt (x:iY P w H h) (e:H a=some o):a<h.objs.size:=(x a o e).lt
theorem iY.fresh (x:iY P w H h) (e:h.objs.size≤a):H a=none:=by
  cases q:H a with
  | none=>rfl
  | some u=>exact absurd (W0 (x.lt q) e) (X7 _)
theorem iY.kept (x:iY P w H h) (k:∀ b u,h.get? b=some u→h'.get? b=some u):iY P w H h':=λa o e=>
  (x a o e).stay (λb u _ q=>k b u q) (λ_ q=>q) λ_ _ q=>q
theorem iY.laid (x:iY P w H h) (k:∀ b u,h.get? b=some u→h'.get? b=some u) (hp:h.objs.size≤a) (new:dD P w (upd H a o) h' a o):iY P w (upd H a o) h':=λb u e=>by
  have hn:=x.fresh hp
  by_cases hb:b=a
  · subst hb;rw [aM] at e;cases e;exact new
  · rw [az hb] at e
    exact (x b u e).stay (λc v _ q=>k c v q) (λc q=>by rw [az (cy q hn)];exact q) λc xs q=>by rw [az (cy q hn)];exact q
end
noncomputable def Rd (H:Hp) (a:Addr) (u:HO):Prop:=H a=some u∨∃ o,H a=some (.cV o u)
theorem Rd.of {u:HO} (h:H a=some u):Rd H a u:=.inl h
theorem Rd.ok {u:HO} (r:Rd H a u) (x:iY P w H h):dD P w H h a u:=by
  rcases r with r | ⟨o,r⟩
  · exact x a u r
  · obtain ⟨_,q⟩:=x a _ r
    exact q
noncomputable def L6:Option HO→Prop
  | some (.lst _)=>True
  | some (.dK _)=>True
  | some (.dT _)=>True
  | some (.set _ _)=>True
  | some (.ins _ _ _)=>True
  | some (.ext _)=>True
  | _=>False
section
variable {P:Xx} {w:XR} {H:Hp} {h h':Heap} {x e:Addr} {o':HO}
theorem iY.write (ok:iY P w H h) (mu:L6 (H x)) (he:e=x∨H e=some (.own x)) (k:∀ b u,b≠e→h.get? b=some u→h'.get? b=some u) (LK:∃ u,h'.get? e=some u)
    (new:dD P w (upd H x o') h' x o'):iY P w (upd H x o') h':=λb u q=>by
  have L7:∀ c y,H c=some (.own y)→c≠x:=λc y r z=>by subst z;rw [r] at mu;exact mu
  have O9:∀ c xs,H c=some (.tup xs)→c≠x:=λc xs r z=>by subst z;rw [r] at mu;exact mu
  by_cases hb:b=x
  · subst hb;rw [aM] at q;cases q;exact new
  · rw [az hb] at q
    by_cases El:b=e
    · have q':H b=some (.own x):=by
        rcases he with z | z
        · exact absurd (El.trans z) hb
        · rw [El];exact z
      rw [q] at q';cases q'
      obtain ⟨v,hv⟩:=LK
      exact ⟨v,by rw [El];exact hv⟩
    · refine (ok b u q).stay (λc v hc r=>k c v ?_ r) (λc r=>by rw [az (L7 c b r)];exact r) λc xs r=>by rw [az (O9 c xs r)];exact r
      rcases hc with rfl | hc
      · exact El
      · rintro rfl
        rcases he with z | z
        · exact L7 c b hc z
        · rw [hc] at z;cases z;exact hb rfl
end
structure Un (fs ex:List Addr) (H H':Hp) (h h':Heap):Prop where
  keep:∀ b o,h.get? b=some o→H b=none→b∉fs→b∉ex→h'.get? b=some o
  slot:∀ b o,h.get? b=some o→H b=none→b∈fs→b∉ex→∃ sl,h'.get? b=some {o with slots:=sl}
  free:∀ b o,h.get? b=some o→H b=none→b∉ex→H' b=none
  there:∀ b o,h.get? b=some o→b∉ex→∃ o',h'.get? b=some o'
  tups:∀ b xs,H b=some (.tup xs)→H' b=some (.tup xs)
  jC:∀ b o u,H b=some (.cV o u)→H' b=some (.cV o u)
  ki:∀ b ps,H b=some (.k9 ps)→∃ more,H' b=some (.k9 (ps++more))
section
variable {fs fs' ex ex':List Addr} {H H1 H2:Hp} {h h1 h2 h':Heap} {a x e:Addr} {o:HO}
theorem Un.any (u:Un fs ex H H1 h h1) {b:Addr} {ob:Obj} (q:h.get? b=some ob) (n:H b=none) (hx:b∉ex):∃ sl,h1.get? b=some {ob with slots:=sl}:=by
  by_cases hb:b∈fs
  · exact u.slot b ob q n hb hx
  · exact ⟨ob.slots,u.keep b ob q n hb hx⟩
theorem Un.kept (k:∀ b u,h.get? b=some u→h'.get? b=some u):Un fs ex H H h h':=
  ⟨λb ob q _ _ _=>k b ob q,λb ob q _ _ _=>⟨ob.slots,k b ob q⟩,λ_ _ _ n _=>n,λb ob q _=>⟨ob,k b ob q⟩,λ_ _ q=>q,λ_ _ _ q=>q,λ_ ps q=>⟨#[],by rw [q];simp⟩⟩
theorem Un.refl:Un fs ex H H h h:=Un.kept λ_ _ q=>q
theorem Un.laid (k:∀ b u,h.get? b=some u→h'.get? b=some u) (hp:h.objs.size≤a) (hn:H a=none):Un fs ex H (upd H a o) h h' where
  keep:=λb u q _ _ _=>k b u q
  slot:=λb u q _ _ _=>⟨u.slots,k b u q⟩
  free:=λb u q n _=>by rw [az (Xa (W0 (W3 q) hp))];exact n
  there:=λb u q _=>⟨u,k b u q⟩
  tups:=λb xs q=>by rw [az (cy q hn)];exact q
  jC:=λb u xs q=>by rw [az (cy q hn)];exact q
  ki:=λb ps q=>⟨#[],by rw [az (cy q hn),q];simp⟩
theorem Un.write (mu:L6 (H x)) (he:e=x∨H e=some (.own x)) (k:∀ b u,b≠e→h.get? b=some u→h'.get? b=some u) (LK:∃ u,h'.get? e=some u):Un fs ex H (upd H x o) h h':=by
  have hx:∀ b,H b=none→b≠x:=λb n z=>by subst z;rw [n] at mu;exact mu
  have hb:∀ b,H b=none→b≠e:=λb n z=>by
    subst z
    rcases he with r | r
    · exact hx b n r
    · rw [n] at r;cases r
  have hm:∀ b u,H b=some u→¬ L6 (some u)→b≠x:=λb u q nm z=>by subst z;rw [q] at mu;exact nm mu
  refine ⟨λb u q n _ _=>k b u (hb b n) q,λb u q n _ _=>⟨u.slots,k b u (hb b n) q⟩,λb u q n _=>by rw [az (hx b n)];exact n,λb u q _=>?_,
    λb xs q=>by rw [az (hm b _ q λz=>z)];exact q,λb u xs q=>by rw [az (hm b _ q λz=>z)];exact q,λb ps q=>⟨#[],by rw [az (hm b _ q λz=>z),q];simp⟩⟩
  by_cases El:b=e
  · subst El;exact LK
  · exact ⟨u,k b u El q⟩
end
noncomputable def Ox (h:Heap) (H:Hp):List Addr:=(Xz h.objs.size).filter λa=>(H a).isSome
noncomputable def om (h:Heap) (H:Hp):Heap:=PySem.W.hideAll h (Ox h H)
theorem zN (h:Heap) (H:Hp):(om h H).objs.size=h.objs.size:=PySem.W.hideAll_size _ _
theorem Bw {o:Obj} (e:h.get? b=some o) (n:H b=none):(om h H).get? b=some o:=
  PySem.W.hideAll_get _ e λhm=>by
    have q:(H b).isSome=true:=(aa3.mp hm).2
    rw [n] at q;simp at q
theorem Es {o:Obj} (e:(om h H).get? b=some o):h.get? b=some o∧H b=none:=by
  have e':h.get? b=some o:=PySem.W.of_hideAll (Ox h H) e
  refine ⟨e',?_⟩
  cases q:H b with
  | none=>rfl
  | some x=>
    have hm:b∈Ox h H:=aa3.mpr ⟨abg.mpr (W3 e'),by simp [q]⟩
    have z:(om h H).get? b=none:=PySem.W.hideAll_none (Ox h H) hm
    rw [z] at e;cases e
noncomputable def Et (g h:Heap) (L:Addr):List (Addr×Obj):=(Xz h.objs.size).filterMap λa=>if a=L∨(g.get? a).isSome=true then none else (h.get? a).map λo=>(a,o)
noncomputable def rest (g h:Heap) (L d:Addr):List (Addr×Obj):=(Et g h L).filter λp=>decide (p.1≠d)
structure Mod (K:WV) (mg:Str→Option V0) (base:Heap):Prop where
  Eu:K.In base
  glob:base.Ns mainGlobals mg
  blt:∃ mb,base.Ns builtinsNs mb∧∀ x:Str,x≠"__name__"→mb x=bootBuiltins x
  nolimit:base.NoLimit
structure Cx where
  prog:Xx
  w:XR
  K:WV
  mg:Str→Option V0
  base:Heap
  A:Around
  N:List Str
  s₀:WT
  H₀:Hp
  env:Env
  outer:List Env
  stack:List Env
  ex:List Addr
  fn:Str→Bool
  calm:Bool
  pn:List (Addr×Obj)
  xe:V0→WT→Prop
variable {X:Cx}
noncomputable def frs (l:List Env):List Addr:=l.filterMap (·.frame)
noncomputable abbrev Cx.fs (X:Cx):List Addr:=frs X.outer
noncomputable def Bx (sc:Scope) (x:Str):Prop:=sc.names.lookup x=some .local∨sc.names.lookup x=some .cell∨sc.names.lookup x=some .free
noncomputable def Loc (sc:Scope) (x:Str):Prop:=sc.names.lookup x=some .local∨sc.names.lookup x=some .cell
noncomputable def Look (env:Env) (h:Heap) (m:Str→Option V0) (x:Str) (u:V0):Prop:=
  (env.kindOf x=some .local∧m x=some u)∨((env.kindOf x=some .cell∨env.kindOf x=some .free)∧∃ c,env.cells.lookup x=some c∧h.IsCell c (some u))
structure Cx.Ok (X:Cx):Prop where
  mod:Mod X.K X.mg X.base
  kind:X.env.scope.kind=.function
  glob:X.env.globals=mainGlobals
  blt:X.env.builtins=builtinsNs
  above:X.s₀.heap.objs.size≤X.env.locals
  inj:∀ x y c,X.env.cells.lookup x=some c→X.env.cells.lookup y=some c→x=y
  has:∀ x,(X.env.kindOf x=some .cell∨X.env.kindOf x=some .free)→∃ c,X.env.cells.lookup x=some c
  L8:∀ x c,X.fn x=true→X.env.cells.lookup x=some c→X.s₀.heap.objs.size≤c
  hd:X.calm=true→X.A.handled=none
  frames:X.A.frames=some X.stack
  stk:X.stack=X.outer∨(X.stack=X.env::X.outer∧X.env.frame=some X.env.locals)
  SM:∀ b∈X.ex,b≠X.env.locals∧∀ x c,X.env.cells.lookup x=some c→c≠b
  bs:∀ b o,X.base.get? b=some o→X.s₀.heap.get? b=some o∧X.H₀ b=none
  Em:X.base.objs.size≤X.s₀.heap.objs.size
  Ew:∀ b o,X.base.get? b=some o→b∉X.ex
  Ex:∀ b∈X.ex,b∉X.fs
  lg:X.s₀.heap.FunFrames X.base X.outer
  Ey:∀ b∈X.fs,X.H₀ b=none
structure Inv (X:Cx) (pins:List (Addr×Obj)) (σ:List (Option V)) (H:Hp) (s:WT):Prop where
  ok:X.Ok
  os:s.os=X.s₀.os∧0<s.toks
  bare:AllBare s.gens
  base:Un X.fs X.ex X.H₀ H X.s₀.heap s.heap
  loc:∃ m,s.heap.Ns X.env.locals m∧∀ (i:Nat) (x:Str) (v:V),X.N[i]?=some x→σ[i]?=some (some v)→Bx X.env.scope x→∃ u,RelV v u∧Look X.env s.heap m x u
  cell:∀ x c,X.env.cells.lookup x=some c→∃ v,s.heap.IsCell c v
  free:H X.env.locals=none
  jt:∀ x c,X.env.cells.lookup x=some c→H c=none∨(X.fn x=false∧∃ o u,H c=some (.cV o u))
  pin:∀ p∈X.pn++pins,s.heap.get? p.1=some p.2∧H p.1=none∧p.1≠X.env.locals∧p.1∉X.fs∧∀ v,p.2.data≠.cell v
  hok:iY X.prog X.w H s.heap
  len:σ.length=X.N.length
section
variable {X:Cx} {pins:List (Addr×Obj)} {σ:List (Option V)} {H H':Hp} {s:WT} {h':Heap}
theorem Cx.Ok.Pa (ok:X.Ok) {b:Addr} {o:Obj} (e:X.base.get? b=some o):b∉X.fs:=λhb=>by
  have:=(ok.lg.mem hb).1
  rw [e] at this;cases this
theorem Inv.bs (I:Inv X pins σ H s):∀ b o,X.base.get? b=some o→s.heap.get? b=some o∧H b=none:=λb o e=>
  ⟨I.base.keep b o (I.ok.bs b o e).1 (I.ok.bs b o e).2 (I.ok.Pa e) (I.ok.Ew b o e),I.base.free b o (I.ok.bs b o e).1 (I.ok.bs b o e).2 (I.ok.Ew b o e)⟩
theorem Inv.bk (I:Inv X pins σ H s):∀ b o,X.base.get? b=some o→s.heap.get? b=some o:=λb o e=>(I.bs b o e).1
theorem Inv.mod (I:Inv X pins σ H s):Mod X.K X.mg X.base:=I.ok.mod
theorem Inv.xo (I:Inv X pins σ H s):X.K.In s.heap:=I.ok.mod.Eu.keeps I.bk
theorem Inv.nolimit (I:Inv X pins σ H s):s.heap.NoLimit:=I.ok.mod.nolimit.keeps I.bk
theorem Inv.fr (I:Inv X pins σ H s):∃ m,Fr X.base X.env.locals s.heap m:=
  let ⟨m,hn,_⟩:=I.loc
  ⟨m,hn,I.bk,X5 I.ok.Em I.ok.above⟩
theorem Inv.lt (I:Inv X pins σ H s):X.env.locals<s.heap.objs.size:=let ⟨_,hn,_⟩:=I.loc;hn.lt
theorem Inv.sz (I:Inv X pins σ H s):X.s₀.heap.objs.size≤s.heap.objs.size:=X5 I.ok.above (aaQ I.lt)
theorem Inv.Pb (I:Inv X pins σ H s) {a:Addr} (h:s.heap.objs.size≤a):a∉X.fs:=λhb=>by
  obtain ⟨_,o,ho,_⟩:=I.ok.lg.mem hb
  exact absurd (W0 (W3 ho) (X5 I.sz h)) (X7 _)
theorem Inv.By (I:Inv X pins σ H s):∀ x c,X.env.cells.lookup x=some c→c≠X.env.locals:=λx c e z=>by
  obtain ⟨v,o,ho,hd⟩:=I.cell x c e
  obtain ⟨m,⟨o',es,ep,ho',hd',_⟩,_⟩:=I.loc
  rw [z,ho'] at ho;cases ho;rw [hd'] at hd;cases hd
theorem Inv.lg (I:Inv X pins σ H s):s.heap.FunFrames X.base X.outer:=by
  have all:∀ (l:List Env),(∀ b∈frs l,b∈X.fs)→X.s₀.heap.FunFrames X.base l→s.heap.FunFrames X.base l:=by
    intro l
    induction l with
    | nil=>intro _ _;trivial
    | cons env r ih=>
      intro hs hl
      obtain ⟨hk,⟨L,o,hf,hn,ho,hd⟩,hr⟩:=hl
      have hL:L∈X.fs:=hs L (by unfold frs;rw [YC,hf];exact YK)
      obtain ⟨sl,e⟩:=I.base.slot L o ho (I.ok.Ey L hL) hL λz=>I.ok.Ex L z hL
      exact ⟨hk,⟨L,_,hf,hn,e,hd⟩,ih (λb hb=>hs b (by unfold frs;rw [YC,hf];exact XI _ hb)) hr⟩
  exact all X.outer (λ_ hb=>hb) I.ok.lg
theorem Inv.stack (I:Inv X pins σ H s):s.heap.FunFrames X.base X.stack:=by
  rcases I.ok.stk with e | ⟨e,hf⟩
  · rw [e];exact I.lg
  · rw [e]
    obtain ⟨m,hn,_⟩:=I.loc
    refine .cons (by rw [I.ok.kind];decide) hf hn ?_ I.lg
    exact Heap.get?_none_of_le (X5 I.ok.Em I.ok.above)
theorem Inv.kJ (I:Inv X pins σ H s):∀ b∈frs X.stack,b∈X.env.locals::X.fs:=λb hb=>by
  rcases I.ok.stk with e | ⟨e,hf⟩
  · rw [e] at hb;exact XI _ hb
  · rw [e] at hb
    unfold frs at hb
    rw [YC,hf] at hb
    exact hb
theorem Inv.nM (I:Inv X pins σ H s):∀ b∈frs X.stack,H b=none:=λb hb=>by
  rcases Xl.mp (I.kJ b hb) with e | hb
  · rw [e];exact I.free
  · obtain ⟨_,o,ho,_⟩:=I.ok.lg.mem hb
    exact I.base.free b o ho (I.ok.Ey b hb) λz=>I.ok.Ex b z hb
theorem Inv.step {g':Array GenState} {t':Nat} {d':Drawn} (I:Inv X pins σ H s)
    (hch:∀ b∈ch,(b∈X.ex∨X.s₀.heap.objs.size≤b)∧b≠X.env.locals∧(∀ x c,X.env.cells.lookup x=some c→c≠b)∧∀ p∈X.pn++pins,p.1≠b)
    (keep:∀ b o,b≠X.env.locals→b∉X.fs→b∉ch→s.heap.get? b=some o→H b=none→h'.get? b=some o)
    (slot:∀ b o,b≠X.env.locals→b∈X.fs→b∉ch→s.heap.get? b=some o→H b=none→∃ sl,h'.get? b=some {o with slots:=sl}) (free:∀ b o,b∉ch→s.heap.get? b=some o→H b=none→H' b=none)
    (there:∀ b o,b∉ch→s.heap.get? b=some o→∃ o',h'.get? b=some o')
    (tups:∀ b xs,H b=some (.tup xs)→H' b=some (.tup xs)) (jC:∀ b o u,H b=some (.cV o u)→H' b=some (.cV o u)) (ki:∀ b ps,H b=some (.k9 ps)→∃ more,H' b=some (.k9 (ps++more)))
    (ns:∀ m,s.heap.Ns X.env.locals m→h'.Ns X.env.locals m) (hok:iY X.prog X.w H' h') (hg:AllBare g') (ht:0<t':=by first | exact XO _ | exact (Inv.os (by assumption)).2 | assumption | nofun) :
    Inv X pins σ H' {s with heap:=h',gens:=g',drawn:=d',toks:=t'}:=by
  have BA:∀ b o,X.s₀.heap.get? b=some o→b≠X.env.locals:=λb o e=>Xa (W0 (W3 e) I.ok.above)
  have HM:∀ b o,X.s₀.heap.get? b=some o→b∉X.ex→b∉ch:=λb o e hx hb=>by
    rcases (hch b hb).1 with z | z
    · exact hx z
    · exact absurd (W0 (W3 e) z) (X7 _)
  have cellK:∀ x c,X.env.cells.lookup x=some c→∀ v,s.heap.IsCell c v→h'.IsCell c v:=λx c e v zz=>by
    obtain ⟨o,ho,hd⟩:=zz
    have Ma:c∉ch:=λz=>(hch c z).2.2.1 x c e rfl
    rcases I.jt x c e with hfr | ⟨_,fo,fu,hfr⟩
    · by_cases hc:c∈X.fs
      · obtain ⟨sl,q⟩:=slot c o (I.By x c e) hc Ma ho hfr
        exact ⟨_,q,hd⟩
      · exact ⟨o,keep c o (I.By x c e) hc Ma ho hfr,hd⟩
    · have q1:=(I.hok c _ hfr).1
      have q2:=(hok c _ (jC c fo fu hfr)).1
      rw [ho] at q1
      cases q1
      exact ⟨o,q2,hd⟩
  refine ⟨I.ok,⟨I.os.1,ht⟩,hg,⟨λb o e n hb hx=>?_,λb o e n hb hx=>?_,λb o e n hx=>?_,λb o e hx=>?_,λb xs e=>tups b xs (I.base.tups b xs e),λb o xs e=>jC b o xs (I.base.jC b o xs e),λb ps e=>?_⟩,?_,λx c e=>?_,?_,λx c e=>?_,λp hp=>?_,hok,I.len⟩
  · exact keep b o (BA b o e) hb (HM b o e hx) (I.base.keep b o e n hb hx) (I.base.free b o e n hx)
  · obtain ⟨sl,e1⟩:=I.base.slot b o e n hb hx
    obtain ⟨Mb,e2⟩:=slot b _ (BA b o e) hb (HM b o e hx) e1 (I.base.free b o e n hx)
    exact ⟨Mb,e2⟩
  · obtain ⟨o',e1⟩:=I.base.there b o e hx
    exact free b o' (HM b o e hx) e1 (I.base.free b o e n hx)
  · obtain ⟨o',e1⟩:=I.base.there b o e hx
    exact there b o' (HM b o e hx) e1
  · obtain ⟨m1,e1⟩:=I.base.ki b ps e
    obtain ⟨m2,e2⟩:=ki b _ e1
    exact ⟨m1++m2,by rw [e2,Array.append_assoc]⟩
  · obtain ⟨m,hn,hl⟩:=I.loc
    refine ⟨m,ns m hn,λi x v e1 e2 e3=>?_⟩
    obtain ⟨u,r,l⟩:=hl i x v e1 e2 e3
    refine ⟨u,r,?_⟩
    rcases l with l | ⟨k,c,e,z⟩
    · exact .inl l
    · exact .inr ⟨k,c,e,cellK x c e _ z⟩
  · obtain ⟨v,z⟩:=I.cell x c e
    exact ⟨v,cellK x c e v z⟩
  · obtain ⟨m,⟨o,_,_,ho,_⟩,_⟩:=I.loc
    exact free _ o (λz=>(hch _ z).2.1 rfl) ho I.free
  · obtain ⟨v,o,ho,hd⟩:=I.cell x c e
    rcases I.jt x c e with hfr | ⟨hx,fo,fu,hfr⟩
    · exact .inl (free c o (λz=>(hch c z).2.2.1 x c e rfl) ho hfr)
    · exact .inr ⟨hx,fo,fu,jC c fo fu hfr⟩
  · obtain ⟨e,n,ne,nf,d⟩:=I.pin p hp
    have Ma:p.1∉ch:=λz=>(hch p.1 z).2.2.2 p hp rfl
    exact ⟨keep p.1 p.2 ne nf Ma e n,free p.1 p.2 Ma e n,ne,nf,d⟩
theorem Inv.un (I:Inv X pins σ H s) (u:Un X.fs [] H H' s.heap h') (hok:iY X.prog X.w H' h') (ht:0<t':=by first | exact XO _ | exact (Inv.os (by assumption)).2 | assumption | nofun):Inv X pins σ H' {s with heap:=h',toks:=t'}:=by
  obtain ⟨m,⟨o,es,ep,ho,r⟩,_⟩:=id I.loc
  obtain ⟨sl,hL⟩:=u.any ho I.free (by simp)
  exact I.step (g':=s.gens) (d':=s.drawn) (ch:=[]) (λ_ z=>nomatch z) (λb o _ hb _ e n=>u.keep b o e n hb (by simp)) (λb o _ hb _ e n=>u.slot b o e n hb (by simp)) (λb o _ e n=>u.free b o e n (by simp)) (λb o _ e=>u.there b o e (by simp)) u.tups u.jC u.ki (λm' hm=>by
    obtain ⟨o',es',uI,ho',r'⟩:=hm
    rw [ho] at ho';cases ho'
    exact ⟨_,es',uI,hL,r'⟩) hok I.bare
theorem Inv.call {d':Drawn} (I:Inv X pins σ H s) (u:Un (frs X.stack) ch H H' s.heap h') (hok:iY X.prog X.w H' h') (hg:AllBare g')
    (hch:∀ b∈ch,(b∈X.ex∨X.s₀.heap.objs.size≤b)∧b≠X.env.locals∧(∀ x c,X.env.cells.lookup x=some c→c≠b)∧∀ p∈X.pn++pins,p.1≠b) (ht:0<t':=by first | exact XO _ | exact (Inv.os (by assumption)).2 | assumption | nofun) :
    Inv X pins σ H' {s with heap:=h',gens:=g',drawn:=d',toks:=t'}:=by
  obtain ⟨m,⟨o,es,ep,ho,r⟩,_⟩:=id I.loc
  obtain ⟨sl,hL⟩:=u.any ho I.free λz=>(hch _ z).2.1 rfl
  exact I.step (ch:=ch) hch (λb o hL hb hc e n=>u.keep b o e n (λz=>(Xl.mp (I.kJ b z)).elim hL hb) hc) (λb o _ _ hc e n=>u.any e n hc) (λb o hc e n=>u.free b o e n hc) (λb o hc e=>u.there b o e hc) u.tups u.jC u.ki (λm' hm=>by
    obtain ⟨o',es',uI,ho',r'⟩:=hm
    rw [ho] at ho';cases ho'
    exact ⟨_,es',uI,hL,r'⟩) hok hg
theorem Inv.turned (I:Inv X pins σ H s) (k:∀ b o,b≠it→s.heap.get? b=some o→h'.get? b=some o) (hn:H it=none) (hL:it≠X.env.locals)
    (h1:it∈X.ex∨X.s₀.heap.objs.size≤it) (h2:∀ x c,X.env.cells.lookup x=some c→c≠it) (h3:∀ p∈X.pn++pins,p.1≠it) (ht:0<t':=by first | exact XO _ | exact (Inv.os (by assumption)).2 | assumption | nofun):Inv X pins σ H {s with heap:=h',toks:=t'}:=by
  have Mc:∀ b u,H b=some u→b≠it:=λb u e z=>by rw [z,hn] at e;cases e
  refine I.step (g':=s.gens) (d':=s.drawn) (ch:=[it]) (λb hb=>?_) (λb o _ _ hc e _=>k b o (λz=>hc (by simp [z])) e) (λb o _ _ hc e _=>⟨o.slots,k b o (λz=>hc (by simp [z])) e⟩) (λ_ _ _ _ n=>n)
    (λb o hc e=>⟨o,k b o (λz=>hc (by simp [z])) e⟩) (λ_ _ e=>e) (λ_ _ _ e=>e) (λb ps e=>⟨#[],by rw [e];simp⟩) (λm hm=>?_) (λb u e=>?_) I.bare
  · have e:b=it:=by simpa using hb
    subst e
    exact ⟨h1,hL,h2,h3⟩
  · obtain ⟨o,es,ep,ho,r⟩:=hm
    exact ⟨o,es,ep,k _ o (YE hL) ho,r⟩
  · refine (I.hok b u e).stay (λc v hc q=>k c v ?_ q) (λ_ q=>q) λ_ _ q=>q
    rcases hc with z | z
    · rw [z];exact Mc b u e
    · exact Mc c _ z
theorem Inv.tok (I:Inv X pins σ H s) (t':Nat) (ht:0<t':=by first | exact XO _ | exact (Inv.os (by assumption)).2 | assumption | nofun):Inv X pins σ H {s with toks:=t'}:=I.un (h':=s.heap) (t':=t') Un.refl I.hok
theorem ie {α:Type} {M:Model} {t:Sem α} {Q:α→WT→Prop} (h:0<s.toks) (h':Xe M A t (λa s'=>0<s'.toks→Q a s') (λe s'=>0<s'.toks→E e s') s):Xe M A t Q E s:=wpAny_with_toks (n:=1) h h'
theorem Inv.kept (I:Inv X pins σ H s) (k:∀ b u,s.heap.get? b=some u→h'.get? b=some u) (ht:0<t':=by first | exact XO _ | exact (Inv.os (by assumption)).2 | assumption | nofun):Inv X pins σ H {s with heap:=h',toks:=t'}:=I.un (Un.kept k) (I.hok.kept k)
theorem Inv.laid (I:Inv X pins σ H s) (k:∀ b u,s.heap.get? b=some u→h'.get? b=some u) (hp:s.heap.objs.size≤a) (new:dD X.prog X.w (upd H a o) h' a o) (ht:0<t':=by first | exact XO _ | exact (Inv.os (by assumption)).2 | assumption | nofun) :
    Inv X pins σ (upd H a o) {s with heap:=h',toks:=t'}:=I.un (Un.laid k hp (I.hok.fresh hp)) (I.hok.laid k hp new)
theorem Inv.write {x e:Addr} (I:Inv X pins σ H s) (mu:L6 (H x)) (he:e=x∨H e=some (.own x)) (k:∀ b u,b≠e→s.heap.get? b=some u→h'.get? b=some u) (LK:∃ u,h'.get? e=some u)
    (new:dD X.prog X.w (upd H x o) h' x o) (ht:0<t':=by first | exact XO _ | exact (Inv.os (by assumption)).2 | assumption | nofun):Inv X pins σ (upd H x o) {s with heap:=h',toks:=t'}:=I.un (Un.write mu he k LK) (I.hok.write mu he k LK new)
theorem Inv.sP (I:Inv X pins σ H s) (h:∀ p∈gx,s.heap.get? p.1=some p.2∧H p.1=none∧p.1≠X.env.locals∧p.1∉X.fs∧∀ v,p.2.data≠.cell v):Inv X gx σ H s:=
  ⟨I.ok,I.os,I.bare,I.base,I.loc,I.cell,I.free,I.jt,λp hp=>(Xy.mp hp).elim (λz=>I.pin p (Yt _ z)) (h p),I.hok,I.len⟩
theorem uJ (hN:N.Nodup) {i j:Nat} {x:Str} (a:N[i]?=some x) (b:N[j]?=some x):i=j:=by
  obtain ⟨h1,e1⟩:=WS.mp a
  obtain ⟨h2,e2⟩:=WS.mp b
  exact (Yh hN).mp (e1.trans e2.symm)
theorem qW {M:Model} {A:Around} {E:V0→WT→Prop} {Q:Unit→WT→Prop} (I:Inv X pins σ H s) (hN:X.N.Nodup) (hi:X.N[i]?=some x) (hx:Loc X.env.scope x) (r:RelV v u)
    (h:∀ s',Inv X pins (σ.set i (some v)) H s'→(∃ a,Y0 a s.heap s'.heap∧(a=X.env.locals∨X.env.cells.lookup x=some a))→Q () s') (hf:X.fn x=true∨X.env.scope.names.lookup x=some .local:=by first | exact .inl rfl | exact .inr rfl | assumption):Xe M A (storeName X.env x u) Q E s:=by
  obtain ⟨m,hn,hl⟩:=id I.loc
  have hcls:(X.env.scope.kind==.class||(X.env.scope.kind==.module&&X.env.locals != X.env.globals))=false:=by rw [I.ok.kind];rfl
  have Rr:i<σ.length:=by rw [I.len];exact (WS.mp hi).1
  have By:=I.By
  have tracked:∀ {a:Addr} {h':Heap},(∃ o,s.heap.get? a=some o∧H a=none)→Y0 a s.heap h'→iY X.prog X.w H h':=λ{a h'} ha hs b ob e=>by
    obtain ⟨_,_,hfree⟩:=ha
    refine (I.hok b ob e).stay (λc w' hc q=>(hs.2 c ?_).trans q) (λ_ q=>q) λ_ _ q=>q
    rintro rfl
    rcases hc with rfl | hc
    · rw [hfree] at e;cases e
    · rw [hfree] at hc;cases hc
  rcases hx with hk | hk
  · refine aa8 hk hn (λh' hn' hs=>?_) hcls
    obtain ⟨oL,_,_,Rt,_⟩:=id hn
    refine h _ ⟨I.ok,⟨I.os.1,XO _⟩,I.bare,⟨λb o e n hb hx=>?_,λb o e n hb hx=>?_,I.base.free,λb o e hx=>?_,I.base.tups,I.base.jC,I.base.ki⟩,⟨_,hn',λj y v' e1 e2 e3=>?_⟩,λy c e=>?_,I.free,I.jt,λp hp=>?_,tracked ⟨oL,Rt,I.free⟩ hs,by simpa using I.len⟩ ⟨_,hs,.inl rfl⟩
    · exact (hs.2 b (Xa (W0 (W3 e) I.ok.above))).trans (I.base.keep b o e n hb hx)
    · obtain ⟨sl,e1⟩:=I.base.slot b o e n hb hx
      exact ⟨sl,(hs.2 b (Xa (W0 (W3 e) I.ok.above))).trans e1⟩
    · obtain ⟨o',e1⟩:=I.base.there b o e hx
      exact ⟨o',(hs.2 b (Xa (W0 (W3 e) I.ok.above))).trans e1⟩
    · by_cases hj:j=i
      · subst hj
        rw [hi] at e1;cases e1
        rw [aaR Rr] at e2
        cases e2
        exact ⟨u,r,.inl ⟨hk,by simp⟩⟩
      · rw [XC (YE hj)] at e2
        obtain ⟨u',r',q⟩:=hl j y v' e1 e2 e3
        refine ⟨u',r',?_⟩
        rcases q with ⟨k,e⟩ | ⟨k,c,e,z⟩
        · refine .inl ⟨k,?_⟩
          have:y≠x:=λe=>hj (uJ hN e1 (e▸hi))
          simp [this,e]
        · exact .inr ⟨k,c,e,z.sameBut hs (By y c e)⟩
    · obtain ⟨w',z⟩:=I.cell y c e
      exact ⟨w',z.sameBut hs (By y c e)⟩
    · obtain ⟨e,n,ne,nf,d⟩:=I.pin p hp
      exact ⟨(hs.2 p.1 ne).trans e,n,ne,nf,d⟩
  · have hfn:X.fn x=true:=by
      rcases hf with z | z
      · exact z
      · rw [z] at hk;cases hk
    obtain ⟨c,hc⟩:=I.ok.has x (.inl hk)
    obtain ⟨w',z⟩:=I.cell x c hc
    refine wpAny_storeName_cell I.ok.kind hk hc z (λh' hc' hs=>?_)
    obtain ⟨oc,hoc,Pc⟩:=id z
    refine h {s with heap:=h'} ⟨I.ok,I.os,I.bare,⟨λb o e n hb hx=>?_,λb o e n hb hx=>?_,I.base.free,λb o e hx=>?_,I.base.tups,I.base.jC,I.base.ki⟩,⟨m,hn.sameBut hs (YE (By x c hc)),λj y v' e1 e2 e3=>?_⟩,λy c' e=>?_,I.free,I.jt,λp hp=>?_,tracked ⟨oc,hoc,(I.jt x c hc).resolve_right λz=>by rw [hfn] at z;cases z.1⟩ hs,by simpa using I.len⟩ ⟨c,hs,.inr hc⟩
    · exact (hs.2 b (Xa (W0 (W3 e) (I.ok.L8 x c hfn hc)))).trans (I.base.keep b o e n hb hx)
    · obtain ⟨sl,e1⟩:=I.base.slot b o e n hb hx
      exact ⟨sl,(hs.2 b (Xa (W0 (W3 e) (I.ok.L8 x c hfn hc)))).trans e1⟩
    · obtain ⟨o',e1⟩:=I.base.there b o e hx
      exact ⟨o',(hs.2 b (Xa (W0 (W3 e) (I.ok.L8 x c hfn hc)))).trans e1⟩
    · by_cases hj:j=i
      · subst hj
        rw [hi] at e1;cases e1
        rw [aaR Rr] at e2
        cases e2
        exact ⟨u,r,.inr ⟨.inl hk,c,hc,hc'⟩⟩
      · rw [XC (YE hj)] at e2
        obtain ⟨u',r',q⟩:=hl j y v' e1 e2 e3
        refine ⟨u',r',?_⟩
        rcases q with q | ⟨k,c',e,z'⟩
        · exact .inl q
        · refine .inr ⟨k,c',e,z'.sameBut hs ?_⟩
          rintro rfl
          exact hj (uJ hN e1 (I.ok.inj _ _ _ e hc▸hi))
    · by_cases hcc:c'=c
      · subst hcc;exact ⟨_,hc'⟩
      · obtain ⟨w2,z2⟩:=I.cell y c' e
        exact ⟨w2,z2.sameBut hs hcc⟩
    · obtain ⟨e,n,ne,nf,d⟩:=I.pin p hp
      refine ⟨(hs.2 p.1 ?_).trans e,n,ne,nf,d⟩
      intro q
      rw [q,hoc] at e
      have q':oc=p.2:=XJ e
      exact d w' (by rw [← q'];exact Pc)
theorem uK {M:Model} {A:Around} {E:V0→WT→Prop} {Q:Unit→WT→Prop} (I:Inv X pins σ H s) (hN:X.N.Nodup) (hi:X.N[i]?=some x) (hx:Loc X.env.scope x) (r:RelV v u)
    (h:∀ s',Inv X pins (σ.set i (some v)) H s'→Q () s') (hf:X.fn x=true∨X.env.scope.names.lookup x=some .local:=by first | exact .inl rfl | exact .inr rfl | assumption):Xe M A (storeName X.env x u) Q E s:=
  qW I hN hi hx r (λs' I' _=>h s' I') hf
theorem Inv.BB (I:Inv X pins σ H s) (ho:s'.os=s.os∧0<s'.toks) (u:Un (frs X.stack) ch H H' s.heap s'.heap) (hok:iY X.prog X.w H' s'.heap) (hg:AllBare s'.gens)
    (hch:∀ b∈ch,(b∈X.ex∨X.s₀.heap.objs.size≤b)∧b≠X.env.locals∧(∀ x c,X.env.cells.lookup x=some c→c≠b)∧∀ p∈X.pn++pins,p.1≠b):Inv X pins σ H' s':=by
  obtain ⟨h',g',d',t',o'⟩:=s'
  have e:o'=s.os:=ho.1
  have ht:0<t':=ho.2
  subst e
  exact I.call (g':=g') (t':=t') (d':=d') u hok hg hch
end
noncomputable abbrev XK:=V0→Option Addr→Hp→Prop
noncomputable abbrev St:=List (Option V)
variable {σ:St}
noncomputable abbrev VK:=V→Hp→Prop
noncomputable abbrev TE:=St→Hp→VK→Prop
noncomputable abbrev TT:=St→Hp→(Bool→Hp→Prop)→Prop
variable {tc:TT}
noncomputable abbrev TA:=St→Hp→(List V→Hp→Prop)→Prop
variable {ta:TA}
structure Ends where
  nx:St→Hp→Prop
  rt:VK
  bk:St→Hp→Prop:=λ_ _=>False
  ct:St→Hp→Prop:=λ_ _=>False
noncomputable abbrev TS:=Ends→St→Hp→Prop
variable {tb:TS}
noncomputable def EP (X:Cx) (pins:List (Addr×Obj)) (σ:St) (Q:VK) (u:V0) (s':WT):Prop:=∃ v H',Inv X pins σ H' s'∧RelV v u∧Q v H'
noncomputable def TP (X:Cx) (pins:List (Addr×Obj)) (σ:St) (Q:Bool→Hp→Prop) (b:Bool) (s':WT):Prop:=∃ H',Inv X pins σ H' s'∧Q b H'
noncomputable def AP (X:Cx) (pins:List (Addr×Obj)) (σ:St) (Q:List V→Hp→Prop) (us:List V0) (s':WT):Prop:=∃ vs H',Inv X pins σ H' s'∧Vals vs us∧Q vs H'
noncomputable def SP (X:Cx) (pins:List (Addr×Obj)) (D:Ends) (f:Flow) (s':WT):Prop:=
  match f with
  | .next=>∃ σ' H',Inv X pins σ' H' s'∧D.nx σ' H'
  | .brk=>∃ σ' H',Inv X pins σ' H' s'∧D.bk σ' H'
  | .cont=>∃ σ' H',Inv X pins σ' H' s'∧D.ct σ' H'
  | .ret u=>∃ v σ' H',Inv X pins σ' H' s'∧RelV v u∧D.rt v H'
noncomputable def PE (X:Cx) (e:Expr) (t:TE):Prop:=
  ∀ (pins:List (Addr×Obj)) (s:WT) (σ:St) (H:Hp) (Q:VK),Inv X pins σ H s→t σ H Q→Xe (model X.prog X.w) X.A (eval e X.env) (EP X pins σ Q) X.xe s
noncomputable def PT (X:Cx) (e:Expr) (t:TT):Prop:=
  ∀ (pins:List (Addr×Obj)) (s:WT) (σ:St) (H:Hp) (Q:Bool→Hp→Prop),Inv X pins σ H s→t σ H Q→Xe (model X.prog X.w) X.A (isTrue e X.env (eval e X.env)) (TP X pins σ Q) X.xe s
noncomputable def PW (X:Cx) (e:Expr) (t:TT):Prop:=
  ∀ (whole:Sem V0) (pins:List (Addr×Obj)) (s:WT) (σ:St) (H:Hp) (Q:Bool→Hp→Prop),Inv X pins σ H s→t σ H Q→Xe (model X.prog X.w) X.A (isTrue e X.env whole) (TP X pins σ Q) X.xe s
theorem PW.pt {t:TT} (h:PW X e t):PT X e t:=h _
noncomputable def PA (X:Cx) (es:List Expr) (t:TA):Prop:=
  ∀ (pos:Pos) (pins:List (Addr×Obj)) (s:WT) (σ:St) (H:Hp) (Q:List V→Hp→Prop),Inv X pins σ H s→t σ H Q→Xe (model X.prog X.w) X.A (spliced (backTo pos (Xh es X.env))) (AP X pins σ Q) X.xe s
noncomputable def PS (X:Cx) (st:Stmt) (t:TS):Prop:=
  ∀ (pins:List (Addr×Obj)) (s:WT) (σ:St) (H:Hp) (D:Ends),Inv X pins σ H s→t D σ H→Xe (model X.prog X.w) X.A (exec st X.env) (SP X pins D) X.xe s
noncomputable def xq (X:Cx) (st:List Stmt) (t:TS):Prop:=
  ∀ (pins:List (Addr×Obj)) (s:WT) (σ:St) (H:Hp) (D:Ends),Inv X pins σ H s→t D σ H→Xe (model X.prog X.w) X.A (execs st X.env) (SP X pins D) X.xe s
theorem cY {α:Type} {t:Sem α} {Q Q':α→WT→Prop} {M:Model} (h:Xe M A t Q E s) (hQ:∀ a s,Q a s→Q' a s):Xe M A t Q' E s:=XH h hQ λ_ _ x=>x
section
variable {X:Cx}
theorem bin {a b:Expr} {ta tb:TE} (ha:PE X a ta) (hb:PE X b tb) {pins:List (Addr×Obj)} {s:WT} {σ:St} {H:Hp} {R:V→V→Hp→Prop} (I:Inv X pins σ H s) (h:ta σ H λx H1=>tb σ H1 λy H2=>R x y H2)
    {α:Type} {Q:α→WT→Prop} {f:V0→V0→Sem α}
    (hf:∀ v u s2 x y H2,Inv X pins σ H2 s2→RelV x v→RelV y u→R x y H2→Xe (model X.prog X.w) X.A (f v u) Q X.xe s2) :
    Xe (model X.prog X.w) X.A (eval a X.env) (λv s₁=>Xe (model X.prog X.w) X.A (eval b X.env) (λu s₂=>Xe (model X.prog X.w) X.A (f v u) Q X.xe s₂) X.xe s₁) X.xe s:=by
  refine cY (ha pins s σ H _ I h) λv s1 zz=>?_
  obtain ⟨x,H1,I1,r1,q1⟩:=zz
  refine cY (hb pins s1 σ H1 _ I1 q1) λu s2 zz=>?_
  obtain ⟨y,H2,I2,r2,q2⟩:=zz
  exact hf v u s2 x y H2 I2 r1 r2 q2
noncomputable def Pd (i:Nat):TE:=λσ H Q=>∃ v,σ[i]?=some (some v)∧Q v H
noncomputable def tC (v:V):TE:=λ_ H Q=>Q v H
theorem xr {pos:Pos} (hN:X.N[i]?=some x) (hv:Bx X.env.scope x) (hd:(x==("__debug__":Str))=false:=by decide) (hcd:(x==("__classdict__":Str))=false:=by decide):PE X (.Name x pos) (Pd i):=by
  intro pins s σ H Q I h
  obtain ⟨v,e,h⟩:=h
  obtain ⟨m,hn,hl⟩:=I.loc
  obtain ⟨u,r,l⟩:=hl i x v hN e hv
  have fin:EP X pins σ Q u s:=⟨v,H,I,r,h⟩
  rcases l with ⟨hk,hm⟩ | ⟨hk,c,hc,hcell⟩
  · exact acd (wpAny_loadName_local I.ok.kind hk hn hm fin) hd
  · rcases hk with hk | hk
    · exact acd (wpAny_loadName_cell I.ok.kind hk hc hcell fin) hd
    · exact acd (wpAny_loadName_free I.ok.kind hk hc hcell fin hcd) hd
theorem II {i j pos}:PE X (.Constant (.int i) j pos) (tC (.int i)):=λ_ _ _ H _ I h=>wpAny_Constant_int ⟨.int i,H,I.tok _,⟨_,rfl⟩,h⟩
theorem Me {b j pos}:PE X (.Constant (.bool b) j pos) (tC (.bl b)):=λ_ _ _ H _ I h=>Constant_bool ⟨.bl b,H,I,rfl,h⟩
theorem IJ {x j pos}:PE X (.Constant (.str x) j pos) (tC (.str x)):=λ_ _ _ H _ I h=>Calls.Constant_str ⟨.str x,H,I.tok _,⟨_,rfl⟩,h⟩
noncomputable def Gl (X:Cx) (x:Str):Prop:=X.env.kindOf x=some .globalImplicit
theorem yF {E:V0→WT→Prop} {pos:Pos} (I:Inv X pins σ H s) (hg:Gl X x) (hm:X.mg x=some u) (h:Q u s)
    (hd:(x==("__debug__":Str))=false:=by decide):Xe (model X.prog X.w) X.A (eval (.Name x pos) X.env) Q E s:=
  aah I.ok.kind hg (Calls.loadGlobal_global (by rw [I.ok.glob];exact I.mod.glob.keeps I.bk) hm h) hd
theorem fq {E:V0→WT→Prop} {pos:Pos} (I:Inv X pins σ H s) (hg:Gl X x) (hm:X.mg x=none) (hv:bootBuiltins x=some u) (h:Q u s)
    (hn:x≠"__name__":=by decide) (hd:(x==("__debug__":Str))=false:=by decide):Xe (model X.prog X.w) X.A (eval (.Name x pos) X.env) Q E s:=by
  obtain ⟨mb,h1,h2⟩:=I.mod.blt
  exact aah I.ok.kind hg (Calls.loadGlobal_builtin (by rw [I.ok.glob];exact I.mod.glob.keeps I.bk) hm (by rw [I.ok.blt];exact h1.keeps I.bk) ((h2 x hn).trans hv) h) hd
theorem yG {pos:Pos} (hg:Gl X x) (hm:X.mg x=some u) (r:RelV v u) (hd:(x==("__debug__":Str))=false:=by decide):PE X (.Name x pos) (tC v):=
  λ_ _ _ H _ I h=>yF I hg hm ⟨v,H,I,r,h⟩ hd
theorem Ez {pos:Pos} (hg:Gl X x) (hm:X.mg x=none) (hv:bootBuiltins x=some u) (r:RelV v u) (hn:x≠"__name__":=by decide) (hd:(x==("__debug__":Str))=false:=by decide):PE X (.Name x pos) (tC v):=
  λ_ _ _ H _ I h=>fq I hg hm hv ⟨v,H,I,r,h⟩ hn hd
variable {a b:Expr} {ta tb:TE} {pos:Pos}
variable {tA Oz:TT} {rest:List Expr}
noncomputable def Mf (t u:TT):TT:=λσ H Q=>t σ H λc H1=>if c=true then u σ H1 Q else Q false H1
noncomputable def Ru (t u:TT):TT:=λσ H Q=>t σ H λc H1=>if c=true then Q true H1 else u σ H1 Q
noncomputable def Pe (t:TT):TT:=λσ H Q=>t σ H λc H1=>Q (!c) H1
theorem EA (ha:PT X a tA):PW X (.BoolOp .And [a] pos) tA:=by
  intro wh pins s σ H Q I h
  refine isTrue_and (cY (ha pins s σ H Q I h) λc s1 e=>?_)
  cases c with
  | true=>exact isTrue_and_nil e
  | false=>exact e
theorem IK (ha:PT X a tA):PW X (.BoolOp .Or [a] pos) tA:=by
  intro wh pins s σ H Q I h
  refine isTrue_or (cY (ha pins s σ H Q I h) λc s1 e=>?_)
  cases c with
  | false=>exact isTrue_or_nil e
  | true=>exact e
theorem IL (ha:PT X a tA) (hb:PW X (.BoolOp .And (b::rest) pos) Oz):PW X (.BoolOp .And (a::b::rest) pos) (Mf tA Oz):=by
  intro wh pins s σ H Q I h
  refine isTrue_and (cY (ha pins s σ H _ I h) λc s1 zz=>?_)
  obtain ⟨H1,I1,q1⟩:=zz
  cases c with
  | true=>exact hb wh pins s1 σ H1 Q I1 q1
  | false=>exact ⟨H1,I1,q1⟩
theorem Mg (ha:PT X a tA) (hb:PW X (.BoolOp .Or (b::rest) pos) Oz):PW X (.BoolOp .Or (a::b::rest) pos) (Ru tA Oz):=by
  intro wh pins s σ H Q I h
  refine isTrue_or (cY (ha pins s σ H _ I h) λc s1 zz=>?_)
  obtain ⟨H1,I1,q1⟩:=zz
  cases c with
  | true=>exact ⟨H1,I1,q1⟩
  | false=>exact hb wh pins s1 σ H1 Q I1 q1
theorem IM (ha:PT X a tA):PT X (.UnaryOp .Not a pos) (Pe tA):=by
  intro pins s σ H Q I h
  exact isTrue_not (ha pins s σ H (λc H1=>Q (!c) H1) I h)
noncomputable def Mh (ta tb:TE):TE:=λσ H Q=>ta σ H λx H1=>∃ c,x=.bl c∧if c=true then tb σ H1 Q else Q (.bl false) H1
noncomputable def Pf (ta tb:TE):TE:=λσ H Q=>ta σ H λx H1=>∃ c,x=.bl c∧if c=true then Q (.bl true) H1 else tb σ H1 Q
noncomputable def Mi (ta:TE):TE:=λσ H Q=>ta σ H λx H1=>∃ c,x=.bl c∧Q (.bl (!c)) H1
theorem IP {op} {t:TE} (h:PE X a t):PE X (.BoolOp op [a] pos) t:=λpins s σ H Q I hw=>BoolOp_one (h pins s σ H Q I hw)
theorem IQ (ha:PE X a ta) (hb:PE X (.BoolOp .And (b::rest) pos) tb):PE X (.BoolOp .And (a::b::rest) pos) (Mh ta tb):=by
  intro pins s σ H Q I h
  refine BoolOp_and (cY (ha pins s σ H _ I h) λv s1 zz=>?_)
  obtain ⟨x,H1,I1,r1,q1⟩:=zz
  obtain ⟨c,rfl,q1⟩:=q1
  cases r1
  refine Zm ?_
  cases c with
  | true=>exact hb pins s1 σ H1 Q I1 q1
  | false=>exact ⟨.bl false,H1,I1,rfl,q1⟩
theorem Mj (ha:PE X a ta) (hb:PE X (.BoolOp .Or (b::rest) pos) tb):PE X (.BoolOp .Or (a::b::rest) pos) (Pf ta tb):=by
  intro pins s σ H Q I h
  refine BoolOp_or (cY (ha pins s σ H _ I h) λv s1 zz=>?_)
  obtain ⟨x,H1,I1,r1,q1⟩:=zz
  obtain ⟨c,rfl,q1⟩:=q1
  cases r1
  refine Zm ?_
  cases c with
  | false=>exact hb pins s1 σ H1 Q I1 q1
  | true=>exact ⟨.bl true,H1,I1,rfl,q1⟩
theorem IS (ha:PE X a ta):PE X (.UnaryOp .Not a pos) (Mi ta):=by
  intro pins s σ H Q I h
  refine UnaryOp_ (cY (ha pins s σ H _ I h) λv s1 zz=>?_)
  obtain ⟨x,H1,I1,r1,q1⟩:=zz
  obtain ⟨c,rfl,q1⟩:=q1
  cases r1
  exact not_of (Zm ⟨.bl (!c),H1,I1,rfl,q1⟩)
end
noncomputable def jY (K:WV) (H:Hp) (a:Addr) (xs:List V):Prop:=
  Rd H a (.lst xs) ∨
    ∃ (o:Obj) (its:Array V0) (n:Nat),K.lookup a=some o∧o.cls=.type "list"∧o.dict=none∧o.data=.seq its n∧its.size≤WO∧Vals xs its.toList
noncomputable def kC (K:WV) (H:Hp) (a:Addr) (xs:List V):Prop:=
  Rd H a (.tup xs) ∨
    ∃ (o:Obj) (its:Array V0) (n:Nat),K.lookup a=some o∧o.cls=.type "tuple"∧o.data=.seq its n∧its.size≤WO∧Vals xs its.toList
noncomputable def Ph:V0→Option V
  | .none=>some .eO
  | .bool b=>some (.bl b)
  | .int i _=>some (.int i)
  | .str x _=>some (.str x)
  | .bytes b _=>some (.L4 b)
  | .float b _=>some (.L5 b)
  | .ref a=>some (.ref a)
  | .type n=>some (.ty n)
  | _=>none
theorem RelV.abs {x:V} (r:RelV x u):Ph u=some x:=by
  cases x with
  | eO=>cases r;rfl
  | bl _=>cases r;rfl
  | int _=>obtain ⟨t,rfl⟩:=r;rfl
  | str _=>obtain ⟨t,rfl⟩:=r;rfl
  | L4 _=>obtain ⟨t,rfl⟩:=r;rfl
  | L5 _=>obtain ⟨t,rfl⟩:=r;rfl
  | ref _=>cases r;rfl
  | ty _=>cases r;rfl
theorem RelV.inj {x:V} (r:RelV x u) (q:RelV y u):x=y:=XJ (r.abs.symm.trans q.abs)
theorem Vals.inj:∀ {xs ys:List V} {us:List V0},Vals xs us→Vals ys us→xs=ys
  | _,_,_,.nil,.nil=>rfl
  | _,_,_,.cons r t,.cons r' t'=>by rw [r.inj r',Vals.inj t t']
section
variable {X:Cx} {pins:List (Addr×Obj)} {σ:St} {H:Hp} {s:WT} {a:Addr} {xs ys:List V}
theorem jY.of (h:H a=some (.lst xs)):jY K H a xs:=.inl (.inl h)
theorem Inv.list (I:Inv X pins σ H s) (h:jY X.K H a xs):∃ its:List V0,Vals xs its∧PlainL s.heap a its.toArray∧xs.length≤WO:=by
  rcases h with h | ⟨o,its,n,hk,hc,hd,hs,hz,r⟩
  · obtain ⟨z,its,n,r,e⟩:=h.ok I.hok
    exact ⟨its,r,⟨_,n,e,rfl,rfl,rfl⟩,z⟩
  · refine ⟨its.toList,r,⟨o,n,I.xo a o hk,hc,hd,by simpa using hs⟩,?_⟩
    have e:=r.length
    simp only [aad] at e
    nofun
theorem Inv.tuple (I:Inv X pins σ H s) (h:kC X.K H a xs):∃ its:List V0,Vals xs its∧IsTup s.heap a its.toArray∧xs.length≤WO:=by
  rcases h with h | ⟨o,its,n,hk,hc,hs,hz,r⟩
  · obtain ⟨z,its,r,p⟩:=h.ok I.hok
    exact ⟨its,r,p,z⟩
  · refine ⟨its.toList,r,⟨o,I.xo a o hk,hc,n,by simpa using hs⟩,?_⟩
    have e:=r.length
    simp only [aad] at e
    nofun
theorem Inv.lq (I:Inv X pins σ H s) (h:jY X.K H a xs) (h':jY X.K H a ys):xs=ys:=by
  obtain ⟨its,r,⟨o,n,e,_,_,d⟩,_⟩:=I.list h
  obtain ⟨its',r',⟨o',n',e',_,_,d'⟩,_⟩:=I.list h'
  rw [e] at e';cases e'
  rw [d] at d'
  injection d' with d1 _
  have:its=its':=by simpa using congrArg Array.toList d1
  subst this
  exact r.inj r'
theorem Inv.mq (I:Inv X pins σ H s) (h:kC X.K H a xs) (h':kC X.K H a ys):xs=ys:=by
  obtain ⟨its,r,⟨o,e,_,n,d⟩,_⟩:=I.tuple h
  obtain ⟨its',r',⟨o',e',_,n',d'⟩,_⟩:=I.tuple h'
  rw [e] at e';cases e'
  rw [d] at d'
  injection d' with d1 _
  have:its=its':=by simpa using congrArg Array.toList d1
  subst this
  exact r.inj r'
end
section
variable {X:Cx} {st:Stmt} {rest:List Stmt} {t u:TS} {e:Expr} {te:TE} {pos:Pos}
noncomputable def Ml:TS:=λD σ H=>D.nx σ H
noncomputable def Mm (t u:TS):TS:=λD σ H=>t {D with nx:=u D} σ H
theorem EB:xq X [] Ml:=λ_ _ σ H _ I h=>Z9 ⟨σ,H,I,h⟩
theorem BC (h1:PS X st t) (h2:xq X rest u):xq X (st::rest) (Mm t u):=by
  intro pins s σ H D I h
  refine aaF (cY (h1 pins s σ H {D with nx:=u D} I h) λf s1 q=>?_)
  cases f with
  | next=>
    obtain ⟨σ',H',I',q⟩:=q
    exact h2 pins s1 σ' H' D I' q
  | ret v=>exact q
  | brk=>exact q
  | cont=>exact q
theorem EC (h1:PS X st t):xq X [st] t:=by
  intro pins s σ H D I h
  refine aaF (cY (h1 pins s σ H D I h) λf s1 q=>?_)
  cases f with
  | next=>exact Z9 q
  | ret v=>exact q
  | brk=>exact q
  | cont=>exact q
theorem Inv.quiet (I:Inv X pins σ H s):interactive X.env=false:=by simp [interactive,I.ok.kind]
noncomputable def Mn (te:TE):TS:=λD σ H=>te σ H λ_ H1=>D.nx σ H1
theorem ED (he:PE X e te) (hs:swapsWith e none pos.line X.env=pure false:=by rfl):PS X (.Expr e pos) (Mn te):=by
  intro pins s σ H D I h
  exact wpAny_Expr_any (cY (he pins s σ H _ I h) λv s1 zz=>by obtain ⟨x,H1,I1,r1,q1⟩:=zz;exact ⟨σ,H1,I1,q1⟩) I.quiet hs
noncomputable def Pj (te:TE):TS:=λD σ H=>te σ H D.rt
theorem IT (he:PE X e te):PS X (.Return (some e) pos) (Pj te):=by
  intro pins s σ H D I h
  exact abF (cY (he pins s σ H _ I h) λv s1 zz=>by obtain ⟨x,H1,I1,r1,q1⟩:=zz;exact ⟨x,σ,H1,I1,r1,q1⟩)
noncomputable def Pk (c:TT) (t u:TS):TS:=λD σ H=>c σ H λb H1=>if b=true then t D σ H1 else u D σ H1
theorem Mp {a b:List Stmt} (hc:PT X c tc) (ha:xq X a t) (hb:xq X b u):PS X (.If c a b pos) (Pk tc t u):=by
  intro pins s σ H D I h
  refine wpAny_If (cY (hc pins s σ H _ I h) λd s1 zz=>?_)
  obtain ⟨H1,I1,q1⟩:=zz
  cases d with
  | true=>exact ha pins s1 σ H1 D I1 q1
  | false=>exact hb pins s1 σ H1 D I1 q1
end
noncomputable abbrev TG:=V→St→Hp→(St→Hp→Prop)→Prop
noncomputable abbrev IU:=List V→St→Hp→(St→Hp→Prop)→Prop
noncomputable def PG (X:Cx) (target:Expr) (t:TG):Prop:=
  ∀ (pins:List (Addr×Obj)) (s:WT) (σ:St) (H:Hp) (v:V) (u:V0) (Q:St→Hp→Prop),Inv X pins σ H s→RelV v u→t v σ H Q →
    Xe (model X.prog X.w) X.A (assign target X.env u) (λ_ s'=>∃ σ' H',Inv X pins σ' H' s'∧Q σ' H') X.xe s
noncomputable def OA (X:Cx) (ts:List Expr) (t:IU):Prop:=
  ∀ (pins:List (Addr×Obj)) (s:WT) (σ:St) (H:Hp) (vs:List V) (us:List V0) (Q:St→Hp→Prop),Inv X pins σ H s→Vals vs us→t vs σ H Q →
    Xe (model X.prog X.w) X.A (assignInOrder ((assignEach ts X.env).map (·.2)) us) (λ_ s'=>∃ σ' H',Inv X pins σ' H' s'∧Q σ' H') X.xe s
section
variable {X:Cx} {pos:Pos}
noncomputable def uL (i:Nat):TG:=λv σ H Q=>Q (σ.set i (some v)) H
theorem sQ (hN:X.N.Nodup) (hi:X.N[i]?=some x) (hx:Loc X.env.scope x) (hf:X.fn x=true∨X.env.scope.names.lookup x=some .local:=by first | exact .inl rfl | exact .inr rfl | assumption):PG X (.Name x pos) (uL i):=by
  intro pins s σ H v u Q I r h
  exact aau (uK I hN hi hx r (λs' I'=>⟨_,H,I',h⟩) hf)
noncomputable def Pn:IU:=λvs σ H Q=>vs=[]∧Q σ H
noncomputable def Mq (t:TG) (u:IU):IU:=λvs σ H Q=>∃ v r,vs=v::r∧t v σ H λσ' H'=>u r σ' H' Q
theorem EF:OA X [] Pn:=by
  intro pins s σ H vs us Q I r h
  obtain ⟨e,h⟩:=h
  subst e
  cases r
  exact assignInOrder_nil ⟨σ,H,I,h⟩
theorem uM {t:TG} {u:IU} (h1:PG X e t) (h2:OA X es u)
    (hs:(assignEach (e::es) X.env).map (·.2)=assign e X.env::(assignEach es X.env).map (·.2):=by rfl):OA X (e::es) (Mq t u):=by
  intro pins s σ H vs us Q I r h
  obtain ⟨v,vr,e1,h⟩:=h
  subst e1
  cases r with
  | cons r rr=>
    rw [hs]
    refine assignInOrder_cons (cY (h1 pins s σ H _ _ _ I r h) λ_ s1 zz=>?_)
    obtain ⟨σ1,H1,I1,q1⟩:=zz
    exact h2 pins s1 σ1 H1 _ _ Q I1 rr q1
noncomputable def Po (K:WV) (n:Nat) (t:IU):TG:=λv σ H Q=>∃ a xs,v=.ref a∧kC K H a xs∧xs.length=n∧t xs σ H Q
theorem IV {k:Nat} {t:IU} (hc:X.calm=true) (h:OA X es t)
    (hn:(assignEach es X.env).length=n:=by rfl) (hst:(assignEach es X.env).findIdx? (·.1)=none:=by rfl):PG X (.Tuple es k pos) (Po X.K n t):=by
  intro pins s σ H v u Q I r hw
  obtain ⟨a,xs,e1,hq,hl,hw⟩:=hw
  subst e1
  cases r
  obtain ⟨its,rv,ht,hz⟩:=I.tuple hq
  refine assign_Tuple_tuple (I.ok.hd hc) ht (by simp [hn,← hl,rv.length]) hst λh' hx=>?_
  have I1:Inv X pins σ H {s with heap:=h'}:=I.kept (t':=s.toks) λb o e=>hx b o (Xa (W3 e)) e
  exact h pins _ σ H xs _ Q I1 (by simpa using rv) hw
noncomputable def IW (te:TE) (g:TG):TS:=λD σ H=>te σ H λx H1=>g x σ H1 D.nx
theorem IX {te:TE} (hN:X.N.Nodup) (hi:X.N[i]?=some x) (hx:Loc X.env.scope x) (he:PE X e te) (hs:swapsWith e (some (.Name x pos')) pos.line X.env=pure false:=by rfl) (hf:X.fn x=true∨X.env.scope.names.lookup x=some .local:=by first | exact .inl rfl | exact .inr rfl | assumption) :
    PS X (.Assign [.Name x pos'] e pos) (IW te (uL i)):=by
  intro pins s σ H D I h
  refine wpAny_Assign_Name (cY (he pins s σ H _ I h) λv s1 zz=>?_) hs
  obtain ⟨y,H1,I1,r1,q1⟩:=zz
  exact uK I1 hN hi hx r1 (λs2 I2=>⟨_,H1,I2,q1⟩) hf
end
section
variable {X:Cx} {pos:Pos}
noncomputable def IY (c:TT) (tb:TS):TS:=λD σ H=>∃ W:Nat→St→Hp→Prop,(∃ m,W m σ H)∧∀ m σ H,W m σ H →
  c σ H λb H1=>if b=true then ∃ N:St→Hp→Prop,(∀ σ' H',N σ' H'→∃ m',m'<m∧W m' σ' H')∧tb {D with nx:=N,ct:=N,bk:=D.nx} σ H1 else D.nx σ H1
theorem BD (hp:PassesOwn (model X.prog X.w) X.A X.env X.xe) (hc:PT X c tc) (hb:xq X body tb):PS X (.While c body [] pos) (IY tc tb):=by
  intro pins s σ H D I h
  obtain ⟨W,⟨m0,w0⟩,turn⟩:=h
  refine wpAny_While (codeAny_whileLoop (λn s'=>∃ σ' H',Inv X pins σ' H' s'∧W n σ' H') ?_ m0 ⟨σ,H,I,w0⟩)
  rintro n s1 ⟨σ1,H1,I1,w1⟩
  refine YV hp (cY (hc pins s1 σ1 H1 _ I1 (turn n σ1 H1 w1)) λb s2 zz=>?_)
  obtain ⟨H2,I2,q2⟩:=zz
  cases b with
  | true=>
    obtain ⟨N,hN,q2⟩:=q2
    rw [if_pos rfl]
    refine YV hp (cY (hb pins s2 σ1 H2 _ I2 q2) λf s3 q3=>?_)
    cases f with
    | next=>
      obtain ⟨σ3,H3,I3,n3⟩:=q3
      obtain ⟨m',hm,w3⟩:=hN σ3 H3 n3
      exact ⟨m',hm,σ3,H3,I3,w3⟩
    | cont=>
      obtain ⟨σ3,H3,I3,n3⟩:=q3
      obtain ⟨m',hm,w3⟩:=hN σ3 H3 n3
      exact ⟨m',hm,σ3,H3,I3,w3⟩
    | brk=>exact q3
    | ret v=>exact q3
  | false=>
    rw [if_neg XF]
    exact Z9 ⟨σ1,H2,I2,q2⟩
end
structure It where
  go:Nat→Hp→Prop
  qX:Nat→Hp→V→Hp→Prop
  stop:Nat→Hp→Prop
variable {R:It→Hp→Prop}
noncomputable def kK (X:Cx) (pins:List (Addr×Obj)) (H:Hp) (b:Addr):Prop:=
  H b=none∧b≠X.env.locals∧b∉X.fs∧(b∈X.ex∨X.s₀.heap.objs.size≤b)∧(∀ x c,X.env.cells.lookup x=some c→c≠b)∧∀ p∈X.pn++pins,p.1≠b
theorem Inv.nG {H':Hp} (I:Inv X pins σ H s) (hb:s.heap.objs.size≤b) (hn:H' b=none):kK X pins H' b:=by
  refine ⟨hn,aaS (W0 I.lt hb),I.Pb hb,.inr (X5 I.sz hb),λx c e z=>?_,λp hp z=>?_⟩
  · obtain ⟨v,q⟩:=I.cell x c e
    exact absurd (W0 q.lt (by rw [z];exact hb)) (X7 _)
  · exact absurd (W0 (W3 (I.pin p hp).1) (by rw [z];exact hb)) (X7 _)
structure Turn (P:Xx) (w:XR) (K:WV) (tg:Expr) (J:It) (fp:List Addr) (it:Addr) (tn:Nat→Heap→Prop):Prop where
  mem:it∈fp
  obj:∀ i h,tn i h→∀ b∈fp,∃ o,h.get? b=some o∧∀ v,o.data≠.cell v
  keep:∀ i h h',tn i h→(∀ b∈fp,∀ o,h.get? b=some o→h'.get? b=some o)→tn i h'
  item:∀ (X:Cx),X.prog=P→X.w=w→X.K=K→X.calm=true→∀ (i:Nat) (pins:List (Addr×Obj)) (s:WT) (σ:St) (H:Hp) (E:V0→WT→Prop),Inv X pins σ H s→(∀ b∈fp,kK X pins H b)→tn i s.heap→J.go i H →
    Xe (model P w) X.A (pyNext (.ref it)) (λr s1=>∃ u,r=some u ∧
      Xe (model P w) X.A (letOwnedTupleGo tg (.ref it) u) (λ_ s2=>∃ x H',Inv X pins σ H' s2∧RelV x u∧J.qX i H x H'∧tn (i+1) s2.heap∧∀ b∈fp,H' b=none) E s1) E s
  done:∀ (X:Cx),X.prog=P→X.w=w→X.K=K→X.calm=true→∀ (i:Nat) (pins:List (Addr×Obj)) (s:WT) (σ:St) (H:Hp) (E:V0→WT→Prop),Inv X pins σ H s→(∀ b∈fp,kK X pins H b)→tn i s.heap→J.stop i H →
    Xe (model P w) X.A (pyNext (.ref it)) (λr s1=>r=none∧Inv X pins σ H s1) E s
  self:∀ (A:Around) (i:Nat) (s:WT) (Q:V0→WT→Prop) (E:V0→WT→Prop),tn i s.heap→Q (.ref it) s→Xe (model P w) A (pyIter (.ref it)) Q E s
noncomputable abbrev TI:=St→Hp→(It→Hp→Prop)→Prop
noncomputable def Pp (X:Cx) (pins:List (Addr×Obj)) (σ:St) (tg:Expr) (R:It→Hp→Prop) (itv:V0) (s2:WT):Prop:=
  ∃ (it:Addr) (fp:List Addr) (tn:Nat→Heap→Prop) (J:It) (H':Hp),itv=.ref it∧Inv X pins σ H' s2∧Turn X.prog X.w X.K tg J fp it tn∧tn 0 s2.heap∧(∀ b∈fp,kK X pins H' b)∧R J H'
noncomputable def PI (X:Cx) (tg iter:Expr) (wi:TI):Prop:=
  ∀ (pins:List (Addr×Obj)) (s:WT) (σ:St) (H:Hp) (R:It→Hp→Prop),Inv X pins σ H s→wi σ H R →
    Xe (model X.prog X.w) X.A (eval iter X.env) (λv s1=>Xe (model X.prog X.w) X.A (pyIter v) (Pp X pins σ tg R) X.xe s1) X.xe s
theorem oq {M:Model} {A:Around} {E:V0→WT→Prop} {tg:Expr} {u:V0} {o:Obj} {n:String} {Q:Unit→WT→Prop} (ho:s.heap.get? it=some o) (hc:o.cls=.type n) (hd:o.data=.fields vs)
    (hn:["enumerate","zip","dict_itemiterator","dict_reverseitemiterator","odict_iterator","itertools.zip_longest","itertools.pairwise"].contains n=false) (hQ:Q () s):Xe M A (letOwnedTupleGo tg (.ref it) u) Q E s:=by
  unfold letOwnedTupleGo
  cases tg<;>first
    | exact WY hQ
    | (cases u<;>first
        | exact WY hQ
        | (refine Us (aai ho ?_)
           rw [hc,hd]
           show Xe M A (if (["enumerate","zip","dict_itemiterator","dict_reverseitemiterator","odict_iterator","itertools.zip_longest","itertools.pairwise"].contains n&&vs[0]?==some (rawInt _))=true then _ else _) Q E s
           rw [if_neg (by intro h;rw [hn,Bool.false_and] at h;cases h)]
           exact WY hQ))
noncomputable def En (K:WV) (a:Addr):It:=
  ⟨λi H=>∃ xs x,jY K H a xs∧xs[i]?=some x,λi H x H'=>H'=H∧∀ xs,jY K H a xs→xs[i]?=some x,λi H=>∃ xs,jY K H a xs∧xs.length≤i⟩
noncomputable def OB (K:WV) (a:Addr):It:=
  ⟨λi H=>∃ xs x,kC K H a xs∧xs[i]?=some x,λi H x H'=>H'=H∧∀ xs,kC K H a xs→xs[i]?=some x,λi H=>∃ xs,kC K H a xs∧xs.length≤i⟩
noncomputable def qY (lo:Int) (n:Nat):It:=⟨λi _=>i<n,λi H x H'=>H'=H∧x=.int (lo+i),λi _=>n≤i⟩
theorem zO (a it:Addr):Turn P w K tg (En K a) [it] it (λi h=>h.IsListIter it a i) where
  mem:=by simp
  obj:=λi h st b hb=>by
    have e:b=it:=by simpa using hb
    subst e
    obtain ⟨o,e,c,d⟩:=st
    exact ⟨o,e,λv z=>by rw [d] at z;cases z⟩
  keep:=λi h h' st k=>st.at λo e=>k it (by simp) o e
  item:=by
    intro X hP hw hK hc i pins s σ H E I hf st hg
    subst hP hw hK
    obtain ⟨xs,x,hq,hx⟩:=hg
    obtain ⟨its,rv,p,hz⟩:=I.list hq
    obtain ⟨u,hu,ru⟩:=rv.get hx
    obtain ⟨f0,f1,f2,f3,f4,f5⟩:=hf it (by simp)
    refine wpAny_pyNext_list_item st p.isList (x:=u) (by simpa using hu) λh' st' sb=>?_
    have I1:Inv X pins σ H {s with heap:=h'}:=I.turned (t':=s.toks) (λb o hb e=>(sb.2 b hb).trans e) f0 f1 f3 f4 f5
    obtain ⟨o,e,c,d⟩:=id st'
    exact ⟨u,rfl,oq (s:={s with heap:=h'}) e c d (by decide) ⟨x,H,I1,ru,⟨rfl,λys hy=>by rw [I.lq hy hq];exact hx⟩,st',λb hb=>(hf b hb).1⟩⟩
  done:=by
    intro X hP hw hK hc i pins s σ H E I hf st hg
    subst hP hw hK
    obtain ⟨xs,hq,hx⟩:=hg
    obtain ⟨its,rv,p,hz⟩:=I.list hq
    obtain ⟨f0,f1,f2,f3,f4,f5⟩:=hf it (by simp)
    have hl:=rv.length
    exact wpAny_pyNext_list_end (I.ok.hd hc) st p.isList (by simp;nofun) λh' eb=>⟨rfl,I.turned (t':=s.toks) (λb o hb e=>eb b o hb e) f0 f1 f3 f4 f5⟩
  self:=λ_ _ _ _ _ st h=>wpAny_pyIter_listiter st h
theorem xu (a it:Addr):Turn P w K tg (OB K a) [it] it (λi h=>h.IsTupleIter it a i) where
  mem:=by simp
  obj:=λi h st b hb=>by
    have e:b=it:=by simpa using hb
    subst e
    obtain ⟨o,e,c,d⟩:=st
    exact ⟨o,e,λv z=>by rw [d] at z;cases z⟩
  keep:=λi h h' st k=>st.at λo e=>k it (by simp) o e
  item:=by
    intro X hP hw hK hc i pins s σ H E I hf st hg
    subst hP hw hK
    obtain ⟨xs,x,hq,hx⟩:=hg
    obtain ⟨its,rv,p,hz⟩:=I.tuple hq
    obtain ⟨u,hu,ru⟩:=rv.get hx
    obtain ⟨f0,f1,f2,f3,f4,f5⟩:=hf it (by simp)
    refine wpAny_pyNext_tuple_item st (show s.heap.IsTuple a its.toArray from p) (x:=u) (by simpa using hu) λh' st' sb=>?_
    have I1:Inv X pins σ H {s with heap:=h'}:=I.turned (t':=s.toks) (λb o hb e=>(sb.2 b hb).trans e) f0 f1 f3 f4 f5
    obtain ⟨o,e,c,d⟩:=id st'
    exact ⟨u,rfl,oq (s:={s with heap:=h'}) e c d (by decide) ⟨x,H,I1,ru,⟨rfl,λys hy=>by rw [I.mq hy hq];exact hx⟩,st',λb hb=>(hf b hb).1⟩⟩
  done:=by
    intro X hP hw hK hc i pins s σ H E I hf st hg
    subst hP hw hK
    obtain ⟨xs,hq,hx⟩:=hg
    obtain ⟨its,rv,p,hz⟩:=I.tuple hq
    obtain ⟨f0,f1,f2,f3,f4,f5⟩:=hf it (by simp)
    have hl:=rv.length
    exact wpAny_pyNext_tuple_end (I.ok.hd hc) st (show s.heap.IsTuple a its.toArray from p) (by simp;nofun) λh' eb=>⟨rfl,I.turned (t':=s.toks) (λb o hb e=>eb b o hb e) f0 f1 f3 f4 f5⟩
  self:=λ_ _ _ _ _ st h=>wpAny_pyIter_tupleiter st h
theorem xw (it:Addr) (lo:Int) (n:Nat):Turn P w K tg (qY lo n) [it] it (λi h=>IsRangeIter h it (lo+(i:Nat)*1) ((n:Int) - (i:Nat)) 1) where
  mem:=by simp
  obj:=λi h st b hb=>by
    have e:b=it:=by simpa using hb
    subst e
    exact ⟨_,st,λv z=>by
      have z':Data.fields _=Data.cell v:=z
      cases z'⟩
  keep:=λi h h' st k=>k it (by simp) _ st
  item:=by
    intro X hP hw hK hc i pins s σ H E I hf st hg
    subst hP hw hK
    obtain ⟨f0,f1,f2,f3,f4,f5⟩:=hf it (by simp)
    have W:=Walks.range (prog:=X.prog) (w:=X.w) (I.ok.hd hc) it lo 1 n
    refine ie I.os.2 (W.item i s _ _ hg st λv h' tk hv st' kk=>λht=>?_)
    obtain ⟨t,rfl⟩:=hv
    have I1:Inv X pins σ H {s with heap:=h',toks:=tk}:=I.turned (λb o hb e=>kk b o (by simpa using hb) e) f0 f1 f3 f4 f5
    refine ⟨_,rfl,oq (s:={s with heap:=h',toks:=tk}) (n:="range_iterator") st' rfl rfl (by decide) ⟨.int (lo+i),H,I1,⟨t,?_⟩,⟨rfl,rfl⟩,st',λb hb=>(hf b hb).1⟩⟩
    rw [Int.mul_one]
  done:=by
    intro X hP hw hK hc i pins s σ H E I hf st hg
    subst hP hw hK
    obtain ⟨f0,f1,f2,f3,f4,f5⟩:=hf it (by simp)
    exact aaT (I.ok.hd hc) st (by have:n≤i:=hg;nofun) λh' eb=>⟨rfl,I.turned (t':=s.toks) (λb o hb e=>eb b o hb e) f0 f1 f3 f4 f5⟩
  self:=λ_ _ _ _ _ st h=>aaU st h
section
variable {X:Cx} {tg:Expr}
theorem uN {E:V0→WT→Prop} {t u v:Tok} (I:Inv X pins σ H s) (h1:-(2^62)≤lo) (h2:lo<2^62) (h3:-(2^62)≤hi) (h4:hi<2^62)
    (q:R (qY lo (hi - lo).toNat) H) (ht:0<tk:=by first | exact XO _ | exact (Inv.os (by assumption)).2 | assumption | nofun):Xe (model X.prog X.w) X.A (pyIter (.ref s.heap.objs.size)) (Pp X pins σ tg R) E {s with heap:=s.heap.push {cls:=.type "range",data:=.fields #[.int lo t,.int hi u,.int 1 v]},toks:=tk}:=by
  refine abz (IsRange.new ..) (small_one h1 h2 h3 h4) ?_
  have I1:Inv X pins σ H {s with heap:=s.heap.push {cls:=.type "range",data:=.fields #[.int lo t,.int hi u,.int 1 v]},toks:=tk}:=I.kept λb o e=>WQ _ e
  refine ⟨(s.heap.push {cls:=.type "range",data:=.fields #[.int lo t,.int hi u,.int 1 v]}).objs.size,[(s.heap.push {cls:=.type "range",data:=.fields #[.int lo t,.int hi u,.int 1 v]}).objs.size],_,_,H,rfl,
    I1.kept (t':=tk) λb o e=>WQ _ e,xw _ lo (hi - lo).toNat,?_,λb hb=>?_,q⟩
  · have e1:lo+((0:Nat):Int)*1=lo:=by simp
    have e2:(((hi - lo).toNat:Nat):Int) - ((0:Nat):Int)=Yy lo hi 1:=by rw [rangeSize_one];split<;>nofun
    show IsRangeIter _ _ (lo+((0:Nat):Int)*1) ((((hi - lo).toNat:Nat):Int) - ((0:Nat):Int)) 1
    rw [e1,e2]
    exact W5 _ rfl
  · have e:b=(s.heap.push {cls:=.type "range",data:=.fields #[.int lo t,.int hi u,.int 1 v]}).objs.size:=by simpa using hb
    subst e
    exact I1.nG (WZ _) (I1.hok.fresh (WZ _))
noncomputable def HN (ta:TA):TI:=λσ H R=>ta σ H λvs H1=>∃ j:Int,vs=[.int j]∧-(2^62)≤j∧j<2^62∧R (qY 0 j.toNat) H1
noncomputable def HP (ta:TA):TI:=λσ H R=>ta σ H λvs H1=>∃ i j:Int,vs=[.int i,.int j]∧(-(2^62)≤i∧i<2^62∧-(2^62)≤j∧j<2^62)∧R (qY i (j - i).toNat) H1
theorem qZ {a:Expr} {p:Pos} (hg:Gl X "range") (hm:X.mg "range"=none) (ha:PA X [a] ta) (hs:Xh [a] X.env=[(false,eval a X.env)]:=by rfl):PI X tg (.Call (.Name "range" p) [a] [] pos) (HN ta):=by
  intro pins s σ H R I h
  refine Call_ (fq I hg hm boot_range (Xr (cY (ha pos pins s σ H _ I h) λus s1 zz=>?_) hs rfl))
  obtain ⟨vs,H1,I1,r1,q1⟩:=zz
  obtain ⟨j,e,q1,q2,q⟩:=q1
  subst e
  cases r1 with
  | cons r rr=>
    cases rr
    obtain ⟨t,rfl⟩:=r
    exact call_range_1 (uN I1 (by nofun) (by nofun) q1 q2 (by simpa using q))
theorem zP {a b:Expr} {p pos:Pos} (hg:Gl X "range") (hm:X.mg "range"=none) (ha:PA X [a,b] ta) (hs:Xh [a,b] X.env=[(false,eval a X.env),(false,eval b X.env)]:=by rfl) (hs2:Xh [b] X.env=[(false,eval b X.env)]:=by rfl) :
    PI X tg (.Call (.Name "range" p) [a,b] [] pos) (HP ta):=by
  intro pins s σ H R I h
  refine Call_ (fq I hg hm boot_range (Xr (cY (ha pos pins s σ H _ I h) λus s1 zz=>?_) (by rw [hs,hs2]) (by rw [hs2];rfl)))
  obtain ⟨vs,H1,I1,r1,q1⟩:=zz
  obtain ⟨i,j,e,⟨q1,q2,q3,q4⟩,q⟩:=q1
  subst e
  cases r1 with
  | cons r rr=>
    cases rr with
    | cons r' rr=>
      cases rr
      obtain ⟨t,rfl⟩:=r
      obtain ⟨t',rfl⟩:=r'
      exact call_range_2 (uN I1 q1 q2 q3 q4 q)
noncomputable def Pq (wi:TI) (g:TG) (tb:TS):TS:=λD σ H=>wi σ H λJ H1=>∃ W:Nat→Nat→St→Hp→Prop,(∃ m,W 0 m σ H1)∧∀ i m σ H,W i m σ H →
  (J.stop i H∧D.nx σ H)∨(J.go i H∧∃ N:St→Hp→Prop,(∀ σ' H',N σ' H'→∃ m',m'<m∧W (i+1) m' σ' H')∧∀ x H',J.qX i H x H'→g x σ H' λσ2 H2=>tb {D with nx:=N,ct:=N,bk:=D.nx} σ2 H2)
noncomputable def mw (fp:List Addr) (h:Heap):List (Addr×Obj):=fp.filterMap λb=>(h.get? b).map λo=>(b,o)
theorem iZ {o:Obj} (hb:b∈fp) (e:h.get? b=some o):(b,o)∈mw fp h:=aaj.mpr ⟨b,hb,by rw [e];rfl⟩
theorem zQ (hp:p∈mw fp h):p.1∈fp∧h.get? p.1=some p.2:=by
  obtain ⟨b,hb,e⟩:=aaj.mp hp
  cases q:h.get? b with
  | none=>rw [q] at e;cases e
  | some o=>
    rw [q] at e
    have e':(b,o)=p:=XJ e
    subst e'
    exact ⟨hb,q⟩
theorem Inv.pinned (I:Inv X pins σ H s) (hf:∀ b∈fp,kK X pins H b) (ho:∀ b∈fp,∃ o,s.heap.get? b=some o∧∀ v,o.data≠.cell v):Inv X (pins++mw fp s.heap) σ H s:=
  I.sP λp hp=>(Xy.mp hp).elim (λz=>I.pin p (X0 _ z)) λz=>by
    obtain ⟨hb,e⟩:=zQ z
    obtain ⟨f0,f1,f2,_⟩:=hf p.1 hb
    obtain ⟨o,e',d⟩:=ho p.1 hb
    rw [e] at e';cases e'
    exact ⟨e,f0,f1,f2,d⟩
theorem Inv.ou {pl:List (Addr×Obj)} (I:Inv X (pins++pl) σ H s):Inv X pins σ H s:=I.sP λp hp=>I.pin p (X0 _ (Yt _ hp))
theorem xx {wi:TI} {g:TG} {pos:Pos} (hp:PassesOwn (model X.prog X.w) X.A X.env X.xe) (hc:X.calm=true) (hi:PI X tg iter wi) (hg:PG X tg g) (hb:xq X body tb)
    (hs:∀ x,foldedSetIterable iter X.env x=pure x:=by intro _;rfl):PS X (.For tg iter body [] pos) (Pq wi g tb):=by
  intro pins s σ H D I h
  refine wpAny_For (cY (hi pins s σ H _ I h) λv s1 h1=>cY h1 λitv s2 h2=>?_) hs
  obtain ⟨it,fp,tn,J,H2,e,I2,T,st2,f2,W,⟨m0,w0⟩,turn⟩:=h2
  subst e
  have IZ:∀ {H':Hp},(∀ b∈fp,H' b=none)→∀ b∈fp,kK X pins H' b:=λhn b hb=>⟨hn b hb,(f2 b hb).2⟩
  refine codeAny_forLoop_any (λn s'=>∃ i σ' H',Inv X pins σ' H' s'∧tn i s'.heap∧(∀ b∈fp,H' b=none)∧W i n σ' H') ?_ m0 ⟨0,σ,H2,I2,st2,λb hb=>(f2 b hb).1,w0⟩
  rintro n s3 ⟨i,σ3,H3,I3,st3,Rv,w3⟩
  rcases turn i n σ3 H3 w3 with ⟨stop,qn⟩ | ⟨go,N,hN,step⟩
  · refine YV hp (cY (T.done X rfl rfl rfl hc i pins s3 σ3 H3 X.xe I3 (IZ Rv) st3 stop) λr s4 zz=>?_)
    obtain ⟨hr,I4⟩:=zz
    subst hr
    exact Z9 ⟨σ3,H3,I4,qn⟩
  · refine YV hp (cY (T.item X rfl rfl rfl hc i pins s3 σ3 H3 X.xe I3 (IZ Rv) st3 go) λr s4 zz=>?_)
    obtain ⟨u,hr,h4⟩:=zz
    subst hr
    refine YV hp (cY h4 λ_ s5 zz=>?_)
    obtain ⟨x,H5,I5,r5,y5,LM,OC⟩:=zz
    have SN:=I5.pinned (IZ OC) (T.obj _ _ LM)
    refine YV hp (cY (hg _ s5 σ3 H5 x u _ SN r5 (step x H5 y5)) λ_ s6 zz=>?_)
    obtain ⟨σ6,H6,I6,q6⟩:=zz
    refine YV hp (cY (hb _ s6 σ6 H6 _ I6 q6) λf s7 q7=>?_)
    have again:∀ {σ7:St} {H7:Hp},Inv X (pins++mw fp s5.heap) σ7 H7 s7→N σ7 H7→∃ m,m<n∧∃ i σ' H',Inv X pins σ' H' s7∧tn i s7.heap∧(∀ b∈fp,H' b=none)∧W i m σ' H':=λ{σ7 H7} I7 n7=>by
      obtain ⟨m',hm,w7⟩:=hN σ7 H7 n7
      refine ⟨m',hm,i+1,σ7,H7,I7.ou,T.keep _ _ _ LM λb hb o e=>(I7.pin (b,o) (X0 _ (X0 _ (iZ hb e)))).1,λb hb=>?_,w7⟩
      obtain ⟨o,e,d⟩:=T.obj _ _ LM b hb
      exact (I7.pin (b,o) (X0 _ (X0 _ (iZ hb e)))).2.1
    cases f with
    | next=>obtain ⟨σ7,H7,I7,n7⟩:=q7;exact again I7 n7
    | cont=>obtain ⟨σ7,H7,I7,n7⟩:=q7;exact again I7 n7
    | brk=>obtain ⟨σ7,H7,I7,q7⟩:=q7;exact ⟨σ7,H7,I7.ou,q7⟩
    | ret v=>obtain ⟨x7,σ7,H7,I7,r7,q7⟩:=q7;exact ⟨x7,σ7,H7,I7.ou,r7,q7⟩
end
noncomputable abbrev R2:=V→V→Hp→VK→Prop
variable {r:R2}
noncomputable def iK (X:Cx) (f:V0→V0→Sem V0) (r:R2):Prop:=
  ∀ (pins:List (Addr×Obj)) (s:WT) (σ:St) (H:Hp) (x y:V) (v u:V0) (Q:VK),Inv X pins σ H s→RelV x v→RelV y u→r x y H Q →
    Xe (model X.prog X.w) X.A (f v u) (EP X pins σ Q) X.xe s
noncomputable def Pu (X:Cx) (f:V0→Sem V0) (r:V→Hp→VK→Prop):Prop:=
  ∀ (pins:List (Addr×Obj)) (s:WT) (σ:St) (H:Hp) (x:V) (v:V0) (Q:VK),Inv X pins σ H s→RelV x v→r x H Q →
    Xe (model X.prog X.w) X.A (f v) (EP X pins σ Q) X.xe s
noncomputable def eF (X:Cx) (f:V0) (r:List V→Hp→VK→Prop):Prop:=
  ∀ (pins:List (Addr×Obj)) (s:WT) (σ:St) (H:Hp) (xs:List V) (us:List V0) (Q:VK),Inv X pins σ H s→Vals xs us→r xs H Q →
    Xe (model X.prog X.w) X.A (call f us) (EP X pins σ Q) X.xe s
noncomputable def Pw (X:Cx) (r:V→Hp→(Bool→Hp→Prop)→Prop):Prop:=
  ∀ (pins:List (Addr×Obj)) (s:WT) (σ:St) (H:Hp) (x:V) (v:V0) (Q:Bool→Hp→Prop),Inv X pins σ H s→RelV x v→r x H Q →
    Xe (model X.prog X.w) X.A (truthy v) (TP X pins σ Q) X.xe s
noncomputable def Mr (r:R2) (ta tb:TE):TE:=λσ H Q=>ta σ H λx H1=>tb σ H1 λy H2=>r x y H2 Q
noncomputable def SO (r:V→Hp→VK→Prop) (ta:TE):TE:=λσ H Q=>ta σ H λx H1=>r x H1 Q
noncomputable def rI (C:Int→Int→Prop) (g:Int→Int→V):R2:=λx y H Q=>∃ i j,x=.int i∧y=.int j∧C i j∧Q (g i j) H
noncomputable def BE (g:Int→Int→V):R2:=λx y H Q=>∃ i j,x=.int i∧y=.int j∧Q (g i j) H
noncomputable def rU (g:Int→V):V→Hp→VK→Prop:=λx H Q=>∃ i,x=.int i∧Q (g i) H
section
variable {X:Cx} {a b c:Expr} {ta tb tc:TE} {pos:Pos}
theorem I8 (ha:PE X a ta) (hb:PE X b tb) {pins:List (Addr×Obj)} {s:WT} {σ:St} {H:Hp} {R:V→V→Hp→Prop} (I:Inv X pins σ H s)
    (h:ta σ H λx H1=>tb σ H1 λy H2=>R x y H2) {Q:V0→WT→Prop} {f:V0→V0→Sem V0}
    (hf:∀ v u s2 x y H2,Inv X pins σ H2 s2→RelV x v→RelV y u→R x y H2→Xe (model X.prog X.w) X.A (f v u) Q X.xe s2) :
    Xe (model X.prog X.w) X.A (eval a X.env) (λv s₁=>Xe (model X.prog X.w) X.A (eval b X.env) (λu s₂=>Xe (model X.prog X.w) X.A (f v u) Q X.xe s₂) X.xe s₁) X.xe s:=by
  refine cY (ha pins s σ H _ I h) λv s1 zz=>?_
  obtain ⟨x,H1,I1,r1,q1⟩:=zz
  refine cY (hb pins s1 σ H1 _ I1 q1) λu s2 zz=>?_
  obtain ⟨y,H2,I2,r2,q2⟩:=zz
  exact hf v u s2 x y H2 I2 r1 r2 q2
theorem Ms {op:Operator} (ho:iK X (binaryOp op) r) (ha:PE X a ta) (hb:PE X b tb):PE X (.BinOp a op b pos) (Mr r ta tb):=by
  intro pins s σ H Q I h
  exact wpAny_BinOp (I8 ha hb I h λv u s2 x y H2 I2 rx ry q=>ho pins s2 σ H2 x y v u Q I2 rx ry q)
theorem Mt {op:UnaryOp} {r:V→Hp→VK→Prop} (ho:Pu X (unaryOp op) r) (ha:PE X a ta):PE X (.UnaryOp op a pos) (SO r ta):=by
  intro pins s σ H Q I h
  exact UnaryOp_ (cY (ha pins s σ H _ I h) λv s1 zz=>by obtain ⟨x,H1,I1,r1,q1⟩:=zz;exact ho pins s1 σ H1 x v Q I1 r1 q1)
theorem LN {f:V0→V0→Sem V0} {C:Int→Int→Prop}
    (rule:∀ (i j:Int) (t u:Tok) (s:WT) (Q:V0→WT→Prop) (E:V0→WT→Prop),C i j→Q (.int (g i j) s.toks) {s with toks:=s.toks+1}→Xe (model X.prog X.w) X.A (f (.int i t) (.int j u)) Q E s) :
    iK X f (rI C λi j=>.int (g i j)):=by
  intro pins s σ H x y v u Q I rx ry h
  obtain ⟨i,j,rfl,rfl,hc,q⟩:=h
  obtain ⟨t,rfl⟩:=rx
  obtain ⟨t',rfl⟩:=ry
  exact rule i j t t' s _ _ hc ⟨.int (g i j),H,I.tok _,⟨_,rfl⟩,q⟩
theorem BF {f:V0→V0→Sem V0}
    (rule:∀ (i j:Int) (t u:Tok) (s:WT) (Q:V0→WT→Prop) (E:V0→WT→Prop),Q (.int (g i j) s.toks) {s with toks:=s.toks+1}→Xe (model X.prog X.w) X.A (f (.int i t) (.int j u)) Q E s) :
    iK X f (BE λi j=>.int (g i j)):=by
  intro pins s σ H x y v u Q I rx ry h
  obtain ⟨i,j,rfl,rfl,q⟩:=h
  obtain ⟨t,rfl⟩:=rx
  obtain ⟨t',rfl⟩:=ry
  exact rule i j t t' s _ _ ⟨.int (g i j),H,I.tok _,⟨_,rfl⟩,q⟩
theorem Ja {g:Int→Int→Bool}
    (rule:∀ (i j:Int) (t u:Tok) (s:WT) (Q:V0→WT→Prop) (E:V0→WT→Prop),Q (.bool (g i j)) s→Xe (model X.prog X.w) X.A (f (.int i t) (.int j u)) Q E s) :
    iK X f (BE λi j=>.bl (g i j)):=by
  intro pins s σ H x y v u Q I rx ry h
  obtain ⟨i,j,rfl,rfl,q⟩:=h
  obtain ⟨t,rfl⟩:=rx
  obtain ⟨t',rfl⟩:=ry
  exact rule i j t t' s _ _ ⟨.bl (g i j),H,I,rfl,q⟩
noncomputable def Px (i j:Int):Prop:=0<j∧j<1073741824
noncomputable def EG (i j:Int):Prop:=0≤j∧j≤1000000∧i.natAbs<2^64
noncomputable def Jb (i j:Int):Prop:=(-(2^64)<i∧i<2^64)∨(-(2^64)<j∧j<2^64)
theorem Jb.ok {i j:Int} (h:Jb i j):IntMulOk i j:=by
  rcases h with ⟨h1,h2⟩ | ⟨h1,h2⟩
  · exact .of_left (intBits_le_64 h1 h2)
  · exact .of_right (intBits_le_64 h1 h2)
theorem xy (k:Nat):(0:Int)≤2^k:=by
  rw [two_pow_cast]
  exact Int.natCast_nonneg _
theorem Jc:iK X (binaryOp .Add) (BE λi j=>.int (i+j)):=BF λ_ _ _ _ _ _ _ q=>add_int q
theorem Jd:iK X (binaryOp .Sub) (BE λi j=>.int (i - j)):=BF λ_ _ _ _ _ _ _ q=>sub_int q
theorem Je:iK X (binaryOp .Mult) (rI Jb λi j=>.int (i*j)):=LN λ_ _ _ _ _ _ _ hc q=>mul_int q hc.ok
theorem EH:iK X (binaryOp .FloorDiv) (rI Px λi j=>.int (i / j)):=LN λi j _ _ _ _ _ hc q=>by
  have h1:(0:Int)<j:=hc.1
  have h2:j<1073741824:=hc.2
  exact floordiv_int (by nofun) (by rw [aak i (by nofun)];exact q) (.inl (aaV (by nofun)))
theorem Jf:iK X (binaryOp .Mod) (rI (λ_ j=>0<j) λi j=>.int (i % j)):=LN λi j _ _ _ _ _ hc q=>by
  have h1:(0:Int)<j:=hc
  exact mod_int' (by nofun) (by rw [Int.fmod_eq_emod_of_nonneg i (by nofun)];exact q)
theorem Jg:iK X (binaryOp .Pow) (rI EG λi j=>.int (i^j.toNat)):=LN λ_ _ _ _ _ _ _ hc q=>pow_int_small hc.1 hc.2.1 hc.2.2 q
theorem Jh:iK X (binaryOp .LShift) (rI EG λi j=>.int (i*2^j.toNat)):=LN λ_ _ _ _ _ _ _ hc q=>lshift_int_small hc.1 hc.2.1 hc.2.2 q
theorem Ji:iK X (binaryOp .RShift) (rI (λ_ j=>0≤j) λi j=>.int (i / 2^j.toNat)):=LN λi j _ _ _ _ _ hc q=>
  rshift_int hc (by rw [aak i (xy _)];exact q)
theorem Jj:iK X (binaryOp .BitAnd) (BE λi j=>.int (Yu i j)):=BF λ_ _ _ _ _ _ _ q=>and_int q
theorem Mu:iK X (binaryOp .BitOr) (BE λi j=>.int (YF i j)):=BF λ_ _ _ _ _ _ _ q=>or_int q
theorem Jk:iK X (binaryOp .BitXor) (BE λi j=>.int (Yc i j)):=BF λ_ _ _ _ _ _ _ q=>xor_int q
theorem SQ {f:V0→Sem V0} {g:Int→Int}
    (rule:∀ (i:Int) (t:Tok) (s:WT) (Q:V0→WT→Prop) (E:V0→WT→Prop),Q (.int (g i) s.toks) {s with toks:=s.toks+1}→Xe (model X.prog X.w) X.A (f (.int i t)) Q E s) :
    Pu X f (rU λi=>.int (g i)):=by
  intro pins s σ H x v Q I rx h
  obtain ⟨i,rfl,q⟩:=h
  obtain ⟨t,rfl⟩:=rx
  exact rule i t s _ _ ⟨.int (g i),H,I.tok _,⟨_,rfl⟩,q⟩
theorem Jl:Pu X (unaryOp .USub) (rU λi=>.int (-i)):=SQ λ_ _ _ _ _ q=>neg_int q
end
section
variable {X:Cx} {a b c:Expr} {ta tb tc:TE} {pos:Pos}
theorem Jm {Q:VK} {k:Bool} (I:Inv X pins σ H s) (q:Q (.bl k) H) (e:k=k'):EP X pins σ Q (.bool k') s:=by
  subst e
  exact ⟨.bl k,H,I,rfl,q⟩
theorem Mv:iK X (compareOp .Lt) (BE λi j=>.bl (decide (i<j))):=Ja λ_ _ _ _ _ _ _ q=>lt_int q
theorem Mw:iK X (compareOp .Gt) (BE λi j=>.bl (decide (j<i))):=Ja λ_ _ _ _ _ _ _ q=>gt_int q
theorem Mx:iK X (compareOp .GtE) (BE λi j=>.bl (decide (j≤i))):=Ja λ_ _ _ _ _ _ _ q=>ge_int q
theorem zR:iK X (compareOp .In) (λx y H Q=>∃ i j,x=.str i∧y=.str j∧Q (.bl (!(aaG j i 0 j.length 1).isEmpty)) H):=by
  intro pins s σ H x y v u Q I rx ry h
  obtain ⟨i,j,rfl,rfl,q⟩:=h
  obtain ⟨t,rfl⟩:=rx
  obtain ⟨t',rfl⟩:=ry
  exact in_str (Jm I q rfl)
theorem iK.or {r':R2} (h:iK X f r) (h':iK X f r'):iK X f (λx y H Q=>r x y H Q∨r' x y H Q):=by
  intro pins s σ H x y v u Q I rx ry q
  rcases q with q | q
  · exact h pins s σ H x y v u Q I rx ry q
  · exact h' pins s σ H x y v u Q I rx ry q
theorem Jo (b:Expr) {op:CmpOp} (h:op≠.In:=by decide) (h2:op≠.NotIn:=by decide):behindInMarks op b=false:=by
  have e1:(op==CmpOp.In)=false:=by cases op<;>first | rfl | exact absurd rfl h
  have e2:(op==CmpOp.NotIn)=false:=by cases op<;>first | rfl | exact absurd rfl h2
  cases b<;>simp [behindInMarks,e1,e2]
theorem EI (ho:iK X (compareOp op) r) (ha:PE X a ta) (hb:PE X b tb) (hm:behindInMarks op b=false):PE X (.Compare a [op] [b] pos) (Mr r ta tb):=by
  intro pins s σ H Q I h
  exact wpAny_Compare1 (I8 ha hb I h λv u s2 x y H2 I2 rx ry q=>ho pins s2 σ H2 x y v u Q I2 rx ry q) hm
noncomputable def My (t:TE):TT:=λσ H Q=>t σ H λx H'=>∃ k,x=.bl k∧Q k H'
theorem EJ (ho:iK X (compareOp op) r) (ha:PE X a ta) (hb:PE X b tb) (hm:behindInMarks op b=false):PT X (.Compare a [op] [b] pos) (My (Mr r ta tb)):=by
  intro pins s σ H Q I h
  refine wpAny_isTrue_Compare1 (cY (ha pins s σ H _ I h) λv s1 ⟨x,H1,I1,r1,q1⟩=>cY (hb pins s1 σ H1 _ I1 q1) λu s2 ⟨y,H2,I2,r2,q2⟩=>
    cY (ho pins s2 σ H2 x y v u _ I2 r1 r2 q2) λc s3 ⟨z,H3,I3,r3,k,e,q3⟩=>?_) hm
  subst e
  cases r3
  exact Zm ⟨H3,I3,q3⟩
noncomputable def Jp (K:WV) (x:V) (H:Hp) (k:Bool):Prop:=
  match x with
  | .eO=>k=false
  | .bl b=>k=b
  | .int i=>k=(i != 0)
  | .str y=>y.length≤WO∧k=((y.length:Int) != 0)
  | .L4 y=>y.size≤WO∧k=((y.size:Int) != 0)
  | .ref p=>(∃ xs,jY K H p xs∧k=!xs.isEmpty)∨(∃ xs,kC K H p xs∧k=!xs.isEmpty)∨∃ kvs,H p=some (.dK kvs)∧k=!kvs.isEmpty
  | _=>False
theorem xA {κ:Type} {kvs:List (κ×V)} {vs:List (κ×V0)} (r:KV kvs vs):(!vs.isEmpty)=!kvs.isEmpty:=by
  cases r<;>rfl
theorem oz (r:Vals xs its):(!its.toArray.isEmpty)=!xs.isEmpty:=by
  cases r<;>simp
theorem mz:(WO:Nat)<2^63:=by rw [sizeLine_eq];decide
theorem Jq:Pw X (λx H Q=>∃ k,Jp X.K x H k∧Q k H):=by
  intro pins s σ H x v Q I rx h
  obtain ⟨k,e,q⟩:=h
  have hl:=mz
  have hs:WO=16777216:=sizeLine_eq
  cases x with
  | eO=>
    cases rx
    have e':k=false:=e
    subst e'
    exact truthy_none ⟨H,I,q⟩
  | bl b=>
    cases rx
    have e':k=b:=e
    subst e'
    exact Zm ⟨H,I,q⟩
  | int i=>
    obtain ⟨t,rfl⟩:=rx
    have e':k=(i != 0):=e
    subst e'
    exact PySem.P.truthy_int ⟨H,I,q⟩
  | str y=>
    obtain ⟨t,rfl⟩:=rx
    obtain ⟨hy,e'⟩:y.length≤WO∧k=((y.length:Int) != 0):=e
    subst e'
    exact PySem.P.truthy_str (by nofun) ⟨H,I.tok _,q⟩
  | L4 y=>
    obtain ⟨t,rfl⟩:=rx
    obtain ⟨hy,e'⟩:y.size≤WO∧k=((y.size:Int) != 0):=e
    subst e'
    exact PySem.W.truthy_bytes (by nofun) ⟨H,I.tok _,q⟩
  | ref p=>
    cases rx
    have e':(∃ xs,jY X.K H p xs∧k=!xs.isEmpty)∨(∃ xs,kC X.K H p xs∧k=!xs.isEmpty)∨∃ kvs,H p=some (.dK kvs)∧k=!kvs.isEmpty:=e
    rcases e' with ⟨xs,hx,e'⟩ | ⟨xs,hx,e'⟩ | ⟨kvs,hx,e'⟩
    · subst e'
      obtain ⟨its,r,pl,hz⟩:=I.list hx
      have hlen:=r.length
      exact wpAny_truthy_list pl.isList (by simp only [Xg];nofun) ⟨H,I.tok _,by rw [oz r];exact q⟩
    · subst e'
      obtain ⟨its,r,pl,hz⟩:=I.tuple hx
      have hlen:=r.length
      exact truthy_tuple pl (by simp only [Xg];nofun) ⟨H,I.tok _,by rw [oz r];exact q⟩
    · subst e'
      obtain ⟨hz,hS,vs,r,m⟩:kvs.length≤WO∧(p==sysModules)=false∧∃ vs,KV kvs vs∧s.heap.DictOf (cM X.prog X.w) p vs:=I.hok p _ hx
      have hlen:kvs.length=vs.length:=Z4 r
      exact wpAny_truthy_dict hS m (by nofun) ⟨H,I.tok _,by rw [xA r];exact q⟩
  | _=>exact (show False from e).elim
theorem BG (ha:PE X a ta) (he:∀ whole,isTrue a X.env whole=(do let v ← whole;standAt a.pos;holding [v] (truthy v))) :
    PT X a (λσ H Q=>ta σ H λx H'=>∃ k,Jp X.K x H' k∧Q k H'):=by
  intro pins s σ H Q I h
  exact isTrue_plain (cY (ha pins s σ H _ I h) λv s1 zz=>by obtain ⟨x,H1,I1,r1,q1⟩:=zz;exact Jq pins s1 σ H1 x v Q I1 r1 q1) (he _)
theorem xB:iK X (binaryOp .Add) (λx y H Q=>∃ i j,x=.str i∧y=.str j∧i.length+j.length≤WO∧Q (.str (i++j)) H):=by
  intro pins s σ H x y v u Q I rx ry h
  obtain ⟨i,j,rfl,rfl,hz,q⟩:=h
  obtain ⟨t,rfl⟩:=rx
  obtain ⟨t',rfl⟩:=ry
  exact ie I.os.2 (add_str (λt' tk ht=>⟨.str (i++j),H,I.tok _,⟨_,rfl⟩,q⟩) hz)
theorem vals1 {x:V} (r:Vals [x] us):∃ u,us=[u]∧RelV x u:=by
  cases r with
  | cons r1 r2=>cases r2;exact ⟨_,rfl,r1⟩
theorem vals2 {x:V} (r:Vals [x,y] us):∃ u w',us=[u,w']∧RelV x u∧RelV y w':=by
  cases r with
  | cons r1 r2=>
    cases r2 with
    | cons r3 r4=>cases r4;exact ⟨_,_,rfl,r1,r3⟩
theorem zS (hc:X.calm=true):eF X (.builtin "max") (λxs H Q=>∃ i j,xs=[.int i,.int j]∧Q (.int (if j > i then j else i)) H):=by
  intro pins s σ H xs us Q I r h
  obtain ⟨i,j,rfl,q⟩:=h
  obtain ⟨u,w',rfl,⟨t,rfl⟩,⟨t',rfl⟩⟩:=vals2 r
  refine ie I.os.2 <| max_two_ints (I.ok.hd hc) λh' tk k ht=>⟨_,H,I.kept k,?_,q⟩
  by_cases hj:j > i
  · rw [if_pos hj,if_pos hj];exact ⟨_,rfl⟩
  · rw [if_neg hj,if_neg hj];exact ⟨_,rfl⟩
theorem zT (hc:X.calm=true):eF X (.builtin "min") (λxs H Q=>∃ i j,xs=[.int i,.int j]∧Q (.int (if j<i then j else i)) H):=by
  intro pins s σ H xs us Q I r h
  obtain ⟨i,j,rfl,q⟩:=h
  obtain ⟨u,w',rfl,⟨t,rfl⟩,⟨t',rfl⟩⟩:=vals2 r
  refine ie I.os.2 <| min_two_ints (I.ok.hd hc) λh' tk k ht=>⟨_,H,I.kept k,?_,q⟩
  by_cases hj:j<i
  · rw [if_pos hj,if_pos hj];exact ⟨_,rfl⟩
  · rw [if_neg hj,if_neg hj];exact ⟨_,rfl⟩
theorem q8:eF X (.type "int") (λxs H Q=>(∃ i,xs=[.int i]∧Q (.int i) H)∨∃ k,xs=[.bl k]∧Q (.int (if k then 1 else 0)) H):=by
  intro pins s σ H xs us Q I r h
  rcases h with ⟨i,rfl,q⟩ | ⟨k,rfl,q⟩
  · obtain ⟨u,rfl,t,rfl⟩:=vals1 r
    exact call_int_int ⟨.int i,H,I,⟨_,rfl⟩,q⟩
  · obtain ⟨u,rfl,r1⟩:=vals1 r
    cases r1
    exact call_int_bool ⟨.int (if k then 1 else 0),H,I.tok _,⟨_,rfl⟩,q⟩
end
structure Mz (h:Heap) (x dx C:Addr) (mA:Str→Option V0):Prop where
  obj:h.get? x=some (YU C dx)
  ns:h.Ns1 dx mA
  ne:dx≠x
theorem zU (n:h.Ns1 dx mA):∃ od,h.get? dx=some od∧∀ name,abh name od=some (mA name):=by
  obtain ⟨o,es,ep,ho,hd,hk,_,hm⟩:=n
  refine ⟨o,ho,λname=>?_⟩
  have e:=hm name
  unfold nsFind findBy at e
  rw [← Array.find?_toList] at e
  unfold abh
  rw [hd]
  dsimp only
  split
  · rename_i y q
    rw [q] at e
    exact congrArg some e
  · rename_i q
    rw [q] at e
    have a:es.toList.any (·.refKey)=false:=by
      rw [List.any_eq_false]
      intro y hy
      obtain ⟨z,t,hkey⟩:=hk y (Array.mem_toList_iff.mp hy)
      simp [DictEntry.refKey,hkey]
    have a':¬ es.toList.any (·.refKey)=true:=by rw [a];exact XF
    rw [if_neg a']
    exact congrArg some e
theorem Mz.look {x:Addr} (I:Mz h x dx C mA):∃ od,PySem.W.InstAt h x (YU C dx) C (some od)∧∀ name,abh name od=some (mA name):=
  let ⟨od,ho,hl⟩:=zU I.ns
  ⟨od,⟨I.obj,rfl,rfl,ho⟩,hl⟩
theorem nF.some_of {o:Option V0} (r:nF (some v) o):∃ u,o=some u∧RelV v u:=by
  cases o with
  | none=>exact (show False from r).elim
  | some u=>exact ⟨u,rfl,r⟩
structure SR (K:WV) (C:Addr):Prop where
  pg:PySem.W.plainGet K C Str.empty=true
  hd:PySem.W.hasDictIn K C=true
  po:PySem.W.plainOver K C=true
  sa:ZK K (.ref C) "__setattr__"=some (some (.builtin "object.__setattr__"))
structure VQ (K:WV) (C:Addr) (f:Str) (v:V) (u:V0):Prop where
  at_:ZK K (.ref C) f=some (some u)
  rel:RelV v u
  get:abG K u "__get__"=some none
  cp:PySem.W.copiedNames.contains f=false
structure Meth (K:WV) (C:Addr) (m:Str) (f:Addr):Prop where
  at_:ZK K (.ref C) m=some (some (.ref f))
  fn:PySem.W.isFn K (.ref f)=true
  kp:XX K (.ref f)=true
section
variable {X:Cx} {pins:List (Addr×Obj)} {σ:St} {H:Hp} {s:WT} {a C dx:Addr} {fs:List (Str×V)} {f:Str} {v:V} {A:Around} {E:V0→WT→Prop}
theorem Inv.made (I:Inv X pins σ H s):Inv X pins σ (upd (upd H s.heap.objs.size (.own (s.heap.objs.size+1))) (s.heap.objs.size+1) (.ins C s.heap.objs.size []))
    {s with heap:=(s.heap.push Yi).push (YU C s.heap.objs.size)}:=by
  have e1:(s.heap.push Yi).get? s.heap.objs.size=some Yi:=W5 s.heap rfl
  have e2:((s.heap.push Yi).push (YU C s.heap.objs.size)).get? (s.heap.objs.size+1)=some (YU C s.heap.objs.size):=by
    have:=W5 (s.heap.push Yi) (o:=YU C s.heap.objs.size) rfl
    rwa [XY] at this
  have e3:(s.heap.push Yi).Ns s.heap.objs.size (λ_=>none):=⟨Yi,#[],_,e1,rfl,(λe he=>absurd he (by simp)),λ_=>rfl⟩
  have I1:=I.laid (a:=s.heap.objs.size) (o:=.own (s.heap.objs.size+1)) (h':=s.heap.push Yi) (t':=s.toks) (λb u q=>WQ _ q) (WZ _) ⟨_,e1⟩
  refine I1.laid (a:=s.heap.objs.size+1) (o:=.ins C s.heap.objs.size []) (t':=s.toks) (λb u q=>WQ _ q) (Nat.le_of_eq (XY _ _)) ?_
  have ne:s.heap.objs.size≠s.heap.objs.size+1:=Xa (YI _)
  refine ⟨by rw [az ne,aM],XQ _,ne,e2,λ_=>none,(Heap.Ns1.of_empty e3).at λo q=>WQ _ q,λ_=>Zp,λy hy=>absurd rfl hy⟩
end
section
variable {X:Cx} {pins:List (Addr×Obj)} {σ:St} {H:Hp} {s:WT} {A:Around} {E:V0→WT→Prop} {Q:V0→WT→Prop} {c:V0} {b:Bool}
inductive oA (K:WV) (H:Hp):V→V0→Prop where
  | eO:oA K H .eO (.type "NoneType")
  | bl (x:Bool):oA K H (.bl x) (.type "bool")
  | int (i:Int):oA K H (.int i) (.type "int")
  | str (x:Str):oA K H (.str x) (.type "str")
  | L5 (x:UInt64):oA K H (.L5 x) (.type "float")
  | lst {a:Addr} {xs:List V} (e:H a=some (.lst xs)):oA K H (.ref a) (.type "list")
  | cV {a:Addr} {o:Obj} {xs:List V} (e:H a=some (.cV o (.lst xs))):oA K H (.ref a) (.type "list")
  | tup {a:Addr} {xs:List V} (e:H a=some (.tup xs)):oA K H (.ref a) (.type "tuple")
  | dK {a:Addr} {kvs:List (Key×V)} (e:H a=some (.dK kvs)):oA K H (.ref a) (.type "dict")
  | dT {a:Addr} {kvs:List (List Key×V)} (e:H a=some (.dT kvs)):oA K H (.ref a) (.type "dict")
  | ins {a C dx:Addr} {fs:List (Str×V)} (e:H a=some (.ins C dx fs)) (cl:SR K C) (ha:ZK K (.ref C) "__class__"=some (some (.builtin "object.__class__")))
      (hn:abG K (.builtin "object.__class__") "__get__"=some (some (.builtin "getset_descriptor.__get__"))) (htk:PySem.W.takesIn K (.builtin "object.__class__")=some true)
      (hm:PySem.W.mroIn K C (.type "object")=some true):oA K H (.ref a) (.ref C)
end
structure cZ (k:Nat) (A:Around):Prop where
  hd:A.handled=none
  dp:A.depth+3*k+5<recursionLimit
  un:A.units+16*k+600<cLine
theorem cZ.mono {k:Nat} (r:cZ k A) (h:j≤k):cZ j A:=⟨r.hd,by have:=r.dp;nofun,by have:=r.un;nofun⟩
theorem cZ.deeper {k:Nat} (r:cZ (k+1) A) (env:Env):cZ k (A.deeper env):=
  ⟨r.hd,by have:=r.dp;show A.depth+1+3*k+5<_;nofun,by have:=r.un;show A.units+3+16*k+600<_;nofun⟩
theorem cZ.in1 {k:Nat} (r:cZ (k+1) A):cZ k A.in1:=
  ⟨r.hd,by have:=r.dp;show A.depth+3*k+5<_;nofun,by have:=r.un;show A.units+1+16*k+600<_;nofun⟩
theorem xC:(A.under (.builtin "type.__call__" ⟨.ref C::us,kw⟩)).depth=A.depth+1:=by
  first | rfl | simp [abH,Code.weight,Code.isCreation,Code.isGuard,Code.isCaller,Code.frames,abI,guardIds]
theorem xD:(A.under (.builtin "type.__call__" ⟨.ref C::us,kw⟩)).units=A.units+1:=by
  first | rfl | simp [abH,Code.cUnits,Code.frames,abI]
theorem cZ.make {k:Nat} (r:cZ (k+1) A) (C:Addr) (us:List V0) (kw:List (Str×V0)):cZ k (A.under (.builtin "type.__call__" ⟨.ref C::us,kw⟩)):=
  ⟨r.hd,by have:=r.dp;rw [xC];nofun,by have:=r.un;rw [xD];nofun⟩
theorem cZ.depth {k:Nat} (r:cZ k A):A.depth<recursionLimit:=by have:=r.dp;nofun
theorem cZ.units {k:Nat} (r:cZ k A):A.units+64<cLine:=by have:=r.un;nofun
noncomputable def EK:TA:=λ_ H Q=>Q [] H
noncomputable def yH (ta:TE) (tr:TA):TA:=λσ H Q=>ta σ H λx H1=>tr σ H1 λxs H2=>Q (x::xs) H2
section
variable {X:Cx} {e:Expr} {es:List Expr} {te:TE} {t:TA} {pos:Pos}
theorem xE:PA X [] EK:=λ_ _ _ _ H Q I h=>ZL ⟨[],H,I,.nil,h⟩
theorem sR (ha:PE X e te) (hr:PA X es t) (hs:Xh (e::es) X.env=(false,eval e X.env)::Xh es X.env:=by rfl):PA X (e::es) (yH te t):=by
  intro pos pins s σ H Q I h
  rw [hs]
  show Xe _ _ (spliced ((false,eval e X.env)::backTo pos (Xh es X.env))) _ _ s
  refine Yq (cY (ha pins s σ H _ I h) λu s1 zz=>?_)
  obtain ⟨x,H1,I1,r1,q1⟩:=zz
  exact cY (hr pos pins s1 σ H1 _ I1 q1) λus s2 zz=>by obtain ⟨xs,H2,I2,r2,q2⟩:=zz;exact ⟨x::xs,H2,I2,.cons r1 r2,q2⟩
noncomputable def Py (t:TA):TE:=λσ H Q=>t σ H λxs H1=>xs.length≤WO∧∀ p,H1 p=none→Q (.ref p) (upd H1 p (.tup xs))
noncomputable def Pz (t:TA):TE:=λσ H Q=>t σ H λxs H1=>xs.length≤WO∧∀ p,H1 p=none→Q (.ref p) (upd H1 p (.lst xs))
theorem Jr {x1} (h:PA X es t):PE X (.Tuple es x1 pos) (Py t):=by
  intro pins s σ H Q I hq
  refine wpAny_Tuple_spliced (cY (h pos pins s σ H _ I hq) λus s1 ⟨xs,H1,I1,r,z,q⟩=>⟨by rw [← r.length];exact z,?_⟩)
  have hf:H1 s1.heap.objs.size=none:=I1.hok.fresh (WZ _)
  refine ⟨.ref s1.heap.objs.size,upd H1 s1.heap.objs.size (.tup xs),I1.laid (t':=s1.toks) (λb u e=>WQ _ e) (WZ _) ?_,rfl,q _ hf⟩
  exact ⟨z,us,r,⟨_,W5 _ rfl,rfl,_,rfl⟩⟩
theorem Js (h:PA X es t):PE X (.List es pos) (Pz t):=by
  intro pins s σ H Q I hq
  refine wpAny_List_spliced (cY (h pos pins s σ H _ I hq) λus s1 ⟨xs,H1,I1,r,z,q⟩=>⟨by rw [← r.length];exact z,?_⟩)
  have hf:H1 s1.heap.objs.size=none:=I1.hok.fresh (WZ _)
  refine ⟨.ref s1.heap.objs.size,upd H1 s1.heap.objs.size (.lst xs),I1.laid (t':=s1.toks) (λb u e=>WQ _ e) (WZ _) ?_,rfl,q _ hf⟩
  exact ⟨z,us,0,r,W5 _ rfl⟩
end
noncomputable abbrev Sp:=List V→Hp→VK→XK→Prop
variable {sp MA:Sp}
noncomputable abbrev nN:=List Env→Hp→WT→XK→V0→WT→Prop
variable {CX:nN}
structure mC (P:Xx) (w:XR) (K:WV) (mg:Str→Option V0) (base:Heap) (A:Around) (outer:List Env) (s:WT) (H:Hp):Prop where
  frames:A.frames=some outer
  mod:Mod K mg base
  bs:∀ b o,base.get? b=some o→s.heap.get? b=some o∧H b=none
  Em:base.objs.size≤s.heap.objs.size
  lg:s.heap.FunFrames base outer
  Ey:∀ b∈frs outer,H b=none
  hok:iY P w H s.heap
  bare:AllBare s.gens
noncomputable def CE (outer:List Env) (P:Xx) (w:XR) (H:Hp) (s:WT) (Q:VK) (u:V0) (s':WT):Prop:=
  ∃ v H',(s'.os=s.os∧0<s'.toks)∧AllBare s'.gens∧Un (frs outer) [] H H' s.heap s'.heap∧iY P w H' s'.heap∧RelV v u∧Q v H'
noncomputable def CR (CX:nN) (outer:List Env) (P:Xx) (w:XR) (H:Hp) (s:WT) (Q:VK) (E:XK) (r:Result) (s':WT):Prop:=
  match r with
  | .ok (.ret u)=>CE outer P w H s Q u s'
  | .ok _=>False
  | .error e=>CX outer H s E e s'
structure kj (P:Xx) (w:XR) (K:WV) (mg:Str→Option V0) (base:Heap) (CX:nN) (k:Nat) (f:Addr) (fd:FuncData) (ps:List Str) (sp:Sp):Prop where
  len:∀ vs H Q E,sp vs H Q E→vs.length=ps.length
  run:∀ (A:Around) (outer:List Env) (s:WT) (H:Hp) (args:Args) (us:List V0) (vs:List V) (Q:VK) (E:XK),cZ k A→mC P w K mg base A outer s H→0<s.toks→BindsTo s fd args (ps.zip us)→Vals vs us→sp vs H Q E →
    codeAny (model P w) A (.call (.ref f) args) (CR CX outer P w H s Q E) s
structure kD (P:Xx) (w:XR) (K:WV) (mg:Str→Option V0) (base:Heap) (CX:nN) (k:Nat) (f:Addr) (fd:FuncData) (ps:List Str) (sp:Sp):Prop where
  len:∀ vs H Q E,sp vs H Q E→vs.length=ps.length
  run:∀ (A:Around) (outer:List Env) (s:WT) (H:Hp) (args:Args) (us:List V0) (vs:List V) (Q:VK) (E:XK),cZ k A→mC P w K mg base A outer s H→BindsTo s fd args (ps.zip us)→Vals vs us→sp vs H Q E →
    codeAny (model P w) A (.call (.ref f) args) (CR CX outer P w H s Q E) s
theorem kD.imp {k:Nat} {f:Addr} (F:kD P w K mg base CX k f fd ps sp)
    (h:∀ vs H Q E,MA vs H Q E→sp vs H Q E):kD P w K mg base CX k f fd ps MA:=
  ⟨λvs H Q E q=>F.len vs H Q E (h _ _ _ _ q),λA outer s H args us vs Q E hr he hb hv hs=>F.run A outer s H args us vs Q E hr he hb hv (h _ _ _ _ hs)⟩
theorem kj.imp {k:Nat} {f:Addr} (F:kj P w K mg base CX k f fd ps sp)
    (h:∀ vs H Q E,MA vs H Q E→sp vs H Q E):kj P w K mg base CX k f fd ps MA:=
  ⟨λvs H Q E q=>F.len vs H Q E (h _ _ _ _ q),λA outer s H args us vs Q E hr he ht hb hv hs=>F.run A outer s H args us vs Q E hr he ht hb hv (h _ _ _ _ hs)⟩
theorem mC.make (e:mC P w K mg base A outer s H) (C:Addr) (us:List V0) (kw:List (Str×V0)) :
    mC P w K mg base (A.under (.builtin "type.__call__" ⟨.ref C::us,kw⟩)) outer s H:=⟨by first | exact e.frames | (simpa [abH,Code.envs,abI,pushEnvs] using e.frames),e.mod,e.bs,e.Em,e.lg,e.Ey,e.hok,e.bare⟩
theorem mC.in1 (e:mC P w K mg base A outer s H) :
    mC P w K mg base A.in1 outer s H:=⟨e.frames,e.mod,e.bs,e.Em,e.lg,e.Ey,e.hok,e.bare⟩
section
variable {X:Cx} {pins:List (Addr×Obj)} {σ:St} {H:Hp} {s s':WT}
theorem Inv.gf (I:Inv X pins σ H s):mC X.prog X.w X.K X.mg X.base X.A X.stack s H:=
  ⟨I.ok.frames,I.ok.mod,I.bs,X5 I.ok.Em I.sz,I.stack,I.nM,I.hok,I.bare⟩
theorem Inv.after {Q:VK} (I:Inv X pins σ H s) (h:CE X.stack X.prog X.w H s Q u s'):EP X pins σ Q u s':=by
  obtain ⟨v,H',os,bare,un,hok,r,q⟩:=h
  obtain ⟨hh,g,d,t,os'⟩:=s'
  have ht:0<t:=os.2
  obtain rfl:os'=s.os:=os.1
  exact ⟨v,H',I.call (h':=hh) (g':=g) (d':=d) (t':=t) (ch:=[]) un hok bare (λb z=>absurd z (by simp)),r,q⟩
end
noncomputable def Binds (K:WV) (fd:FuncData) (ps:List Str) (ds:List V0):Prop:=
  ∀ (s:WT) (us:List V0),K.In s.heap→(us++ds).length=ps.length→BindsTo s fd ⟨us,[]⟩ (ps.zip (us++ds))
theorem Binds.all (h:∀ us:List V0,us.length=ps.length→bindArgs fd ⟨us,[]⟩=pure (ps.zip us)):Binds K fd ps []:=λs us _ hl=>by
  rw [Xv] at hl ⊢
  exact .of_eq (h us hl)
section
variable {X:Cx} {CX:nN} {k:Nat} {f C:Addr} {fd:FuncData} {ps:List Str} {sp:Sp} {VR:List V} {ds:List V0} {E:XK} {x m:Str} {p pos apos:Pos} {e o:Expr} {es:List Expr} {ta:TE} {t:TA}
structure Mk (K:WV) (C f:Addr):Prop where
  makes:PySem.W.makesIn K C=true
  init:ZK K (.ref C) "__init__"=some (some (.ref f))
  fn:PySem.W.isFn K (.ref f)=true
  kp:XX K (.ref C)=true
end
section
variable {X:Cx} {CX:nN} {k:Nat} {f C:Addr} {fd:FuncData} {ps ks:List Str} {sp:Sp} {E:XK} {x m:Str} {p pos apos kpos:Pos} {e o:Expr} {es:List Expr} {kws:List Keyword} {te ta:TE} {t tk:TA} {nm:Option Str}
structure PB (K:WV) (fd:FuncData) (ps ks:List Str) (g:List V0→List V0→List V0) (gV:List V→List V→List V):Prop where
  to:∀ (s:WT) (us ws:List V0),K.In s.heap→(g us ws).length=ps.length→BindsTo s fd ⟨us,ks.zip ws⟩ (ps.zip (g us ws))
  rel:∀ {vs:List V} {us:List V0} {zs:List V} {ws:List V0},Vals vs us→Vals zs ws→Vals (gV vs zs) (g us ws)
variable {g:List V0→List V0→List V0} {gV:List V→List V→List V}
end
structure jZ (N P:List Str) (sc:Scope):Prop where
  kind:sc.kind=.function
  co:sc.isCoroutine=false
  gen:sc.isGenerator=false
  nd:N.Nodup
  pre:N.take P.length=P
  par:∀ x∈P,sc.names.lookup x=some .local∨sc.names.lookup x=some .cell
  Jt:∀ y∈sc.names,y.2≠.free
theorem rj {kindOf:Str→Option NameKind} {x:Str}:∀ {binds:List (Str×V0)} {m:Str→Option V0},(∀ v,(x,v)∉binds)→bindL kindOf binds m x=m x
  | [],_,_=>rfl
  | (n,v)::r,m,h=>by
    unfold bindL
    rw [rj λw hw=>h w (XI _ hw)]
    split
    · have:x≠n:=by rintro rfl;exact h v YK
      simp [this]
    · rfl
theorem rm {kindOf:Str→Option NameKind} {x:Str}:∀ {binds:List (Str×V0)} {m:Str→Option V0},(∀ v,(x,v)∉binds)→bindC kindOf binds m x=m x
  | [],_,_=>rfl
  | (n,v)::r,m,h=>by
    unfold bindC
    rw [rm λw hw=>h w (XI _ hw)]
    split
    · rfl
    · have:x≠n:=by rintro rfl;exact h v YK
      simp [this]
theorem rq {kindOf:Str→Option NameKind} {x:Str} {v:V0}:∀ {P:List Str} {vs:List V0} {i:Nat} {m:Str→Option V0},P.Nodup→P[i]?=some x→vs[i]?=some v→kindOf x=some .local →
    bindL kindOf (P.zip vs) m x=some v
  | [],_,_,_,_,h,_,_=>by simp at h
  | _::_,[],_,_,_,_,h,_=>by simp at h
  | p::P,w::vs,0,m,nd,h1,h2,hk=>by
    simp at h1 h2;subst h1;subst h2
    show bindL kindOf ((p,w)::P.zip vs) m p=_
    unfold bindL
    rw [rj λv hv=>(Yz.mp nd).1 (YW hv).1,if_pos hk]
    simp
  | p::P,w::vs,i+1,m,nd,h1,h2,hk=>by
    show bindL kindOf ((p,w)::P.zip vs) m x=_
    unfold bindL
    exact rq (i:=i) (Yz.mp nd).2 (by simpa using h1) (by simpa using h2) hk
theorem rA {kindOf:Str→Option NameKind} {x:Str} {v:V0}:∀ {P:List Str} {vs:List V0} {i:Nat} {m:Str→Option V0},P.Nodup→P[i]?=some x→vs[i]?=some v→kindOf x≠some .local →
    bindC kindOf (P.zip vs) m x=some v
  | [],_,_,_,_,h,_,_=>by simp at h
  | _::_,[],_,_,_,_,h,_=>by simp at h
  | p::P,w::vs,0,m,nd,h1,h2,hk=>by
    simp at h1 h2;subst h1;subst h2
    show bindC kindOf ((p,w)::P.zip vs) m p=_
    unfold bindC
    rw [rm λv hv=>(Yz.mp nd).1 (YW hv).1,if_neg hk]
    simp
  | p::P,w::vs,i+1,m,nd,h1,h2,hk=>by
    show bindC kindOf ((p,w)::P.zip vs) m x=_
    unfold bindC
    exact rA (i:=i) (Yz.mp nd).2 (by simpa using h1) (by simpa using h2) hk
noncomputable def start (N:List Str) (vs:List V):St:=vs.map some++Xi (N.length - vs.length) none
noncomputable def oB (CX:nN) (P:Xx) (w:XR) (K:WV) (mg:Str→Option V0) (base:Heap) (N:List Str) (qual:Str) (scope:Scope) (f:Addr) (cd:V0) (A:Around) (outer:List Env) (s:WT) (H:Hp) (E:XK):Cx where
  prog:=P
  w:=w
  K:=K
  mg:=mg
  base:=base
  A:=A.deeper (envOfC qual scope s.heap.objs.size f cd)
  N:=N
  s₀:=s
  H₀:=H
  env:=envOfC qual scope s.heap.objs.size f cd
  outer:=outer
  stack:=envOfC qual scope s.heap.objs.size f cd::outer
  ex:=[]
  calm:=true
  fn:=λ_=>true
  pn:=[]
  xe:=λe s'=>Xe (model P w) (A.deeper (envOfC qual scope s.heap.objs.size f cd)) (leaving (envOfC qual scope s.heap.objs.size f cd) e) (λ_ s''=>CX outer H s E e s'') (λe' s''=>CX outer H s E e' s'') s'
theorem uO (h:sc.names.lookup x=some .cell):∃ c,(cellsFrom n sc.names []).lookup x=some c:=by
  have q:=ZM sc.names n [] (.inl h)
  exact Option.isSome_iff_exists.mp q
theorem rB {CX:nN} {P:Xx} {w:XR} {K:WV} {mg:Str→Option V0} {base:Heap} {N ps:List Str} {qual:Str} {scope:Scope} {f:Addr} {cd:V0} {A:Around} {outer:List Env} {s s1:WT} {H:Hp} {E:XK} {us:List V0} {vs:List V}
    (S:jZ N ps scope) (hd:A.handled=none) (e0:mC P w K mg base A outer s H) (hl:vs.length=ps.length) (r:Vals vs us)
    (x:InCallC s s.heap.objs.size (bindL (envOfC qual scope s.heap.objs.size f cd).kindOf (ps.zip us) λ_=>none) (cellsFrom (s.heap.objs.size+1) scope.names []) (bindC (envOfC qual scope s.heap.objs.size f cd).kindOf (ps.zip us) λ_=>none) s1) {n:Nat} (ht:0<n) :
    Inv (oB CX P w K mg base N qual scope f cd A outer s H E) [] (start N vs) H {s1 with toks:=n}:=by
  have hpl:ps.length≤N.length:=by have:=congrArg ZF S.pre;rw [Zt] at this;nofun
  obtain ⟨h1,tk,rfl,hk⟩:=x.done
  have EL:∀ b:Addr,b∉(oB CX P w K mg base N qual scope f cd A outer s H E).ex:=λb z=>absurd (show b∈([]:List Addr) from z) (by simp)
  refine ⟨⟨e0.mod,S.kind,rfl,rfl,WZ _,λy z c h1 h2=>?_,λy hy=>?_,λy c _ h=>?_,λ_=>hd,abi e0.frames,.inr ⟨rfl,rfl⟩,λb z=>absurd z (EL b),e0.bs,e0.Em,λb _ _=>EL b,λb z=>absurd z (EL b),e0.lg,e0.Ey⟩,
    ⟨rfl,ht⟩,e0.bare,Un.kept hk,⟨_,x.toInCall.ns,λi y v h1 h2 h3=>?_⟩,λy c h=>⟨_,x.cell y c h⟩,e0.hok.fresh (WZ _),λy c h=>?_,λp hp=>absurd (show p∈([]:List (Addr×Obj)) from hp) (by simp),e0.hok.kept hk,?_⟩
  · exact name_of_addr x.apart (Yn h1) (Yn h2)
  · have hy:scope.names.lookup y=some .cell∨scope.names.lookup y=some .free:=hy
    rcases hy with hy | hy
    · exact uO hy
    · exact absurd rfl (S.Jt _ (Yn hy))
  · exact aaQ (x.above y c (Yn h))
  · have hi:i<vs.length:=by
      unfold start at h2
      by_cases hi:i<vs.length
      · exact hi
      · rw [Xm (by simpa using hi)] at h2
        rw [Zc] at h2
        split at h2<;>cases h2
    have ha:vs[i]?=some v:=by
      unfold start at h2
      rw [W7 (by simpa using hi),Xn] at h2
      cases e:vs[i]? with
      | none=>rw [e] at h2;cases h2
      | some a=>rw [e] at h2;cases h2;rfl
    obtain ⟨u,hu,rv⟩:=r.get ha
    have hp:ps[i]?=some y:=by
      rw [← S.pre,aaz (by nofun)];exact h1
    have OD:ps.Nodup:=by rw [← S.pre];exact S.nd.sublist (abJ _ _)
    refine ⟨u,rv,?_⟩
    rcases S.par y (XE hp) with k | k
    · exact .inl ⟨k,rq OD hp hu k⟩
    · obtain ⟨c,e⟩:=uO (n:=s.heap.objs.size+1) k
      refine .inr ⟨.inl k,c,e,?_⟩
      have q:=x.cell y c e
      rw [rA OD hp hu (by show scope.names.lookup y≠_;rw [k];decide)] at q
      exact q
  · exact .inl (e0.hok.fresh (aaQ (x.above y c (Yn h))))
  · unfold start
    show _=N.length
    rw [W9,W8,ZT]
    nofun
theorem MB {CX:nN} {P:Xx} {w:XR} {K:WV} {mg:Str→Option V0} {base:Heap} {k:Nat} {f:Addr} {name qual:Str} {params:Arguments} {body:List Stmt} {scope:Scope} {dV kV doc pm cdv ct oc:V0} {an od:Option Addr}
    {osl:Array (Option V0)} {N ps:List Str} {sp:Sp} (lk:K.lookup f=some ⟨oc,od,.func (Y3 name qual params body scope dV kV doc pm an cdv ct),osl⟩) (hcd:aal K cdv qual=true) (S:jZ N ps scope)
    (len:∀ vs H Q E,sp vs H Q E→vs.length=ps.length)
    (hbody:∀ (A:Around) (outer:List Env) (s:WT) (H:Hp) (vs:List V) (Q:VK) (E:XK),cZ k (A.deeper (envOfC qual scope s.heap.objs.size f cdv))→sp vs H Q E →
      ∃ t,xq (oB CX P w K mg base N qual scope f cdv A outer s H E) body t∧t {nx:=λ_ H'=>Q .eO H',rt:=Q} (start N vs) H) :
    kj P w K mg base CX (k+1) f (Y3 name qual params body scope dV kV doc pm an cdv ct) ps sp:=by
  refine ⟨len,λA outer s H args us vs Q E hr e0 htk hb r yI=>?_⟩
  have hl:=len _ _ _ _ yI
  have KX:K.In s.heap:=e0.mod.Eu.keeps λb o e=>(e0.bs b o e).1
  have lim:s.heap.NoLimit:=e0.mod.nolimit.keeps λb o e=>(e0.bs b o e).1
  have hkind:∀ y∈ps.zip us,scope.names.lookup y.1=some .local∨(scope.names.lookup y.1=some .cell∧((cellsFrom (s.heap.objs.size+1) scope.names []).lookup y.1).isSome=true):=λzz hy=>by
    obtain ⟨n,v⟩:=zz
    rcases S.par n (YW hy).1 with q | q
    · exact .inl q
    · exact .inr ⟨q,ZM _ _ _ (.inl q)⟩
  refine codeAny_call_function hr.depth (KX _ _ lk) rfl S.co S.gen rfl (aam KX hcd) (hb _ _ _ _ ?_)
  refine ie htk (aan S.kind hkind λenv he s1 x=>λJu=>?_)
  subst he
  refine ⟨lim.keeps x.toInCall.keep,codeAny_func ?_⟩
  obtain ⟨t,ht,hq⟩:=hbody A outer s H vs Q E (hr.deeper _) yI
  have I:Inv (oB CX P w K mg base N qual scope f cdv A outer s H E) [] (start N vs) H s1:=rB S hr.hd e0 hl r x (n:=s1.toks) Ju
  refine XH (ht [] s1 (start N vs) H _ I hq) (λfl s' hs=>?_) λe s' hs=>hs
  have fin:∀ {σ':St} {H':Hp} {v:V} {u:V0},Inv (oB CX P w K mg base N qual scope f cdv A outer s H E) [] σ' H' s'→RelV v u→Q v H'→CE outer P w H s Q u s':=
    λ{σ' H' v u} J rv q=>⟨v,H',J.os,J.bare,J.base,J.hok,rv,q⟩
  cases fl with
  | ret u=>
    obtain ⟨v,σ',H',J,rv,q⟩:=hs
    exact fin J rv q
  | next=>
    obtain ⟨σ',H',J,q⟩:=hs
    exact fin (v:=V.eO) (u:=Value.none) J rfl q
  | brk=>
    obtain ⟨_,_,_,q⟩:=hs
    exact X3 q
  | cont=>
    obtain ⟨_,_,_,q⟩:=hs
    exact X3 q
section
variable {X:Cx} {x:Str} {p pos:Pos} {e:Expr} {es:List Expr} {t:TA} {id T:String} {r:List V→Hp→VK→Prop}
noncomputable def Rw (r:List V→Hp→VK→Prop) (t:TA):TE:=λσ H Q=>t σ H λvs H1=>r vs H1 Q
theorem BH (hc:eF X (.builtin id) r) (hg:Gl X x) (hm:X.mg x=none) (hv:bootBuiltins x=some (.builtin id)) (ha:PA X (e::es) t) (hn:x≠"__name__":=by decide) (hdb:(x==("__debug__":Str))=false:=by decide)
    (he:Xh (e::es) X.env=(false,eval e X.env)::Xh es X.env:=by rfl) (hpl:(backTo pos (Xh es X.env)).any (·.1)=false:=by rfl):PE X (.Call (.Name x p) (e::es) [] pos) (Rw r t):=by
  intro pins s σ H Q I h
  refine Xw (fq I hg hm hv ?_ hn hdb)
  exact ZY (cY (ha pos pins s σ H _ I h) λus s1 zz=>by obtain ⟨vs,H1,I1,r1,q1⟩:=zz;exact hc pins s1 σ H1 vs us Q I1 r1 q1) he hpl
theorem zV (hc:eF X (.type T) r) (hg:Gl X x) (hm:X.mg x=none) (hv:bootBuiltins x=some (.type T)) (ha:PA X (e::es) t) (hn:x≠"__name__":=by decide) (hdb:(x==("__debug__":Str))=false:=by decide)
    (he:Xh (e::es) X.env=(false,eval e X.env)::Xh es X.env:=by rfl) (hpl:(backTo pos (Xh es X.env)).any (·.1)=false:=by rfl):PE X (.Call (.Name x p) (e::es) [] pos) (Rw r t):=by
  intro pins s σ H Q I h
  refine Xw (fq I hg hm hv ?_ hn hdb)
  exact Xr (cY (ha pos pins s σ H _ I h) λus s1 zz=>by obtain ⟨vs,H1,I1,r1,q1⟩:=zz;exact hc pins s1 σ H1 vs us Q I1 r1 q1) he hpl
end
end L2
namespace HT
open PySem PyProof.Rows
section
open PySem.SeqAt
open PySem.AutoSeq1 (wpAny_loadPart')
open PySem.MeetsSeq PySem.MeetsSeq2 PySem.MeetsSeq3
end
section
variable {prog:Xx} {w:XR} {A:Around} {E:V0→WT→Prop} {s:WT}
theorem EM {t b:Addr} {vs ws:List V0} {Q:V0→WT→Prop} (ht:IsTup s.heap t vs.toArray) (hb:IsTup s.heap b ws.toArray) (hv:vs≠[])
    (h1:ws=[]→Q (.ref t) s) (h2:ws≠[]→Q (.ref s.heap.objs.size) {s with heap:=s.heap.push {cls:=.type "tuple",data:=.seq (vs++ws).toArray}})
    (hsz:vs.length+ws.length≤WO):Xe (model prog w) A (binaryOp .Add (.ref t) (.ref b)) Q E s:=by
  obtain ⟨⟨cls,dd,data,sl⟩,ho,hc,n,hd⟩:=id ht
  obtain ⟨⟨Jv,dd2,data2,sl2⟩,ho2,hc2,n2,hd2⟩:=id hb
  simp only at hc hd hc2 hd2
  subst hc hd hc2 hd2
  have e:vs.toArray++ws.toArray=(vs++ws).toArray:=by simp
  by_cases hw:ws=[]
  · exact concat_meets ⟨_,ho,rfl⟩ ⟨_,ho2,rfl⟩ noFill_tuple_add seq_tuple_add ZN ZG (ZA _ _)
      (tuple_addW1 t b vs.toArray ws.toArray n n2 dd dd2 sl sl2 (by simpa using hv) (by simp [hw])) ⟨ho,ho2,h1 hw⟩
  · refine concat_meets ⟨_,ho,rfl⟩ ⟨_,ho2,rfl⟩ noFill_tuple_add seq_tuple_add ZN ZG (ZA _ _)
      (tuple_addW2 t b vs.toArray ws.toArray n n2 dd dd2 sl sl2 (by simpa using hv) (by simpa using hw) (by rw [Xg,Xg];exact hsz)) ⟨ho,ho2,?_⟩
    rw [e]
    exact h2 hw
noncomputable def eG (n d:Nat):Option Int→Nat
  | none=>d
  | some v=>if v<0 then (v+(n:Int)).toNat else min v.toNat n
theorem jD (n d:Nat):eG n d none=d:=rfl
theorem nO (n d k:Nat):eG n d (some (k:Int))=min k n:=by
  show (if (k:Int)<0 then ((k:Int)+(n:Int)).toNat else min (k:Int).toNat n)=min k n
  rw [if_neg (by nofun),Y4]
theorem Jw (n d:Nat) (hd:d≤n) (o:Option Int):eG n d o≤n:=by
  cases o with
  | none=>exact hd
  | some v=>
    show (if v<0 then (v+(n:Int)).toNat else min v.toNat n)≤n
    by_cases hv:v<0
    · rw [if_pos hv];nofun
    · rw [if_neg hv];exact Nat.min_le_right _ _
theorem yJ (v:Int) (n d:Nat):(if v<0 then max (v+(n:Int)) 0 else min v (n:Int))=((eG n d (some v):Nat):Int):=by
  show (if v<0 then max (v+(n:Int)) 0 else min v (n:Int))=(((if v<0 then (v+(n:Int)).toNat else min v.toNat n):Nat):Int)
  by_cases hv:v<0
  · simp only [if_pos hv];nofun
  · simp only [if_neg hv];nofun
theorem xF (lo hi:Option Int) (n:Nat):Zv lo hi 1 (n:Int)=(((eG n 0 lo:Nat):Int),((eG n n hi:Nat):Int)):=by
  have h1:¬ ((1:Int)<0):=by nofun
  unfold Zv
  simp only [h1,if_false]
  refine Prod.ext ?_ ?_
  · cases lo with
    | none=>rfl
    | some v=>exact yJ v n 0
  · cases hi with
    | none=>rfl
    | some v=>exact yJ v n n
theorem xG (i j:Nat):YS (i:Int) (j:Int) 1=j - i:=by
  unfold YS
  have h1:(1:Int) > 0:=by nofun
  simp only [h1,if_true,Int.ediv_one]
  split<;>nofun
theorem oE {v:V0} {o:Option Int} {Q:Option Int→WT→Prop} (p:IsPart v o) (h:Q o s):Xe (model prog w) A (Builtin.Slice.slicePartIndex v) Q E s:=by
  cases p with
  | none=>exact slicePart_none h
  | int i t=>exact slicePart_int h
theorem mD {sl:Addr} {vl vu:V0} {lo hi:Option Int} {n:Nat} {Q:Int×Int×Nat→WT→Prop} (hs:s.heap.IsSliceOf sl vl vu .none) (pl:IsPart vl lo) (pu:IsPart vu hi)
    (h:Q (((eG n 0 lo:Nat):Int),1,eG n n hi - eG n 0 lo) s):Xe (model prog w) A (aao (.ref sl) (pure (n:Int))) Q E s:=by
  obtain ⟨os,hos,hcs,hds⟩:=id hs
  unfold aao Builtin.Slice.sliceFields
  refine Us (Us (XG hos hds (x:=vl) rfl (Us (XG hos hds (x:=vu) rfl (Us (XG hos hds (x:=.none) rfl (WY ?_)))))))
  refine Us (slicePart_none ?_)
  show Xe _ _ (if ((1:Int)==0)=true then _ else _) _ _ s
  rw [if_neg (by decide)]
  refine Us (oE pl (Us (oE pu (Us (WY ?_)))))
  show Xe _ _ (match Zv lo hi 1 (n:Int) with | (lo,hi)=>pure (lo,(1:Int),YS lo hi 1)) _ _ s
  rw [xF lo hi n]
  show Xe _ _ (pure (((eG n 0 lo:Nat):Int),(1:Int),YS ((eG n 0 lo:Nat):Int) ((eG n n hi:Nat):Int) 1)) _ _ s
  rw [xG]
  exact WY h
theorem BI (xs:Array V0) (i k:Nat):((Xz k).filterMap λ(m:Nat)=>xs[((i:Int)+(m:Int)*1).toNat]?).toArray=((xs.toList.drop i).take k).toArray:=by
  have e:(λ(m:Nat)=>xs[((i:Int)+(m:Int)*1).toNat]?)=λm=>xs[i+m]?:=by
    funext m
    have:((i:Int)+(m:Int)*1).toNat=i+m:=by nofun
    rw [this]
  rw [e]
  have:=pick_run xs i k
  rw [List.filterMap_map] at this
  have e2:((λx=>xs[x]?)∘λx=>i+x)=λm=>xs[i+m]?:=rfl
  rw [e2] at this
  rw [this]
theorem ly {t sl:Addr} {items:Array V0} {vl vu:V0} {lo hi:Option Int} {Q:V0→WT→Prop} (ht:IsTup s.heap t items) (hs:s.heap.IsSliceOf sl vl vu .none) (pl:IsPart vl lo) (pu:IsPart vu hi)
    (hw:¬ (eG items.size 0 lo=0∧eG items.size items.size hi=items.size))
    (h:Q (.ref s.heap.objs.size) {s with heap:=s.heap.push {cls:=.type "tuple",data:=.seq ((items.toList.drop (eG items.size 0 lo)).take (eG items.size items.size hi - eG items.size 0 lo)).toArray}})
    (hsz:items.size≤WO):Xe (model prog w) A (getItem (.ref t) (.ref sl)) Q E s:=by
  have yK:sizeOk (.seq ((items.toList.drop (eG items.size 0 lo)).take (eG items.size items.size hi - eG items.size 0 lo)).toArray):=by
    show ((items.toList.drop (eG items.size 0 lo)).take (eG items.size items.size hi - eG items.size 0 lo)).toArray.size≤WO
    rw [Xg,Zt,aaH,aad]
    nofun
  have hj:eG items.size items.size hi≤items.size:=Jw _ _ (WZ _) hi
  obtain ⟨os,hos,hcs,hds⟩:=id hs
  have SS:s.TypeIs (.ref sl) "slice":=⟨os,hos,hcs⟩
  unfold getItem
  try with_reducible refine Z5 ?_
  first | refine Us (WY ?_) | skip
  refine Us (wpAny_sequenceKey ht.typeIs (by decide) ?_)
  refine Us (X6 (name:=Y5 "__getitem__") ht.typeIs Za
    (Yr Za ht.typeIs entry_tuple_getitem ?_ (args_tuple_getitem _ _)))
  show Xe _ _ (Builtin.Tuple.tupleItemsOf (.ref t) >>= _) _ _ s
  refine Us (tupleItemsOf_ ht ?_)
  refine Us (abK SS ?_)
  rw [if_pos (by decide)]
  refine Us (mD hs pl pu ?_)
  have hno:¬ ((((eG items.size 0 lo:Nat):Int)==0&&(1:Int)==1&&(eG items.size items.size hi - eG items.size 0 lo)==items.size)=true):=by
    intro q
    rw [X8,X8] at q
    have q1:((eG items.size 0 lo:Nat):Int)=0:=eq_of_beq q.1.1
    have q2:eG items.size items.size hi - eG items.size 0 lo=items.size:=eq_of_beq q.2
    exact hw ⟨by nofun,by nofun⟩
  show Xe _ _ (if (((eG items.size 0 lo:Nat):Int)==0&&(1:Int)==1&&(eG items.size items.size hi - eG items.size 0 lo)==items.size)=true then _ else _) _ _ s
  rw [if_neg hno,BI]
  first
    | exact Us (m:=Yd _) (XM (WY ⟨_,rfl,WY h⟩) yK)
    | exact Us (m:=Yd _) (XM (Us (WY (WY ⟨_,rfl,WY h⟩))) yK)
    | exact Us (Us (m:=Yd _) (XM (WY (WY ⟨_,rfl,WY h⟩)) yK))
    | exact Us (Us (m:=Yd _) (XM (WY ⟨_,rfl,WY h⟩) yK))
end
end HT
namespace L2
open PySem PySem.Spec PyProof.Rows
variable {r r':V→Option Int→Option Int→Hp→VK→Prop} {us its:List V0} {xs:List V} {pins:List (Addr×Obj)} {n j t':Nat} {i:Int} {s:WT} {v f:V0} {α:Type}
noncomputable abbrev TO:=St→Hp→(Option Int→Hp→Prop)→Prop
noncomputable def PO (X:Cx) (e:Option Expr) (t:TO):Prop:=
  ∀ (pins:List (Addr×Obj)) (s:WT) (σ:St) (H:Hp) (Q:Option Int→Hp→Prop),Inv X pins σ H s→t σ H Q →
    Xe (model X.prog X.w) X.A (evalPart e X.env) (λu s'=>∃ o H',Inv X pins σ H' s'∧IsPart u o∧Q o H') X.xe s
noncomputable def EN:TO:=λ_ H Q=>Q none H
noncomputable def MC (t:TE):TO:=λσ H Q=>t σ H λx H1=>∃ i,x=.int i∧Q (some i) H1
section
variable {X:Cx} {e:Expr} {te:TE} {lo hi:Option Expr} {tl th:TO} {pos p2:Pos}
theorem EO:PO X none EN:=by
  intro pins s σ H Q I h
  rw [evalPart_none]
  exact WY ⟨none,H,I,.none,h⟩
theorem ER (h:PE X e te):PO X (some e) (MC te):=by
  intro pins s σ H Q I hw
  rw [evalPart_some]
  refine cY (h pins s σ H _ I hw) λu s1 zz=>?_
  obtain ⟨x,H1,I1,r1,q1⟩:=zz
  obtain ⟨i,rfl,q⟩:=q1
  obtain ⟨t,rfl⟩:=r1
  exact ⟨some i,H1,I1,.int i t,q⟩
noncomputable def HQ (X:Cx) (r:V→Option Int→Option Int→Hp→VK→Prop):Prop:=
  ∀ (pins:List (Addr×Obj)) (s:WT) (σ:St) (H:Hp) (x:V) (v vl vu:V0) (lo hi:Option Int) (sl:Addr) (Q:VK),Inv X pins σ H s→RelV x v→s.heap.IsSliceOf sl vl vu .none→IsPart vl lo→IsPart vu hi→r x lo hi H Q →
    ∃ T id,typeLookup (.type T) "__getitem__"=pure (some (.builtin id))∧s.TypeIs v T∧Xe (model X.prog X.w) X.A (getItem v (.ref sl)) (EP X pins σ Q) X.xe s
theorem HQ.or (h:HQ X r) (h':HQ X r'):HQ X (λx lo hi H Q=>r x lo hi H Q∨r' x lo hi H Q):=by
  intro pins s σ H x v vl vu lo hi sl Q I rx hs pl pu q
  rcases q with q | q
  · exact h pins s σ H x v vl vu lo hi sl Q I rx hs pl pu q
  · exact h' pins s σ H x v vl vu lo hi sl Q I rx hs pl pu q
noncomputable def SV (r:V→Option Int→Option Int→Hp→VK→Prop) (te:TE) (tl th:TO):TE:=λσ H Q=>te σ H λx H1=>tl σ H1 λl H2=>th σ H2 λu H3=>r x l u H3 Q
theorem BJ (hr:HQ X r) (he:PE X e te) (hl:PO X lo tl) (hu:PO X hi th):PE X (.Subscript e (.Slice lo hi none p2) pos) (SV r te tl th):=by
  intro pins s σ H Q I h
  refine Subscript_ (cY (he pins s σ H _ I h) λv s1 zz=>?_)
  obtain ⟨x,H1,I1,r1,q1⟩:=zz
  refine wpAny_Slice (cY (hl pins s1 σ H1 _ I1 q1) λvl s2 ⟨l,H2,I2,pl,q2⟩=>cY (hu pins s2 σ H2 _ I2 q2) λvu s3 zz=>?_)
  obtain ⟨u,H3,I3,pu,q3⟩:=zz
  rw [evalPart_none]
  refine WY ?_
  have I4:Inv X pins σ H3 {s3 with heap:=s3.heap.push {cls:=.type "slice",data:=.fields #[vl,vu,.none]}}:=I3.kept (t':=s3.toks) λb ob q=>WQ _ q
  obtain ⟨T,id,hT,ht,hg⟩:=hr pins {s3 with heap:=s3.heap.push {cls:=.type "slice",data:=.fields #[vl,vu,.none]}} σ H3 x v vl vu l u s3.heap.objs.size Q I4 r1 (Heap.IsSliceOf.new ..) pl pu q3
  show Xe (model X.prog X.w) X.A (subscriptTail e (.Slice lo hi none p2) v (.ref s3.heap.objs.size)) (EP X pins σ Q) X.xe {s3 with heap:=s3.heap.push {cls:=.type "slice",data:=.fields #[vl,vu,.none]}}
  exact tail_any (ops:=[.ref s3.heap.objs.size,v]) ht hT hg (by with_unfolding_all rfl)
noncomputable def uP (xs:List V) (lo hi:Option Int):List V:=(xs.drop (HT.eG xs.length 0 lo)).take (HT.eG xs.length xs.length hi - HT.eG xs.length 0 lo)
theorem nc (xs:List V) (lo hi:Option Int):(uP xs lo hi).length≤xs.length:=by
  unfold uP
  rw [Zt,aaH]
  nofun
noncomputable def PC (K:WV):V→Option Int→Option Int→Hp→VK→Prop:=λx lo hi H Q=>∃ a xs,x=.ref a∧kC K H a xs ∧
  ¬ (HT.eG xs.length 0 lo=0∧HT.eG xs.length xs.length hi=xs.length)∧∀ p,H p=none→Q (.ref p) (upd H p (.tup (uP xs lo hi)))
theorem Jx:HQ X (PC X.K):=by
  intro pins s σ H x v vl vu lo hi sl Q I rx hs pl pu h
  obtain ⟨a,xs,rfl,hx,hw,q⟩:=h
  cases rx
  obtain ⟨its,r,ht,hz⟩:=I.tuple hx
  have hlen:its.toArray.size=xs.length:=by rw [Xg];exact r.length.symm
  refine ⟨"tuple",_,Za.lookup,ht.typeIs,?_⟩
  refine HT.ly ht hs pl pu (by rw [hlen];exact hw) ?_ (by rw [hlen];exact hz)
  rw [hlen]
  refine ⟨.ref s.heap.objs.size,_,I.laid (t':=s.toks) (o:=.tup (uP xs lo hi)) (λb ob q=>WQ _ q) (WZ _) ?_,rfl,q _ (I.hok.fresh (WZ _))⟩
  exact ⟨X5 (nc xs lo hi) hz,_,(r.drop (HT.eG xs.length 0 lo)).take (HT.eG xs.length xs.length hi - HT.eG xs.length 0 lo),acf _ _⟩
noncomputable def MD (K:WV):R2:=λx y H Q=>∃ a b xs ys,x=.ref a∧y=.ref b∧kC K H a xs∧kC K H b ys∧xs≠[]∧xs.length+ys.length≤WO ∧
  (ys=[]→Q (.ref a) H)∧(ys≠[]→∀ p,H p=none→Q (.ref p) (upd H p (.tup (xs++ys))))
theorem Vals.sS (r:Vals xs us):us=[]↔xs=[]:=by
  cases r with
  | nil=>simp
  | cons _ _=>simp
theorem ES:iK X (binaryOp .Add) (MD X.K):=by
  intro pins s σ H x y v u Q I rx ry h
  obtain ⟨a,b,xs,ys,rfl,rfl,ha,hb,hx,hz,q1,q2⟩:=h
  cases rx
  cases ry
  obtain ⟨its,r1,p1,_⟩:=I.tuple ha
  obtain ⟨its2,r2,p2,_⟩:=I.tuple hb
  refine HT.EM p1 p2 (λz=>hx (r1.sS.mp z)) (λz=>⟨.ref a,H,I,rfl,q1 (r2.sS.mp z)⟩) (λz=>?_) (by rw [← r1.length,← r2.length];exact hz)
  refine ⟨.ref s.heap.objs.size,_,I.laid (t':=s.toks) (o:=.tup (xs++ys)) (λb ob q=>WQ _ q) (WZ _) ?_,rfl,q2 (λw=>z (r2.sS.mpr w)) _ (I.hok.fresh (WZ _))⟩
  exact ⟨by rw [W9];exact hz,_,r1.append r2,acf _ _⟩
end
noncomputable def zW (n:Nat) (i:Int):Option Nat:=if 0≤i then (if i<n then some i.toNat else none) else if -(n:Int)≤i then some (i+n).toNat else none
noncomputable def iL {α:Type} (xs:List α) (i:Int):Option α:=(zW xs.length i).bind λj=>xs[j]?
theorem ET (h:zW n i=some j):seqIndex? i n=some j∧j<n∧-(n:Int)≤i∧i<n:=by
  unfold zW at h
  by_cases h0:0≤i
  · rw [if_pos h0] at h
    by_cases h1:i<n
    · rw [if_pos h1] at h
      have e:i.toNat=j:=XJ h
      exact ⟨by rw [seqIndex_of h0 h1,e],by nofun,by nofun,h1⟩
    · rw [if_neg h1] at h;cases h
  · rw [if_neg h0] at h
    by_cases h1:-(n:Int)≤i
    · rw [if_pos h1] at h
      have e:(i+n).toNat=j:=XJ h
      exact ⟨by rw [seqIndex_neg (by nofun) h1,e],by nofun,h1,by nofun⟩
    · rw [if_neg h1] at h;cases h
theorem sU {α:Type} {xs:List α} {v:α} (h:iL xs i=some v):∃ j,seqIndex? i xs.length=some j∧xs[j]?=some v∧j<xs.length∧-(xs.length:Int)≤i∧i<xs.length:=by
  unfold iL at h
  cases e:zW xs.length i with
  | none=>rw [e] at h;cases h
  | some j=>
    rw [e] at h
    obtain ⟨h1,h2,h3,h4⟩:=ET e
    exact ⟨j,h1,h,h2,h3,h4⟩
theorem f6 {α:Type} {xs:List α} {v:α} (h:xs[j]?=some v):iL xs (j:Int)=some v:=by
  have hj:j<xs.length:=(WS.mp h).1
  have e:zW xs.length (j:Int)=some j:=by
    unfold zW
    rw [if_pos (by nofun),if_pos (by nofun)];simp
  unfold iL;rw [e];exact h
noncomputable def nP (b:Expr):Prop:=∀ o i,subscripted b false o i=operate [o,i] (getItem o i)
noncomputable def Eo (X:Cx) (r:R2):Prop:=
  ∀ (value slice:Expr) (pins:List (Addr×Obj)) (s:WT) (σ:St) (H:Hp) (x y:V) (v u:V0) (Q:VK),Inv X pins σ H s→RelV x v→RelV y u→r x y H Q →
    subscripted slice false v u=operate [v,u] (getItem v u)→Xe (model X.prog X.w) X.A (subscriptTail value slice v u) (EP X pins σ Q) X.xe s
noncomputable def Bs (X:Cx) (id:String) (r:V→List V→Hp→VK→Prop):Prop:=
  ∀ (pins:List (Addr×Obj)) (s:WT) (σ:St) (H:Hp) (x:V) (xs:List V) (v:V0) (us:List V0) (Q:VK),Inv X pins σ H s→RelV x v→Vals xs us→r x xs H Q →
    Xe (model X.prog X.w) X.A (call (.builtin id) (v::us)) (EP X pins σ Q) X.xe s
section
variable {X:Cx} {a b:Expr} {ta tb:TE} {pos:Pos}
theorem Eo.or {r r':R2} (h:Eo X r) (h':Eo X r'):Eo X (λx y H Q=>r x y H Q∨r' x y H Q):=by
  intro value slice pins s σ H x y v u Q I rx ry q hs
  rcases q with q | q
  · exact h value slice pins s σ H x y v u Q I rx ry q hs
  · exact h' value slice pins s σ H x y v u Q I rx ry q hs
theorem Bs.or {id:String} {r r':V→List V→Hp→VK→Prop} (h:Bs X id r) (h':Bs X id r'):Bs X id (λx xs H Q=>r x xs H Q∨r' x xs H Q):=by
  intro pins s σ H x xs v us Q I rx rs q
  rcases q with q | q
  · exact h pins s σ H x xs v us Q I rx rs q
  · exact h' pins s σ H x xs v us Q I rx rs q
theorem ME {r:R2} (hr:Eo X r) (ha:PE X a ta) (hb:PE X b tb) (hs:nP b):PE X (.Subscript a b pos) (Mr r ta tb):=by
  intro pins s σ H Q I h
  exact Subscript_ (I8 ha hb I h λv u s2 x y H2 I2 rx ry q=>hr a b pins s2 σ H2 x y v u Q I2 rx ry q (hs _ _))
noncomputable def PD (K:WV):R2:=λx y H Q=>∃ p xs i v,x=.ref p∧y=.int i∧jY K H p xs∧iL xs i=some v∧Q v H
noncomputable def PF (K:WV):R2:=λx y H Q=>∃ p xs i v,x=.ref p∧y=.int i∧kC K H p xs∧iL xs i=some v∧Q v H
noncomputable def PJ:R2:=λx y H Q=>∃ z i c,x=.str z∧y=.int i∧z.length≤WO∧iL z.cps.toList i=some c∧Q (.str ⟨#[c]⟩) H
theorem EU:Eo X (PD X.K):=by
  intro value slice pins s σ H x y v u Q I rx ry h hs
  obtain ⟨p,xs,i,z,rfl,rfl,hq,he,q⟩:=h
  cases rx
  obtain ⟨t,rfl⟩:=ry
  obtain ⟨its,r,pl,hz⟩:=I.list hq
  obtain ⟨j,h1,h2,h3,h4,h5⟩:=sU he
  obtain ⟨w,ew,rw'⟩:=r.get h2
  have hl:=r.length
  have hn:=mz
  have fin:EP X pins σ Q w s:=⟨z,H,I,rw',q⟩
  by_cases h0:0≤i
  · have hj:i.toNat=j:=by
      rw [seqIndex_of h0 h5] at h1
      exact XJ h1
    exact item_listR pl.isList h0 (by nofun) (by rw [hj];simpa using ew) fin hs
  · have hj:(i+(its.toArray.size:Int)).toNat=j:=by
      rw [seqIndex_neg (by nofun) h4] at h1
      rw [Xg,← hl]
      exact XJ h1
    exact subscriptTail_builtinR (x:=w) pl.isList.typeIs slot_list_getitem.lookup
      (wpAny_getItem_list_neg (Q:=λr s'=>r=w∧EP X pins σ Q r s') pl.isList (by nofun) (by rw [Xg]<;>nofun) (by nofun) (by rw [hj];simpa using ew) ⟨rfl,fin⟩) hs
theorem Jy:Eo X (PF X.K):=by
  intro value slice pins s σ H x y v u Q I rx ry h hs
  obtain ⟨p,xs,i,z,rfl,rfl,hq,he,q⟩:=h
  cases rx
  obtain ⟨t,rfl⟩:=ry
  obtain ⟨its,r,pl,hz⟩:=I.tuple hq
  obtain ⟨j,h1,h2,h3,h4,h5⟩:=sU he
  obtain ⟨w,ew,rw'⟩:=r.get h2
  have hl:=r.length
  have hn:=mz
  have fin:EP X pins σ Q w s:=⟨z,H,I,rw',q⟩
  exact subscriptTail_builtinR (x:=w) pl.typeIs slot_tuple_getitem.lookup
    (getItem_tuple (j:=j) (Q:=λr s'=>r=w∧EP X pins σ Q r s') pl (by nofun) (by nofun) (by rw [Xg,← hl];exact h1) (by simpa using ew) ⟨rfl,fin⟩) hs
theorem Jz:Eo X PJ:=by
  intro value slice pins s σ H x y v u Q I rx ry h hs
  obtain ⟨z,i,c,rfl,rfl,hz,he,q⟩:=h
  obtain ⟨t,rfl⟩:=rx
  obtain ⟨t',rfl⟩:=ry
  obtain ⟨j,h1,h2,h3,h4,h5⟩:=sU he
  have hl:z.cps.toList.length=z.length:=by simp [Str.length]
  rw [hl] at h1 h4 h5
  have hn:=mz
  exact tail_any (typeIs_str s z t) slot_str_getitem.lookup (getItem_str (c:=c) (by
    have e1:decide (i < -(2^63:Int))=false:=decide_eq_false (by nofun)
    have e2:decide (i ≥ 2^63)=false:=decide_eq_false (by nofun)
    rw [e1,e2,Bool.or_false]) (by rw [h1];simpa using h2) ⟨.str ⟨#[c]⟩,H,I.tok _,⟨_,rfl⟩,q⟩) hs
theorem sV (lo hi:Option Int) (n:Nat):(sliceBounds lo hi none n).1=((HT.eG n 0 lo:Nat):Int)∧(sliceBounds lo hi none n).2.1=((HT.eG n n hi:Nat):Int)∧(sliceBounds lo hi none n).2.2=1:=by
  refine ⟨?_,?_,rfl⟩
  · cases lo with
    | none=>simp [sliceBounds,HT.eG]
    | some i=>
      simp only [sliceBounds,HT.eG,Option.getD_none,show (1:Int) > 0 by decide,if_true]
      by_cases h:i<0
      · simp only [h,if_true]<;>nofun
      · simp only [h,if_false]<;>nofun
  · cases hi with
    | none=>simp [sliceBounds,HT.eG]
    | some i=>
      simp only [sliceBounds,HT.eG,Option.getD_none,show (1:Int) > 0 by decide,if_true]
      by_cases h:i<0
      · simp only [h,if_true]<;>nofun
      · simp only [h,if_false]<;>nofun
theorem qG (its:List V0) (lo hi:Option Int):slicePick its.toArray lo hi none=((its.drop (HT.eG its.length 0 lo)).take (HT.eG its.length its.length hi - HT.eG its.length 0 lo)).toArray:=by
  obtain ⟨h1,h2,h3⟩:=sV lo hi its.toArray.size
  unfold slicePick
  rw [h1,h2,h3]
  simp only [sliceRange_one,pick_run,Xg]<;>rfl
noncomputable def PK (K:WV):V→Option Int→Option Int→Hp→VK→Prop:=λx lo hi H Q=>∃ a xs,x=.ref a∧jY K H a xs∧∀ p,H p=none→Q (.ref p) (upd H p (.lst (uP xs lo hi)))
theorem EV:HQ X (PK X.K):=by
  intro pins s σ H x v vl vu lo hi sl Q I rx hs pl pu h
  obtain ⟨a,xs,rfl,hx,q⟩:=h
  cases rx
  obtain ⟨its,r,ht,hz⟩:=I.list hx
  have hlen:=r.length
  refine ⟨"list",_,slot_list_getitem.lookup,ht.isList.typeIs,?_⟩
  refine wpAny_getItem_list_slice ht.isList hs pl pu .none (by simp) ?_ (by rw [Xg]<;>nofun)
  rw [qG,← hlen]
  refine ⟨.ref s.heap.objs.size,_,I.laid (t':=s.toks) (o:=.lst (uP xs lo hi)) (λb ob q=>WQ _ q) (WZ _) ?_,rfl,q _ (I.hok.fresh (WZ _))⟩
  exact ⟨X5 (nc xs lo hi) hz,_,0,(r.drop (HT.eG xs.length 0 lo)).take (HT.eG xs.length xs.length hi - HT.eG xs.length 0 lo),W5 _ rfl⟩
theorem lA:eF X (.builtin "len") (λxs H Q=>∃ p ys,xs=[.ref p]∧(jY X.K H p ys∨kC X.K H p ys)∧Q (.int ys.length) H):=by
  intro pins s σ H xs us Q I r h
  obtain ⟨p,ys,rfl,hq,q⟩:=h
  obtain ⟨u,rfl,rx⟩:=vals1 r
  cases rx
  have hn:=mz
  rcases hq with hq | hq
  · obtain ⟨its,r',pl,hz⟩:=I.list hq
    have hlen:=r'.length
    exact Calls.call_len_list pl.isList (by simp only [Xg]<;>nofun) ⟨.int ys.length,H,I.tok _,⟨s.toks+1,by rw [Xg,hlen]⟩,q⟩
  · obtain ⟨its,r',pl,hz⟩:=I.tuple hq
    have hlen:=r'.length
    exact len_tuple pl (by simp only [Xg]<;>nofun) ⟨.int ys.length,H,I.tok _,⟨s.toks+1,by rw [Xg,hlen]⟩,q⟩
theorem sW:eF X (.builtin "len") (λxs H Q=>∃ z,xs=[.str z]∧z.length≤WO∧Q (.int z.length) H):=by
  intro pins s σ H xs us Q I r h
  obtain ⟨z,rfl,hz,q⟩:=h
  obtain ⟨u,rfl,t,rfl⟩:=vals1 r
  have hn:=mz
  exact len_str (by nofun) ⟨.int z.length,H,I.tok _,⟨_,rfl⟩,q⟩
theorem eF.or {r r':List V→Hp→VK→Prop} (h:eF X f r) (h':eF X f r'):eF X f (λxs H Q=>r xs H Q∨r' xs H Q):=by
  intro pins s σ H xs us Q I rs q
  rcases q with q | q
  · exact h pins s σ H xs us Q I rs q
  · exact h' pins s σ H xs us Q I rs q
theorem lB:eF X (.type "list") (λxs H Q=>∃ p ys,xs=[.ref p]∧(jY X.K H p ys∨kC X.K H p ys)∧∀ l,H l=none→Q (.ref l) (upd H l (.lst ys))):=by
  intro pins s σ H xs us Q I r h
  obtain ⟨p,ys,rfl,hq,q⟩:=h
  obtain ⟨u,rfl,rx⟩:=vals1 r
  cases rx
  have fin:∀ (its:List V0),Vals ys its→ys.length≤WO→∀ (h':Heap) (c':Nat),(∀ b o',s.heap.get? b=some o'→h'.get? b=some o') →
      h'.get? s.heap.objs.size=some {cls:=.type "list",dict:=none,data:=.seq its.toArray c',slots:=#[]}→EP X pins σ Q (.ref s.heap.objs.size) {s with heap:=h'}:=λits r' hz h' c' kp e=>
    ⟨.ref s.heap.objs.size,_,I.laid (t':=s.toks) kp (WZ _) (show dD X.prog X.w _ h' _ (.lst ys) from ⟨hz,its,c',r',e⟩),rfl,q _ (I.hok.fresh (WZ _))⟩
  rcases hq with hq | hq
  · obtain ⟨its,r',pl,hz⟩:=I.list hq
    have hlen:=r'.length
    obtain ⟨o,ho,hc,n,hd⟩:=pl.isList
    exact call_list_seq p (.inl rfl) ho hc hd (λh' c' kp e=>fin its r' hz h' c' kp e) (by simp only [Xg]<;>nofun)
  · obtain ⟨its,r',pl,hz⟩:=I.tuple hq
    have hlen:=r'.length
    obtain ⟨o,ho,hc,n,hd⟩:=pl
    exact call_list_seq p (.inr rfl) ho hc hd (λh' c' kp e=>fin its r' hz h' c' kp e) (by simp only [Xg]<;>nofun)
noncomputable def OE (K:WV) (T:String) (x:V) (H:Hp):Prop:=match x with
  | .str _=>T="str"
  | .int _=>T="int"
  | .ref p=>(T="list"∧∃ xs,jY K H p xs)∨(T="tuple"∧∃ o,K.lookup p=some o∧o.cls=.type "tuple"∧o.dict=none) ∨
      (T="dict"∧((∃ kvs,H p=some (.dK kvs))∨∃ kvs,H p=some (.dT kvs)))∨(T="set"∧∃ S n,H p=some (.set S n))
  | _=>False
theorem BK {σ:St} {H:Hp} {T:String} {x:V} (I:Inv X pins σ H s) (r:RelV x v) (ty:OE X.K T x H) :
    s.TypeIs v T∧∀ a,v=.ref a→∃ ob,s.heap.get? a=some ob∧ob.dict=none:=by
  cases x with
  | str z=>
    obtain ⟨t,rfl⟩:=r
    cases (show T="str" from ty)
    exact ⟨typeIs_str s z t,λ_ e=>nomatch e⟩
  | int i=>
    obtain ⟨t,rfl⟩:=r
    cases (show T="int" from ty)
    exact ⟨typeIs_int s i t,λ_ e=>nomatch e⟩
  | ref p=>
    cases r
    rcases ty with ⟨rfl,xs,hq⟩ | ⟨rfl,o,hk,hc,hd⟩ | ⟨rfl,hk⟩ | ⟨rfl,S,n,hk⟩
    · obtain ⟨its,_,pl,_⟩:=I.list hq
      refine ⟨pl.isList.typeIs,λa e=>?_⟩
      cases e
      obtain ⟨o,n,e,c,hd,_⟩:=pl
      exact ⟨o,e,hd⟩
    · refine ⟨⟨o,I.xo p o hk,hc⟩,λa e=>?_⟩
      cases e
      exact ⟨o,I.xo _ o hk,hd⟩
    · have z:∃ o,s.heap.get? p=some o∧o.ExactDict:=by
        rcases hk with ⟨kvs,hk⟩ | ⟨kvs,hk⟩
        · obtain ⟨_,_,_,_,o,_,_,e,ex,_⟩:=I.hok p _ hk
          exact ⟨o,e,ex⟩
        · obtain ⟨_,_,_,_,o,_,_,e,ex,_⟩:=I.hok p _ hk
          exact ⟨o,e,ex⟩
      obtain ⟨o,e,ex⟩:=z
      refine ⟨⟨o,e,ex.1⟩,λa e2=>?_⟩
      cases e2
      exact ⟨o,e,ex.2.1⟩
    · obtain ⟨o,_,_,_,e,ex,_⟩:=I.hok p _ hk
      refine ⟨⟨o,e,ex.1⟩,λa e2=>?_⟩
      cases e2
      exact ⟨o,e,ex.2.1⟩
  | _=>exact X3 ty
noncomputable def PM (K:WV) (T:String) (r:V→List V→Hp→VK→Prop) (to:TE):TE:=λσ H Q=>to σ H λx H1=>OE K T x H1∧r x [] H1 Q
noncomputable def SW (K:WV) (T:String) (r:V→List V→Hp→VK→Prop) (to:TE) (t:TA):TE:=λσ H Q=>to σ H λx H1=>OE K T x H1∧t σ H1 λxs H2=>r x xs H2 Q
variable {o e:Expr} {es:List Expr} {to:TE} {t:TA} {name:Str} {apos cpos:Pos} {T id:String} {r:V→List V→Hp→VK→Prop}
theorem JA (pa:PlainAttrs T) (slot:Slot T name id) (hty:typeOf (.builtin id)=pure (.type "method_descriptor")) (hm:Bs X id r) (ho:PE X o to)
    (hbase:attributeBase o name X.env (eval o X.env)=eval o X.env:=by rfl) (hline:(apos.endLine==cpos.line)=true:=by rfl):PE X (.Call (.Attribute o name apos) [] [] cpos) (PM X.K T r to):=by
  intro pins s σ H Q I h
  refine wpAny_Call_method0_late hbase hline (cY (ho pins s σ H _ I h) λv s1 zz=>?_)
  obtain ⟨x,H1,I1,r1,ty,q1⟩:=zz
  obtain ⟨h1,h2⟩:=BK I1 r1 ty
  exact ⟨T,id,pa,slot,hty,h1,h2,ZO rfl (PySem.evalArgs_none (hm pins s1 σ H1 x [] v [] Q I1 r1 .nil q1))⟩
theorem MF (pa:PlainAttrs T) (slot:Slot T name id) (hty:typeOf (.builtin id)=pure (.type "method_descriptor")) (hm:Bs X id r) (ho:PE X o to) (ha:PA X (e::es) t)
    (hbase:attributeBase o name X.env (eval o X.env)=eval o X.env:=by rfl)
    (hfew:((backTo cpos (Xh (e::es) X.env)).all (λx=>!x.1)&&(backToKw cpos (keywordEach [] X.env)).all (λx=>x.1.isSome)
      && decide ((e::es).length+([]:List Keyword).length+(if ([]:List Keyword).isEmpty then 0 else 1)<30))=true:=by rfl)
    (hline:(apos.endLine==cpos.line)=true:=by rfl) (hs:Xh (e::es) X.env=(false,eval e X.env)::Xh es X.env:=by rfl) (hplain:(backTo cpos (Xh es X.env)).any (·.1)=false:=by rfl) :
    PE X (.Call (.Attribute o name apos) (e::es) [] cpos) (SW X.K T r to t):=by
  intro pins s σ H Q I h
  refine wpAny_Call_method_late hbase hfew hline rfl (cY (ho pins s σ H _ I h) λv s1 zz=>?_)
  obtain ⟨x,H1,I1,r1,ty,q1⟩:=zz
  obtain ⟨h1,h2⟩:=BK I1 r1 ty
  refine ⟨T,id,pa,slot,hty,h1,h2,?_⟩
  have hA:=ha cpos pins s1 σ H1 _ I1 q1
  rw [hs] at hA ⊢
  refine ZO (by show (false||(backTo cpos (Xh es X.env)).any (·.1))=false;rw [hplain]<;>rfl) (abj ?_)
  exact cY hA λus s2 zz=>by obtain ⟨vs,H2,I2,r2,q2⟩:=zz;exact hm pins s2 σ H2 x vs v us Q I2 r1 r2 q2
end
noncomputable def Rx (X:Cx) (id:String) (r:V→List V→Hp→VK→Prop):Prop:=
  ∀ (pins:List (Addr×Obj)) (s:WT) (σ:St) (H:Hp) (x:V) (xs:List V) (v:V0) (us:List V0) (Q:VK),Inv X pins σ H s→RelV x v→Vals xs us→r x xs H Q →
    Xe (model X.prog X.w) X.A (call (.builtin id) (v::us)) (EP X pins σ Q) X.xe s
theorem Vals.one:∀ {x:V} {us:List V0},Vals [x] us→∃ u,us=[u]∧RelV x u
  | _,_,.cons r .nil=>⟨_,rfl,r⟩
theorem Vals.zero:∀ {us:List V0},Vals [] us→us=[]
  | _,.nil=>rfl
theorem Vals.dropLast (h:Vals xs us):Vals xs.dropLast us.dropLast:=by
  induction h with
  | nil=>exact .nil
  | cons r t ih=>
    cases t with
    | nil=>exact .nil
    | cons q t'=>exact .cons r ih
theorem Vals.eraseIdx:∀ {xs:List V} {us:List V0} (i:Nat),Vals xs us→Vals (xs.eraseIdx i) (us.eraseIdx i)
  | _,_,_,.nil=>.nil
  | _,_,0,.cons _ t=>t
  | _,_,i+1,.cons r t=>.cons r (Vals.eraseIdx i t)
theorem Vals.reverse (h:Vals xs us):Vals xs.reverse us.reverse:=by
  induction h with
  | nil=>exact .nil
  | cons r t ih=>rw [XU,XU];exact Vals.append ih (.cons r .nil)
theorem xH (l:List α):l.eraseIdx (l.length - 1)=l.dropLast:=by
  induction l with
  | nil=>rfl
  | cons a r ih=>
    cases r with
    | nil=>rfl
    | cons b r=>
      have e:(a::b::r).length - 1=((b::r).length - 1)+1:=by
        have h1:(a::b::r).length=r.length+2:=rfl
        have h2:(b::r).length=r.length+1:=rfl
        nofun
      rw [e,List.eraseIdx_cons_succ,ih]
      all_goals rfl
section
variable {X:Cx} {pins:List (Addr×Obj)} {σ:St} {H:Hp} {s:WT} {l b:Addr} {xs ys zs:List V}
theorem Inv.JB {its its':List V0} {n:Nat} {f:Array V0→Array V0} {t':Nat} (I:Inv X pins σ H s) (hH:H l=some (.lst xs))
    (e:s.heap.get? l=some {cls:=.type "list",data:=.seq its.toArray n}) (hf:f its.toArray=its'.toArray) (hv:Vals ys its') (hz:ys.length≤WO) (ht:0<t':=by first | exact XO _ | exact (Inv.os (by assumption)).2 | assumption | nofun) :
    Inv X pins σ (upd H l (.lst ys)) {s with heap:=s.heap.update l (aap f),toks:=t'}:=by
  have q:=PySem.IsL.update e f
  rw [hf] at q
  refine I.write (x:=l) (e:=l) (by rw [hH];exact trivial) (.inl rfl) (λb' u hb hu=>(Yj s.heap (aap f) (YE hb)).trans hu) ⟨_,q⟩ ?_
  exact ⟨hz,its',_,hv,q⟩
theorem Inv.PN (I:Inv X pins σ H s) (hv:Vals ys its) (hz:ys.length≤WO) (ht:0<t':=by first | exact XO _ | exact (Inv.os (by assumption)).2 | assumption | nofun) :
    Inv X pins σ (upd H s.heap.objs.size (.lst ys)) {s with heap:=s.heap.push {cls:=.type "list",data:=.seq its.toArray},toks:=t'}:=
  I.laid (λ_ _ q=>WQ _ q) (WZ _) ⟨hz,its,0,hv,W5 _ rfl⟩
theorem Inv.fresh (I:Inv X pins σ H s):H s.heap.objs.size=none:=I.hok.fresh (WZ _)
theorem Inv.JC (I:Inv X pins σ H s) (hH:H l=some (.lst xs)):xs.length≤WO∧∃ (its:List V0) (n:Nat),Vals xs its∧xs.length=its.length∧s.heap.get? l=some {cls:=.type "list",data:=.seq its.toArray n}:=by
  obtain ⟨z,its,n,r,e⟩:=I.hok l _ hH
  exact ⟨z,its,n,r,r.length,e⟩
theorem BL (h:n≤WO):Y8 n=false:=by
  unfold Y8
  exact decide_eq_false (by nofun)
end
section
variable {X:Cx}
noncomputable def EW:V→List V→Hp→VK→Prop:=λx vs H Q=>∃ l xs y,x=.ref l∧vs=[y]∧H l=some (.lst xs)∧xs.length<WO∧Q .eO (upd H l (.lst (xs++[y])))
theorem rC:Rx X "list.append" EW:=by
  intro pins s σ H x vs v us Q I rx rv h
  obtain ⟨l,xs,y,rfl,rfl,hH,hz,q⟩:=h
  cases rx
  obtain ⟨u,rfl,ru⟩:=rv.one
  obtain ⟨z,its,n,r,hl,e⟩:=I.JC hH
  refine call_meets F.slot_list_append ⟨_,e,rfl⟩ F.entry_list_append (F.args_list_append_2 _ _) (PySem.list_append l its.toArray n u (by rw [Xg];nofun)) ⟨e,?_⟩
  refine ⟨.eO,_,I.JB (its':=its++[u]) hH e (by simp) (r.append (.cons ru .nil)) ?_,rfl,q⟩
  rw [W9,ZU]
  nofun
noncomputable def PR:V→List V→Hp→VK→Prop:=λx vs H Q=>∃ l xs y,x=.ref l∧vs=[]∧H l=some (.lst xs)∧xs[xs.length - 1]?=some y∧Q y (upd H l (.lst xs.dropLast))
theorem JD:Rx X "list.pop" PR:=by
  intro pins s σ H x vs v us Q I rx rv h
  obtain ⟨l,xs,y,rfl,rfl,hH,hy,q⟩:=h
  cases rx
  have nQ:=rv.zero
  subst nQ
  obtain ⟨z,its,n,r,hl,e⟩:=I.JC hH
  obtain ⟨u,hu,ru⟩:=r.get hy
  have hy':its.toArray[its.toArray.size - 1]?=some u:=by
    show its.toArray[its.length - 1]?=some u
    rw [← Array.getElem?_toList,← hl]
    exact hu
  refine call_meets F.slot_list_pop ⟨_,e,rfl⟩ F.entry_list_pop (F.args_list_pop_1 _) (MeetsSeq.list_pop_last l its.toArray n u hy' (by rw [Xg];nofun)) ⟨e,?_⟩
  refine ⟨y,_,I.JB (its':=its.dropLast) hH e ?_ r.dropLast ?_,ru,q⟩
  · show its.toArray.eraseIdxIfInBounds (its.toArray.size - 1)=its.dropLast.toArray
    rw [Xg,List.eraseIdxIfInBounds_toArray,xH]
  · rw [List.length_dropLast]
    nofun
end
end L2
namespace Ry
open PySem PySem.W PySem.Calls PyProof.Rows
theorem nH {P:Params} {h:Heap}:∀ (ns:List Int) (vs:List V0),WellAll P h vs (ns.map WData.int)→IntsAre vs ns:=by
  intro ns
  induction ns with
  | nil=>
    intro vs w
    rw [Xk] at w
    cases w
    exact .nil
  | cons n ns ih=>
    intro vs w
    rw [WU] at w
    cases w with
    | cons a b=>
      cases a
      exact .cons _ _ (ih _ b)
theorem zX {l:OpenLaw} {n:Nat} (hn:l.most=some n) {P:Params} {h:Heap} {args:List WData} {vals:List V0}
    (hpre:l.row.toRowW.claim.pre args=true) (hwl:WellAll P h vals args) :
    ∃ a vs ns,vals=[Value.ref a]∧args=[WData.list (ns.map WData.int)]∧h.get? a=some {cls:=.type "list",data:=.seq vs.toArray}∧IntsAre vs ns∧ns.length≤n:=by
  have hsh:WShape.hasAll [] args [.list .int]=true:=(pre_splitW hpre).1
  have hc:l.pre.holds [] {args:=args}=true:=(pre_splitW hpre).2
  obtain ⟨d,r,rfl,h1,h2⟩:=hasAllW_cons hsh
  obtain rfl:=hasAllW_nil h2
  obtain ⟨xs,rfl,h3⟩:=hasW_list h1
  obtain ⟨ns,rfl⟩:=items_int h3
  have hlen:ns.length≤n:=by
    unfold OpenLaw.pre at hc
    have h4:(WTm.not (.lt (.lit (.int (n:Int))) (.len (.arg 0)))).holds [] {args:=[.list (ns.map .int)]}=true:=by
      have h4:=(holds_andW hc).1
      rw [hn] at h4
      exact h4
    have h5:=condW_of h4 (w_not (w_lt w_lit (w_len_list (w_arg rfl))))
    rw [W8] at h5
    refine abT λq=>?_
    have q':(n:Int)<((ns.length:Nat):Int):=by nofun
    first
      | (rw [decide_eq_true q'] at h5;exact absurd h5 (by decide))
      | (simp at h5;nofun)
  cases hwl with
  | cons w1 w2=>
    cases w2
    cases w1 with
    | list ho hall=>exact ⟨_,_,ns,rfl,rfl,ho,nH ns _ hall,hlen⟩
theorem zY (l:OpenLaw) (args:List WData):l.row.toRowW.claim.post args (.bool true) args=true:=
  postW_of (r:=l.row.toRowW) (X:=(true==true))
    (show WShape.has [] (.bool true) .bool=true by first | rfl | decide | simp [WShape.has,WShape.arms,WShape.armsAll])
    (show (WTm.eq .res (.lit (.bool true))).value [] {args:=args,res:=some (.bool true),after:=args}=some (.bool (true==true)) from w_eq_bool (w_res rfl) w_lit) rfl
theorem uQ {l:OpenLaw} {n:Nat} {q:Xx} {loose:List Str} {XP:(Str→Option V0)→Heap→Prop} {YP:XR→Heap→Prop} {d:DefRec}
    (hn:l.most=some n) (hdf:d.params.defaults=[])
    (call:∀ (w:XR) (s₀ s₁:WT) (mg mb:Str→Option V0) (fa:Addr) (o:Obj) (pm cd doc:V0) (a:Addr) (vs:List V0) (ns:List Int),
      Ground q loose [] XP w s₀ mg mb s₁.heap→YP w s₁.heap →
      s₁.heap.get? fa=some o→o.data=.func (docDef d.name d.params d.body d.scope pm cd doc)→s₁.heap.CodeRec cd d.name→mg d.name=some (.ref fa) →
      s₁.heap.get? a=some {cls:=.type "list",data:=.seq vs.toArray}→IntsAre vs ns→ns.length≤n→s₁.gens=#[] →
      codeAny (model l.prog w) callerA (.call (.ref fa) ⟨[.ref a],[]⟩) (λr s'=>r=.ok (.ret (.bool true))∧OldK s₁.heap s'.heap∧s'.os=s₁.os∧AllBare s'.gens) s₁) :
    WalkO q loose XP YP l.row.toRowW d [] (λf vs=>ace f vs):=by
  intro w s₀ s₁ mg mb G Y fa o pm cd doc dV kV ho hd hcd hD hmg hg args vals as hpre hlay hrd hwl hlo
  obtain rfl:dV=.none:=Dflts.none hD hdf
  obtain rfl:kV=.none:=Dflts.noKw hD
  obtain ⟨a,vs,ns,rfl,rfl,hobj,hints,hlen⟩:=zX hn hpre hwl
  refine enter_call (codeAny_mono (call w s₀ s₁ mg mb fa o pm cd doc a vs ns G Y ho (fd_plain hd) hcd hmg hobj hints hlen hg) λr s' hq=>?_)
  obtain ⟨rfl,h2,h3,h4⟩:=hq
  exact ⟨.inl ⟨.bool true,.bool true,[],rfl,λ_=>rfl,.bool true,zY l _,λ_=>⟨List.Pairwise.nil,λ_ hm=>(nomatch hm)⟩⟩,h2,h3,h4⟩
end Ry
namespace L2
open PySem PySem.Spec PyProof.Rows
variable {kvs:List (List Key×V)} {xs:List (List Key×Addr×V0)} {H H':Hp} {Q:V0→WT→Prop} {P:Xx} {pins:List (Addr×Obj)} {w:XR} {o:Option V} {u:Option V0} {a f b:Addr} {s:WT} {osl:Array (Option V0)} {qual x:Str} {vs:List (Key×V0)} {h':Heap} {σ:St} {X:Cx} {od an:Option Addr} {ps:List Str} {ks:List Key} {fd:FuncData} {pm oc doc d' ct cdv:V0} {t':Nat}
theorem rE:∀ {vs:List V0} {ns:List Int},IntsAre vs ns→Vals (ns.map V.int) vs
  | _,_,.nil=>.nil
  | _,_,.cons n t h=>.cons ⟨t,rfl⟩ (rE h)
noncomputable def fK (s:Stmt):Arguments:=match s with
  | .FunctionDef _ a _ _ _ _ _ _ _ _=>a
  | _=>{posonlyargs:=[],args:=[],vararg:=none,kwonlyargs:=[],kw_defaults:=[],kwarg:=none,defaults:=[]}
noncomputable def bL (s:Stmt):List Stmt:=match s with
  | .FunctionDef _ _ b _ _ _ _ _ _ _=>b
  | _=>[]
noncomputable def aF (s:Stmt):Scope:=match s with
  | .FunctionDef _ _ _ _ _ _ sc _ _ _=>sc
  | _=>{kind:=.function,names:=[],isGenerator:=false,isCoroutine:=false}
structure BN (K:WV) (x qual:Str) (st:Stmt) (f:Addr) (fd:FuncData):Prop where
  ex:∃ (oc:V0) (od:Option Addr) (kV doc pm:V0) (an:Option Addr) (cdv ct:V0) (osl:Array (Option V0)),
    fd=Y3 x qual (fK st) (bL st) (aF st) .none kV doc pm an cdv ct∧K.lookup f=some ⟨oc,od,.func fd,osl⟩∧aal K cdv qual=true
  kp:XX K (.ref f)=true
section
variable {P:Xx} {w:XR} {K:WV} {mg:Str→Option V0} {base:Heap}
theorem BN.binds {st:Stmt} (F:BN K x qual st f fd)
    (h:∀ (kV doc pm:V0) (an:Option Addr) (cdv ct:V0) (us:List V0),us.length=ps.length→bindArgs (Y3 x qual (fK st) (bL st) (aF st) .none kV doc pm an cdv ct) ⟨us,[]⟩=pure (ps.zip us)):Binds K fd ps []:=by
  obtain ⟨oc,od,kV,doc,pm,an,cdv,ct,osl,rfl,lk,hcd⟩:=F.ex
  exact .all (h kV doc pm an cdv ct)
theorem JE {st:Stmt} {kV:V0} (l:K.lookup f=some ⟨oc,od,.func (Y3 x qual (fK st) (bL st) (aF st) .none kV doc pm an cdv ct),osl⟩)
    (c:aal K cdv qual=true) (k:XX K (.ref f)=true):BN K x qual st f (Y3 x qual (fK st) (bL st) (aF st) .none kV doc pm an cdv ct):=⟨⟨oc,od,kV,doc,pm,an,cdv,ct,osl,rfl,l,c⟩,k⟩
end
noncomputable def MG (H H':Hp):Prop:=∀ b o,H b=some o→H' b=some o
theorem MG.free (e:MG H H') {l:Addr} (h:H' l=Option.none):H l=Option.none:=by
  cases q:H l with
  | none=>rfl
  | some o=>
    rw [e l o q] at h
    cases h
section
variable {κ:Type} [DecidableEq κ]
noncomputable def ko (kvs:List (κ×V)) (k:κ):Option V:=(kvs.find? λkv=>decide (kv.1=k)).map (·.2)
noncomputable def putK (kvs:List (κ×V)) (k:κ) (v:V):List (κ×V):=
  if (kvs.any λkv=>decide (kv.1=k))=true then kvs.map (λkv=>if kv.1=k then (kv.1,v) else kv) else kvs++[(k,v)]
theorem oF {p:κ×V} {r:List (κ×V)} {k:κ} (e:p.1=k):ko (p::r) k=some p.2:=by simp [ko,YA,e]
theorem lC {p:κ×V} {r:List (κ×V)} {k:κ} (e:¬ p.1=k):ko (p::r) k=ko r k:=by simp [ko,YA,e]
theorem uR (k:κ):∀ kvs:List (κ×V),(kvs.any λkv=>decide (kv.1=k))=(ko kvs k).isSome
  | []=>rfl
  | p::r=>by
    rw [aaA]
    by_cases e:p.1=k
    · simp only [oF e,decide_eq_true e,abL,Option.isSome_some]
    · rw [lC e,decide_eq_false e,Bool.false_or];exact uR k r
theorem ng (kvs:List (κ×V)) (k:κ) (v:V):(putK kvs k v).length≤kvs.length+1:=by
  unfold putK
  split
  · rw [W8];nofun
  · rw [W9,WR,Xb];nofun
theorem nF.zZ (r:nF o u):o.isSome=u.isSome:=by
  cases o with
  | none=>cases u with
    | none=>rfl
    | some _=>exact (show False from r).elim
  | some _=>cases u with
    | none=>exact (show False from r).elim
    | some _=>rfl
theorem nF.getD {d:V} (r:nF o u) (rd:RelV d d'):RelV (o.getD d) (u.getD d'):=by
  cases o with
  | none=>cases u with
    | none=>exact rd
    | some _=>exact (show False from r).elim
  | some _=>cases u with
    | none=>exact (show False from r).elim
    | some _=>exact r
theorem KV.val {kvs:List (κ×V)} {vs:List (κ×V0)} (r:KV kvs vs) (k:κ):nF (ko kvs k) (valueAt vs k):=by
  unfold KV at r
  induction r with
  | nil=>exact Zp
  | @cons p q ps qs h t ih=>
    obtain ⟨h1,h2⟩:=h
    by_cases e:p.1=k
    · have e':q.1=k:=h1.symm.trans e
      have b:valueAt (q::qs) k=some q.2:=by simp [valueAt,YA,e']
      rw [oF e,b];exact h2
    · have e':¬ q.1=k:=λz=>e (h1.trans z)
      have b:valueAt (q::qs) k=valueAt qs k:=by simp [valueAt,YA,e']
      rw [lC e,b];exact ih
theorem KV.any {kvs:List (κ×V)} {vs:List (κ×V0)} (r:KV kvs vs) (k:κ):(kvs.any λkv=>decide (kv.1=k))=vs.any λkv=>decide (kv.1=k):=by
  unfold KV at r
  induction r with
  | nil=>rfl
  | cons h t ih=>rw [aaA,aaA,ih,h.1]
theorem KV.repl {kvs:List (κ×V)} {vs:List (κ×V0)} (r:KV kvs vs) (k:κ) {y:V} {u:V0} (ry:RelV y u) :
    KV (kvs.map λkv=>if kv.1=k then (kv.1,y) else kv) (vs.map λkv=>if kv.1=k then (kv.1,u) else kv):=by
  unfold KV at r ⊢
  induction r with
  | nil=>exact .nil
  | @cons p q ps qs h t ih=>
    rw [WU,WU]
    refine .cons ?_ ih
    obtain ⟨h1,h2⟩:=h
    by_cases e:p.1=k
    · rw [if_pos e,if_pos (h1.symm.trans e)];exact ⟨h1,ry⟩
    · rw [if_neg e,if_neg (λz=>e (h1.trans z))];exact ⟨h1,h2⟩
theorem KV.put {kvs:List (κ×V)} {vs:List (κ×V0)} (r:KV kvs vs) (k:κ) {y:V} {u:V0} (ry:RelV y u):KV (putK kvs k y) (stored vs k u):=by
  unfold putK stored
  rw [r.any k]
  by_cases e:(vs.any λkv=>decide (kv.1=k))=true
  · rw [if_pos e,if_pos e];exact r.repl k ry
  · rw [if_neg e,if_neg e];exact Paired.snoc r ⟨rfl,ry⟩
theorem KV.length {kvs:List (κ×V)} {vs:List (κ×V0)} (r:KV kvs vs):kvs.length=vs.length:=Z4 r
end
theorem yL {k:Key} {u:V0} (r:RelV (kV k) u):(cM P w).is k u=true:=by
  cases k with
  | inl i=>obtain ⟨t,e⟩:=(show ∃ t,u=Value.int i t from r);subst e;exact uG P w i t
  | inr x=>obtain ⟨t,e⟩:=(show ∃ t,u=Value.str x t from r);subst e;exact uH P w x t
theorem rF {P:Xx} {w:XR}:∀ {ks:List Key} {us:List V0},Vals (ks.map kV) us→ItemsAre (cM P w) ks us
  | [],_,r=>by rw [Xk] at r;cases r;exact .nil
  | k::ks,_,r=>by
    rw [WU] at r
    cases r with
    | cons h t=>exact .cons (yL h) (rF t)
noncomputable abbrev KT (H:Hp):List (List Key×V)→List (List Key×Addr×V0)→Prop:=Paired λp q=>p.1=q.1∧H q.2.1=some (.tup (p.1.map kV))∧RelV p.2 q.2.2
theorem KT.val (r:KT H kvs xs) (k:List Key):nF (ko kvs k) ((atKey xs k).map (·.2)):=by
  induction r with
  | nil=>exact Zp
  | @cons p q ps qs h t ih=>
    obtain ⟨h1,_,h2⟩:=h
    by_cases e:p.1=k
    · have e':q.1=k:=h1.symm.trans e
      have b:atKey (q::qs) k=some q.2:=by simp [atKey,YA,e']
      rw [oF e,b];exact h2
    · have e':¬ q.1=k:=λz=>e (h1.trans z)
      have b:atKey (q::qs) k=atKey qs k:=by simp [atKey,YA,e']
      rw [lC e,b];exact ih
theorem KT.repl (r:KT H kvs xs) (k:List Key) {y:V} {u:V0} (ry:RelV y u) :
    KT H (kvs.map λkv=>if kv.1=k then (kv.1,y) else kv) (xs.map (putAt k u)):=by
  induction r with
  | nil=>exact .nil
  | @cons p q ps qs h t ih=>
    rw [WU,WU]
    refine .cons ?_ ih
    obtain ⟨h1,h2,h3⟩:=h
    unfold putAt
    by_cases e:p.1=k
    · rw [if_pos e,if_pos (h1.symm.trans e)];exact ⟨h1,h2,ry⟩
    · rw [if_neg e,if_neg (λz=>e (h1.trans z))];exact ⟨h1,h2,h3⟩
theorem KT.put (r:KT H kvs xs) (k:List Key) {b:Addr} {y:V} {u:V0} (hb:H b=some (.tup (k.map kV))) (ry:RelV y u) :
    KT H (putK kvs k y) (storedH xs k b u):=by
  have e:(kvs.any λkv=>decide (kv.1=k))=(atKey xs k).isSome:=by
    rw [uR,(r.val k).zZ,Option.isSome_map]
  unfold putK storedH
  rw [e]
  by_cases q:(atKey xs k).isSome=true
  · rw [if_pos q,if_pos q];exact r.repl k ry
  · rw [if_neg q,if_neg q];exact Paired.snoc r ⟨rfl,hb,ry⟩
theorem KT.keeps (r:KT H kvs xs) (ht:∀ b ys,H b=some (.tup ys)→H' b=some (.tup ys)):KT H' kvs xs:=
  Paired.IG r λ_ _ z=>⟨z.1,ht _ _ z.2.1,z.2.2⟩
section
variable {P:Xx} {w:XR} {H:Hp} {h:Heap} {a:Addr}
theorem HR {u:HO} (ok:iY P w H h) (e:Rd H a u):dD P w H h a u:=e.ok ok
theorem uS {kvs:List (Key×V)} (ok:iY P w H h) (e:Rd H a (.dK kvs)):kvs.length≤WO∧(a==sysModules)=false∧∃ vs,KV kvs vs∧h.DictOf (cM P w) a vs:=
  show dD P w H h a (.dK kvs) from HR ok e
theorem MH {kvs:List (Key×V)} (ok:iY P w H h) (e:H a=some (.dK kvs)):kvs.length≤WO∧(a==sysModules)=false∧∃ vs,KV kvs vs∧h.DictOf (cM P w) a vs:=uS ok (.inl e)
theorem sX (ok:iY P w H h) (e:H a=some (.tup (ks.map kV))):(tupleKind (cM P w)).is h ks a:=by
  obtain ⟨_,its,r,o,h1,h2,n,h3⟩:=(show dD P w H h a (.tup (ks.map kV)) from ok a _ e)
  exact ⟨o,its.toArray,n,h1,h2,h3,by simpa using rF r⟩
theorem uT (ok:iY P w H h) (e:Rd H a (.dT kvs)):kvs.length≤WO∧(a==sysModules)=false ∧
    ∃ xs,KT H kvs xs∧h.DictOfH (tupleKind (cM P w)) a xs:=by
  obtain ⟨z,y,xs,r,o,es,ep,h1,h2,h3,h4,h5⟩:=(show dD P w H h a (.dT kvs) from HR ok e)
  refine ⟨z,y,xs,r,o,es,ep,h1,h2,h3,h4,λx hx=>?_,h5⟩
  have all:∀ {l:List (List Key×V)} {m:List (List Key×Addr×V0)},KT H l m→∀ x∈m,(tupleKind (cM P w)).is h x.1 x.2.1:=by
    intro l m q
    induction q with
    | nil=>intro x hx;exact nomatch hx
    | @cons p q ps qs hq t ih=>
      intro x hx
      rcases Xl.mp hx with e | hx
      · subst e
        exact sX ok (by rw [← hq.1];exact hq.2.1)
      · exact ih x hx
  exact all r x hx
theorem MJ (ok:iY P w H h) (e:H a=some (.dT kvs)):kvs.length≤WO∧(a==sysModules)=false ∧
    ∃ xs,KT H kvs xs∧h.DictOfH (tupleKind (cM P w)) a xs:=uT ok (.inl e)
end
noncomputable def uU (H:Hp) (a:Addr) (y:V) (r:Option V):Prop:=
  (∃ kvs k,Rd H a (.dK kvs)∧y=kV k∧r=ko kvs k)∨∃ kvs k b,Rd H a (.dT kvs)∧y=.ref b∧H b=some (.tup (k.map kV))∧r=ko kvs k
noncomputable def sY (H:Hp) (a:Addr) (y v:V) (H':Hp):Prop:=
  (∃ kvs k,H a=some (.dK kvs)∧y=kV k∧kvs.length<WO∧H'=upd H a (.dK (putK kvs k v))) ∨
  ∃ kvs k b,H a=some (.dT kvs)∧y=.ref b∧H b=some (.tup (k.map kV))∧kvs.length<WO∧H'=upd H a (.dT (putK kvs k v))
theorem uU.k {H:Hp} {a:Addr} {kvs:List (Key×V)} {k:Key} (e:H a=some (.dK kvs)):uU H a (kV k) (ko kvs k):=.inl ⟨kvs,k,.inl e,rfl,rfl⟩
theorem sY.k {H:Hp} {a:Addr} {kvs:List (Key×V)} {k:Key} {v:V} (e:H a=some (.dK kvs)) (hl:kvs.length<WO):sY H a (kV k) v (upd H a (.dK (putK kvs k v))):=.inl ⟨kvs,k,e,rfl,hl,rfl⟩
theorem sY.t {k:List Key} {v:V} (e:H a=some (.dT kvs)) (eb:H b=some (.tup (k.map kV))) (hl:kvs.length<WO) :
    sY H a (.ref b) v (upd H a (.dT (putK kvs k v))):=.inr ⟨kvs,k,b,e,rfl,eb,hl,rfl⟩
section
variable {X:Cx} {pins:List (Addr×Obj)} {σ:St} {H:Hp} {s:WT} {a:Addr} {y v:V} {u r:V0} {o:Option V} {A:Around} {E:V0→WT→Prop}
theorem Inv.big (I:Inv X pins σ H s):sysModules<s.heap.objs.size:=by
  have h:mainGlobals<s.heap.objs.size:=(I.mod.glob.keeps I.bk).lt
  exact Nat.lt_trans (by decide) h
theorem z8 (hu:A.units+1<cLine) (I:Inv X pins σ H s) (g:uU H a y (some v)) (ry:RelV y u) (h:∀ w' s',Inv X pins σ H s'→RelV v w'→Q w' s') :
    Xe (model X.prog X.w) A (getItem (.ref a) u) Q E s:=by
  rcases g with ⟨kvs,k,e,ey,l⟩ | ⟨kvs,k,b,e,ey,eb,l⟩
  · subst ey
    obtain ⟨z,hd,vs,rel,dd⟩:=uS I.hok e
    obtain ⟨w',hw,rw'⟩:=nF.some_of (v:=v) (o:=valueAt vs k) (by rw [l];exact rel.val k)
    exact wpAny_getItem_of (yL ry) dd.mapOf hw (h w' _ (I.tok _) rw')
  · subst ey
    cases (show u=Value.ref b from ry)
    obtain ⟨z,hd,xs,rel,dd⟩:=uT I.hok e
    obtain ⟨w',hw,rw'⟩:=nF.some_of (v:=v) (o:=(atKey xs k).map (·.2)) (by rw [l];exact rel.val k)
    obtain ⟨p,hp,hp2⟩:=Option.map_eq_some_iff.mp hw
    refine wpAny_getItem_heap (tupleKind_room_in1 hu) (sX I.hok eb) dd hp ?_
    rw [hp2]
    exact h w' _ (I.tok _) rw'
theorem yM {ob:HO} (I:Inv X pins σ H s) (mu:L6 (H a)) (hs:Y0 a s.heap h') (he:∃ q,h'.get? a=some q) (new:dD X.prog X.w (upd H a ob) h' a ob) (ht:0<t':=by first | exact XO _ | exact (Inv.os (by assumption)).2 | assumption | nofun) :
    Inv X pins σ (upd H a ob) {s with heap:=h',toks:=t'}:=
  I.write (x:=a) (e:=a) mu (.inl rfl) (λb q hb z=>(hs.2 b hb).trans z) he new
theorem JF {kvs:List (Key×V)} (z:kvs.length≤WO) (hd:(a==sysModules)=false) (rel:KV kvs vs) (dd:h'.DictOf (cM P w) a vs) :
    dD P w H' h' a (.dK kvs):=⟨z,hd,vs,rel,dd⟩
theorem z9 {Q:Unit→WT→Prop} (hu:A.units+1<cLine) (I:Inv X pins σ H s) (g:sY H a y v H') (ry:RelV y u) (rv:RelV v r) (h:∀ s',Inv X pins σ H' s'→Q () s') :
    Xe (model X.prog X.w) A (setItem (.ref a) u r) Q E s:=by
  rcases g with ⟨kvs,k,e,ey,l,eH⟩ | ⟨kvs,k,b,e,ey,eb,l,eH⟩
  · subst ey eH
    obtain ⟨z,hd,vs,rel,dd⟩:=MH I.hok e
    have hz:vs.length≤WO:=by rw [← rel.length];exact z
    have hl:(putK kvs k v).length≤WO:=by have:=ng kvs k v;nofun
    refine wpAny_setItem_pairs (hsz:=hz) (yL ry) dd λh' OF hs=>h _ ?_
    have he:∃ q,h'.get? a=some q:=let ⟨q,_,_,hq,_⟩:=OF;⟨q,hq⟩
    exact yM I (by rw [e];exact Zp) hs he (JF hl hd (rel.put k rv) OF)
  · subst ey eH
    cases (show u=Value.ref b from ry)
    obtain ⟨z,hd,xs,rel,dd⟩:=MJ I.hok e
    have hz:xs.length≤WO:=by rw [← Z4 rel];exact z
    have hl:(putK kvs k v).length≤WO:=by have:=ng kvs k v;nofun
    refine wpAny_setItem_heap (hsz:=hz) (tupleKind_room_in1 hu) (sX I.hok eb) dd λh' OF hs=>h _ ?_
    obtain ⟨q,es,ep,hq,h2,h3,h4,_,h5⟩:=OF
    refine yM I (by rw [e];exact Zp) hs ⟨q,hq⟩ ⟨hl,hd,_,(rel.put k eb rv).keeps λc ys ec=>?_,q,es,ep,hq,h2,h3,h4,h5⟩
    rw [az (dH ec e (λz=>nomatch z))]
    exact ec
end
noncomputable def EX (i:Expr):Prop:=∀ ov iv,subscripted i false ov iv=operate [ov,iv] (getItem ov iv)
theorem EY {prog:Xx} {w:XR} {A:Around} {E:V0→WT→Prop} {s:WT} {env:Env} {value slice:Expr} {pos:Pos} {T id:String} {Q:V0→WT→Prop}
    (hl:typeLookup (.type T) "__getitem__"=pure (some (.builtin id))) (hs:EX slice)
    (h:Xe (model prog w) A (eval value env) (λo s₁=>Xe (model prog w) A (eval slice env) (λi s₂=>s₂.TypeIs o T∧Xe (model prog w) A (getItem o i) Q E s₂) E s₁) E s) :
    Xe (model prog w) A (eval (.Subscript value slice pos) env) Q E s:=by
  refine Subscript_ (XH h (λo s₁ h₁=>XH h₁ (λi s₂ h₂=>?_) λ_ _ x=>x) λ_ _ x=>x)
  obtain ⟨hT,h₂⟩:=h₂
  unfold subscriptTail
  refine Us ?_
  rw [getitemInPython_of_ne hT.not_modules]
  refine Us (aa4 hT hl ?_)
  have fin:Xe (model prog w) A (subscripted slice false o i) (λr s₃=>Xe (model prog w) A (letTemporaryGo value o r >>= λ_=>pure r) Q E s₃) E s₂:=by
    rw [hs o i]
    exact wpAny_operating (XH h₂ (λr s₃ h₃=>Us (wpAny_letTemporaryGo (WY h₃))) λ_ _ x=>x)
  first
    | exact WY (Us fin)
    | exact Us (WY (Us fin))
    | exact Us fin
theorem uV {y:V} (I:Inv X pins σ H s) (g:uU H a y o):s.TypeIs (.ref a) "dict":=by
  rcases g with ⟨kvs,k,e,_,_⟩ | ⟨kvs,k,b,e,_,_,_⟩
  · obtain ⟨_,_,vs,_,dd⟩:=uS I.hok e
    exact dd.typeIs
  · obtain ⟨_,_,xs,_,dd⟩:=uT I.hok e
    exact dd.typeIs
noncomputable def MK (td ty:TE):TE:=λσ H Q=>td σ H λx H1=>ty σ H1 λy H2=>∃ a v,x=.ref a∧uU H2 a y (some v)∧Q v H2
noncomputable def ju (td ty tv:TE):TS:=λD σ H=>tv σ H λv H1=>td σ H1 λx H2=>ty σ H2 λy H3=>∃ a H4,x=.ref a∧sY H3 a y v H4∧D.nx σ H4
section
variable {X:Cx} {o i e value:Expr} {pos pos' tpos:Pos} {td ty tv:TE}
theorem EZ (hu:X.A.units+1<cLine) (ho:PE X o td) (hi:PE X i ty) (hs:EX i):PE X (.Subscript o i pos) (MK td ty):=by
  intro pins s σ H Q I h
  refine EY PySem.F.slot_dict_getitem.lookup hs (cY (ho pins s σ H _ I h) λu s1 ⟨x,H1,I1,rx,q1⟩=>cY (hi pins s1 σ H1 _ I1 q1) λiv s2 zz=>?_)
  obtain ⟨y,H2,I2,ry,a,v,ex,g,q2⟩:=zz
  subst ex
  obtain rfl:u=Value.ref a:=rx
  exact ⟨uV I2 g,z8 hu I2 g ry λw' s3 I3 rw'=>⟨v,H2,I3,rw',q2⟩⟩
theorem yN (hu:X.A.units+1<cLine) (ho:PE X o td) (hi:PE X i ty) (hv:PE X value tv) (hs:swapsWith value (some (.Subscript o i pos')) pos.line X.env=pure false) :
    PS X (.Assign [.Subscript o i pos'] value pos) (ju td ty tv):=by
  intro pins s σ H D I h
  refine wpAny_Assign_Subscript (cY (hv pins s σ H _ I h) λr s1 ⟨v,H1,I1,rv,q1⟩=>cY (ho pins s1 σ H1 _ I1 q1) λu s2 ⟨x,H2,I2,rx,q2⟩=>cY (hi pins s2 σ H2 _ I2 q2) λiv s3 zz=>?_) hs
  obtain ⟨y,H3,I3,ry,a,H4,ex,g,q3⟩:=zz
  subst ex
  obtain rfl:u=Value.ref a:=rx
  exact z9 hu I3 g ry rv λs4 I4=>⟨σ,H4,I4,q3⟩
end
theorem BO (h:Heap) (hb:sysModules<h.objs.size):dD P w H (h.push {cls:=.type "dict",data:=.dict #[]}) h.objs.size (.dK []):=
  ⟨XQ _,beq_eq_false_iff_ne.mpr (YE (Xa hb)),[],.nil,Heap.DictOf.new h⟩
theorem BP (h:Heap) (hb:sysModules<h.objs.size):dD P w H (h.push {cls:=.type "dict",data:=.dict #[]}) h.objs.size (.dT []):=
  ⟨XQ _,beq_eq_false_iff_ne.mpr (YE (Xa hb)),[],.nil,_,#[],0,W5 _ rfl,⟨rfl,rfl,rfl⟩,rfl,rfl,List.nodup_nil⟩
noncomputable def JG:TE:=λ_ H Q=>∀ p,H p=none→Q (.ref p) (upd H p (.dK []))
noncomputable def JH:TE:=λ_ H Q=>∀ p,H p=none→Q (.ref p) (upd H p (.dT []))
section
variable {X:Cx} {pos:Pos}
theorem BQ:PE X (.Dict [] [] pos) JG:=λpins s σ H Q I h=>
  abU ⟨.ref s.heap.objs.size,_,I.laid (a:=s.heap.objs.size) (o:=.dK []) (t':=s.toks) (λ_ _ q=>WQ _ q) (WZ _) (BO s.heap I.big),rfl,h _ (I.hok.fresh (WZ _))⟩
theorem BR:PE X (.Dict [] [] pos) JH:=λpins s σ H Q I h=>
  abU ⟨.ref s.heap.objs.size,_,I.laid (a:=s.heap.objs.size) (o:=.dT []) (t':=s.toks) (λ_ _ q=>WQ _ q) (WZ _) (BP s.heap I.big),rfl,h _ (I.hok.fresh (WZ _))⟩
end
structure M1 (X:Cx) (o:Expr) (m:Str) (apos:Pos) (e:Expr) (cpos:Pos):Prop where
  base:attributeBase o m X.env (eval o X.env)=eval o X.env
  few:((backTo cpos (Xh [e] X.env)).all (λx=>!x.1)&&(backToKw cpos (keywordEach [] X.env)).all (λx=>x.1.isSome)
    && decide (([e]:List Expr).length+([]:List Keyword).length+(if ([]:List Keyword).isEmpty then 0 else 1)<30))=true
  line:(apos.endLine==cpos.line)=true
  trees:backTo cpos (Xh [e] X.env)=[(false,eval e X.env)]
structure M2 (X:Cx) (o:Expr) (m:Str) (apos:Pos) (e f:Expr) (cpos:Pos):Prop where
  base:attributeBase o m X.env (eval o X.env)=eval o X.env
  few:((backTo cpos (Xh [e,f] X.env)).all (λx=>!x.1)&&(backToKw cpos (keywordEach [] X.env)).all (λx=>x.1.isSome)
    && decide (([e,f]:List Expr).length+([]:List Keyword).length+(if ([]:List Keyword).isEmpty then 0 else 1)<30))=true
  line:(apos.endLine==cpos.line)=true
  trees:backTo cpos (Xh [e,f] X.env)=[(false,eval e X.env),(false,eval f X.env)]
noncomputable def Rz (H:Hp) (a:Addr):Prop:=(∃ kvs,Rd H a (.dK kvs))∨∃ kvs,Rd H a (.dT kvs)
theorem JI (I:Inv X pins σ H s) (d:Rz H a) :
    s.TypeIs (.ref a) "dict"∧(∀ b,Value.ref a=.ref b→∃ ob,s.heap.get? b=some ob∧ob.dict=none)∧(a==sysModules)=false:=by
  rcases d with ⟨kvs,e⟩ | ⟨kvs,e⟩
  · obtain ⟨_,hd,vs,_,dd⟩:=uS I.hok e
    refine ⟨dd.typeIs,λb q=>?_,hd⟩
    cases q
    obtain ⟨ob,_,_,h1,h2,_⟩:=dd
    exact ⟨ob,h1,h2.2.1⟩
  · obtain ⟨_,hd,xs,_,dd⟩:=uT I.hok e
    refine ⟨dd.typeIs,λb q=>?_,hd⟩
    cases q
    obtain ⟨ob,_,_,h1,h2,_⟩:=dd
    exact ⟨ob,h1,h2.2.1⟩
section
variable {X:Cx} {pins:List (Addr×Obj)} {σ:St} {H:Hp} {s:WT} {a:Addr} {y d:V} {u r:V0} {o:Option V} {A:Around} {E:V0→WT→Prop}
theorem JJ (hu:A.units+1<cLine) (I:Inv X pins σ H s) (g:uU H a y o) (ry:RelV y u) (rd:RelV d r) (h:∀ w' s',Inv X pins σ H s'→RelV (o.getD d) w'→Q w' s') :
    Xe (model X.prog X.w) A (call (.builtin "dict.get") [.ref a,u,r]) Q E s:=by
  rcases g with ⟨kvs,k,e,ey,l⟩ | ⟨kvs,k,b,e,ey,eb,l⟩
  · subst ey
    obtain ⟨z,hd,vs,rel,dd⟩:=uS I.hok e
    refine call_meetsIn ZV dd.typeIs aaW (aaI _ _ _) (meets_dict_get_default (cM X.prog X.w) a (yL ry) hd r) ⟨_,dd.mapOf,h _ _ (I.tok _) ?_⟩
    rw [l]
    exact (rel.val k).getD rd
  · subst ey
    cases (show u=Value.ref b from ry)
    obtain ⟨z,hd,xs,rel,dd⟩:=uT I.hok e
    refine call_meetsIn ZV dd.typeIs aaW (aaI _ _ _) (meetsH_dict_get_default (tupleKind (cM X.prog X.w)) a b hd r) ⟨tupleKind_room_in1 hu,k,xs,sX I.hok eb,dd,h _ _ (I.tok _) ?_⟩
    rw [l]
    exact (rel.val k).getD rd
end
noncomputable def JK (td ty tx:TE):TE:=λσ H Q=>td σ H λx H1=>∃ a,x=.ref a∧Rz H1 a∧ty σ H1 λy H2=>tx σ H2 λz H3=>∃ o,uU H3 a y o∧Q (o.getD z) H3
section
variable {X:Cx} {o e f:Expr} {apos cpos:Pos} {td ty tx:TE}
theorem BS (hu:X.A.units+1<cLine) (ho:PE X o td) (he:PE X e ty) (hf:PE X f tx) (m:M2 X o "get" apos e f cpos):PE X (.Call (.Attribute o "get" apos) [e,f] [] cpos) (JK td ty tx):=by
  intro pins s σ H Q I h
  refine wpAny_Call_method m.base m.few m.line PySem.F.plainAttrs_dict ZV PySem.F.type_dict_get (cY (ho pins s σ H _ I h) λu s1 zz=>?_)
  obtain ⟨x,H1,I1,rx,a,ex,d,q1⟩:=zz
  subst ex
  obtain rfl:u=Value.ref a:=rx
  obtain ⟨t1,t2,_⟩:=JI I1 d
  refine ⟨t1,t2,?_⟩
  rw [m.trees]
  refine ZO rfl (abj (Yq (cY (he pins s1 σ H1 _ I1 q1) λiv s2 ⟨y,H2,I2,ry,q2⟩=>
    Yq (cY (hf pins s2 σ H2 _ I2 q2) λfv s3 ⟨z,H3,I3,rz,ov,g,q3⟩=>ZL ?_))))
  exact JJ hu I3 g ry rz λw' s4 I4 rw'=>⟨_,H3,I4,rw',q3⟩
end
end L2
set_option genInjectivity true
namespace L3
open PySem PySem.Spec L2
variable {K:WV} {mg:Str→Option V0} {ρ ρ0 fp ρ' ch:List Addr} {H H0 H':Hp} {pins gx:List (Addr×Obj)} {es:List Expr} {e tg:Expr} {σ σ0:L2.St} {Q E E':V0→WT→Prop} {n i nn ep t' tk n':Nat} {s s0 s1:WT} {a l it p c l2 l1 C i2 i1 c' z Pt c0:Addr} {items ys ps' ws its:Array V0} {xs vs vt:List V} {x y qual name y0:Str} {P prog Pg:Xx} {w:XR} {h h' base B:Heap} {body els:List Stmt} {u:List (List Key×V)} {cl:List (Str×Addr)} {A A':Around} {ks:List Bool} {ps N ns loose N':List Str} {fd:FuncData} {o oc fo:Obj} {Dd D':Ends} {tp t2 t1:Bool} {js:List Nat} {X:Cx} {gens:List Comprehension} {sc scope OH:Scope} {b o1 cdv a0:V0} {v:V} {gv:Int→Int→V} {lo hi j:Int} {XP:(Str→Option V0)→Heap→Prop} {op:CmpOp} {qs:List PyData} {outer:List Env} {env env':Env} {py px spos pos q p2:Pos} {YP:XR→Heap→Prop} {sl o4:Array (Option V0)} {Q':Bool→Hp→Prop} {α κ:Type} {own:List (Option V)} {ob:HO} {od o2:Option Addr} {dy:DefRec} {M':Model} {tz:Tok}
structure gy where
 name:Str
 qual:Str
 params:Arguments
 body:FuncBody
 scope:Scope
 pos:Pos
 names:List Str
variable {zc:gy}
noncomputable def freeNames (sc:Scope):List Str:=((sc.names.filter λq=>q.2==.free).map (·.1)).reverse
noncomputable def gT (q:Str):List Stmt→Option gy
 | .FunctionDef name params body _ _ _ scope _ _ pos::_=>some ⟨name,q++".<locals>."++name,params,.stmts body,scope,pos,freeNames scope⟩
 | .Assign [_] (.Call _ es _ _) _::r=>match es.getLast? with
  | some (.Lambda params body scope pos)=>some ⟨"<lambda>",q++".<locals>."++"<lambda>",params,.expr body,scope,pos,freeNames scope⟩
  | _=>gT q r
 | .Return (some (.Call _ es _ _)) _::r=>match es.getLast? with
  | some (.Lambda params body scope pos)=>some ⟨"<lambda>",q++".<locals>."++"<lambda>",params,.expr body,scope,pos,freeNames scope⟩
  | _=>gT q r
 | _::r=>gT q r
 | []=>none
noncomputable def nh (K:WV) (mg:Str→Option V0) (y:Str):Option gy:=match mg y with
 | some (.ref f)=>(match K.lookup f with
  | some ⟨_,_,.func fd,_⟩=>(match fd.body with
   | .stmts b=>gT fd.qualname b
   | _=>none)
  | _=>none)
 | _=>none
inductive D where
 | eO | bl (b:Bool) | int (i:Int) | str (x:Str) | tup (xs:List D) | con (xs:List D) | obj (n:Nat) | fn (x:Str) | xh (cls:Str) (args:List D) | ig (y:Str) (caps:List D)
variable {ds os acc zs ds' caps:List D} {gO:D→Option (List D)} {kvs:List (List Key×D)}
inductive DO where
 | lst (xs:List D)
 | dead
 | dct (kvs:List (Key×D))
 | tab (y:Str)
 | fE (fz:Bool) (kvs:List (List Key×D))
noncomputable abbrev DH:=List DO
variable {G G0 G':DH}
noncomputable abbrev DS:=List (Option D)
variable {τ:DS}
inductive XD where
 | mk (cls:Str) (args:List D)
inductive Out (α:Type) where
 | stuck
 | ok (a:α) (G:DH)
 | bH (c:XD) (G:DH)
noncomputable abbrev M (α:Type):=DH→Out α
variable {m te mo me:DS→M D} {f:D→D→M D} {r:DS→M (List D)} {tt:DS→M Bool} {mf m0:List D→M D} {Pr:Str→Nat→(List D→M D)→Prop} {ml mh:DS→M (Option Int)}
noncomputable def M.bind {α β:Type} (m:M α) (k:α→M β):M β:=λG=>match m G with
 | .stuck=>.stuck
 | .ok a G'=>k a G'
 | .bH c G'=>.bH c G'
noncomputable def M.ret {α:Type} (a:α):M α:=λG=>.ok a G
noncomputable def M.stop {α:Type}:M α:=λ_=>.stuck
noncomputable def rG (H:Hp) (a:Addr) (xs:List V):Prop:=H a=some (.tup xs)
theorem rG.of (h:H a=some (.tup xs)):rG H a xs:=h
theorem rG.t (h:rG H a xs):kC K H a xs:=.inl (.inl h)
instance {K:WV} {H:Hp} {a:Addr} {xs:List V}:Coe (rG H a xs) (kC K H a xs):=⟨rG.t⟩
noncomputable def E0 (K:WV) (H:Hp) (a:Addr) (xs:List V):Prop:=
 (∃ o,H a=some (.cV o (.lst xs))) ∨
  ∃ (o:Obj) (its:Array V0) (n:Nat),K.lookup a=some o∧o.cls=.type "list"∧o.dict=none∧o.data=.seq its n∧its.size≤WO∧Vals xs its.toList
theorem E0.seq (h:E0 K H a xs):jY K H a xs:=by
 rcases h with ⟨o,h⟩ | h
 ·exact .inl (.inr ⟨o,h⟩)
 ·exact .inr h
noncomputable def ML (a:Addr) (cv:V0):Heap→Prop:=λh=>∃ o,h.get? a=some o∧o.cls=cv
noncomputable abbrev uW (k:gy) (cs:List Addr) (doc pm:V0) (c:Addr) (ctv:V0):FuncData:=
 {name:=k.name,qualname:=k.qual,params:=k.params,body:=k.body,scope:=k.scope,globals:=mainGlobals,closure:=k.names.zip cs,defaults:=.none,kwdefaults:=.none,doc,pyModule:=pm,annotations:=none,code:=.ref c,closureTuple:=ctv,builtins:=builtinsNs}
noncomputable abbrev fV (k:gy) (cs:List Addr) (doc pm:V0) (c:Addr) (ctv:V0):Obj:={cls:=.type "function",data:=.func (uW k cs doc pm c ctv)}
noncomputable def uX (H:Hp) (a:Addr) (o:Obj):Prop:=H a=some (.cV o (.own 0))
noncomputable def mE (H:Hp) (c:Addr) (qual:Str):Prop:=∃ (oc:Obj) (vs:Array V0) (t:Tok),uX H c oc∧oc.data=.fields vs∧vs[1]?=some (.str qual t)
noncomputable def ni (H:Hp) (k:gy) (a:Addr) (cs:List Addr):Prop:=cs.length=k.names.length∧cs.Nodup∧∃ (doc pm ctv:V0) (c:Addr),uX H a (fV k cs doc pm c ctv)∧mE H c k.qual
noncomputable def c9 (H:Hp):List Addr→List V→Prop
 | [],xs=>xs=[]
 | c::cs,xs=>∃ (x:V) (r:List V) (o:Obj) (u:V0),xs=x::r∧uX H c o∧o.data=.cell (some u)∧RelV x u∧c9 H cs r
mutual
noncomputable def Rep (K:WV) (mg:Str→Option V0) (ρ:List Addr) (H:Hp):D→V→Prop
 | .eO,v=>v=.eO
 | .bl b,v=>v=.bl b
 | .int i,v=>v=.int i
 | .str x,v=>v=.str x
 | .tup ds,v=>∃ a xs,v=.ref a∧rG H a xs∧au K mg ρ H ds xs
 | .con ds,v=>∃ a xs,v=.ref a∧E0 K H a xs∧au K mg ρ H ds xs
 | .obj n,v=>∃ a,v=.ref a∧ρ[n]?=some a
 | .fn x,v=>∃ a,v=.ref a∧mg x=some (.ref a)
 | .xh c _,v=>∃ a cv,v=.ref a∧mg c=some cv∧H a=some (.ext (ML a cv))
 | .ig y ds,v=>∃ k a cs xs,v=.ref a∧nh K mg y=some k∧ni H k a cs∧c9 H cs xs∧au K mg ρ H ds xs
noncomputable def au (K:WV) (mg:Str→Option V0) (ρ:List Addr) (H:Hp):List D→List V→Prop
 | [],vs=>vs=[]
 | d::ds,vs=>∃ v r,vs=v::r∧Rep K mg ρ H d v∧au K mg ρ H ds r
end
theorem mE.mono {q:Str} (h:mE H c q) (f:∀ a o u,H a=some (.cV o u)→H' a=some (.cV o u)):mE H' c q:=by
 obtain ⟨oc,vs,t,e,r⟩:=h
 exact ⟨oc,vs,t,f _ _ _ e,r⟩
theorem ni.mono {k:gy} {cs:List Addr} (h:ni H k a cs) (f:∀ a o u,H a=some (.cV o u)→H' a=some (.cV o u)):ni H' k a cs:=by
 obtain ⟨l,n,doc,pm,ctv,c,e,r⟩:=h
 exact ⟨l,n,doc,pm,ctv,c,f _ _ _ e,r.mono f⟩
theorem c9.mono (f:∀ a o u,H a=some (.cV o u)→H' a=some (.cV o u)):∀ {cs:List Addr} {xs:List V},c9 H cs xs→c9 H' cs xs
 | [],xs,h=>h
 | c::cs,xs,⟨x,r,o,u,e,h1,h2,h3,h4⟩=>⟨x,r,o,u,e,f _ _ _ h1,h2,h3,h4.mono f⟩
structure cC (K:WV) (H H':Hp) (ρ ρ':List Addr):Prop where
 tup:∀ a xs,rG H a xs→rG H' a xs
 cV:∀ a o u,H a=some (.cV o u)→H' a=some (.cV o u)
 pre:∃ r,ρ'=ρ++r
 ext:∀ a φ,H a=some (.ext φ)→H' a=some (.ext φ)
section
variable {K:WV} {mg:Str→Option V0} {H H' H1 H2:Hp} {ρ ρ' ρ1 ρ2:List Addr}
theorem cC.con (f:cC K H H' ρ ρ') (a:Addr) (xs:List V) (h:E0 K H a xs):E0 K H' a xs:=by
 rcases h with ⟨o,h⟩ | h
 ·exact .inl ⟨o,f.cV _ _ _ h⟩
 ·exact .inr h
theorem cC.refl:cC K H H ρ ρ:=⟨λ_ _ h=>h,λ_ _ _ h=>h,⟨[],by simp⟩,λ_ _ h=>h⟩
theorem cC.trans (a:cC K H H1 ρ ρ1) (b:cC K H1 H2 ρ1 ρ2):cC K H H2 ρ ρ2:=by
 obtain ⟨r1,e1⟩:=a.pre
 obtain ⟨r2,e2⟩:=b.pre
 exact ⟨λx xs h=>b.tup x xs (a.tup x xs h),λx o u h=>b.cV x o u (a.cV x o u h),⟨r1++r2,by rw [e2,e1,Yk]⟩,λx φ h=>b.ext x φ (a.ext x φ h)⟩
theorem cC.get (f:cC K H H' ρ ρ') {n:Nat} {a:Addr} (h:ρ[n]?=some a):ρ'[n]?=some a:=by
 obtain ⟨r,e⟩:=f.pre
 rw [e,W7 (WS.mp h).1];exact h
mutual
theorem Rep.mono (f:cC K H H' ρ ρ'):∀ (d:D) (v:V),Rep K mg ρ H d v→Rep K mg ρ' H' d v
 | .eO,v,h=>by unfold Rep at h ⊢;exact h
 | .bl b,v,h=>by unfold Rep at h ⊢;exact h
 | .int i,v,h=>by unfold Rep at h ⊢;exact h
 | .str x,v,h=>by unfold Rep at h ⊢;exact h
 | .tup ds,v,h=>by
  unfold Rep at h ⊢
  obtain ⟨a,xs,e,s,r⟩:=h
  exact ⟨a,xs,e,f.tup _ _ s,au.mono f ds xs r⟩
 | .con ds,v,h=>by
  unfold Rep at h ⊢
  obtain ⟨a,xs,e,s,r⟩:=h
  exact ⟨a,xs,e,f.con _ _ s,au.mono f ds xs r⟩
 | .obj n,v,h=>by
  unfold Rep at h ⊢
  obtain ⟨a,e,r⟩:=h
  exact ⟨a,e,f.get r⟩
 | .fn x,v,h=>by unfold Rep at h ⊢;exact h
 | .xh c as,v,h=>by
  unfold Rep at h ⊢
  obtain ⟨a,cv,e,m,r⟩:=h
  exact ⟨a,cv,e,m,f.ext _ _ r⟩
 | .ig k ds,v,h=>by
  unfold Rep at h ⊢
  obtain ⟨k,a,cs,xs,e,h0,h1,h2,h3⟩:=h
  exact ⟨k,a,cs,xs,e,h0,h1.mono f.cV,h2.mono f.cV,au.mono f ds xs h3⟩
theorem au.mono (f:cC K H H' ρ ρ'):∀ (ds:List D) (vs:List V),au K mg ρ H ds vs→au K mg ρ' H' ds vs
 | [],vs,h=>by unfold au at h ⊢;exact h
 | d::ds,vs,h=>by
  unfold au at h ⊢
  obtain ⟨v,r,e,h1,h2⟩:=h
  exact ⟨v,r,e,Rep.mono f d v h1,au.mono f ds r h2⟩
end
theorem au.length:∀ {ds:List D} {vs:List V},au K mg ρ H ds vs→ds.length=vs.length
 | [],vs,h=>by unfold au at h;subst h;rfl
 | d::ds,vs,h=>by
  unfold au at h
  obtain ⟨v,r,rfl,_,h2⟩:=h
  simp [au.length h2]
theorem au.nil:au K mg ρ H [] []:=by unfold au;rfl
theorem au.cons {d:D} {v:V} {ds:List D} {vs:List V} (h:Rep K mg ρ H d v) (t:au K mg ρ H ds vs):au K mg ρ H (d::ds) (v::vs):=by
 unfold au;exact ⟨v,vs,rfl,h,t⟩
theorem au.get:∀ {ds:List D} {vs:List V} {i:Nat} {d:D},au K mg ρ H ds vs→ds[i]?=some d→∃ v,vs[i]?=some v∧Rep K mg ρ H d v
 | [],vs,i,d,h,e=>by simp at e
 | x::ds,vs,0,d,h,e=>by
  unfold au at h
  obtain ⟨v,r,rfl,h1,_⟩:=h
  simp at e;subst e
  exact ⟨v,rfl,h1⟩
 | x::ds,vs,i+1,d,h,e=>by
  unfold au at h
  obtain ⟨v,r,rfl,_,h2⟩:=h
  obtain ⟨u,e1,e2⟩:=au.get (i:=i) (d:=d) h2 (by simpa using e)
  exact ⟨u,by simpa using e1,e2⟩
theorem au.append:∀ {ds es:List D} {vs us:List V},au K mg ρ H ds vs→au K mg ρ H es us→au K mg ρ H (ds++es) (vs++us)
 | [],es,vs,us,h,h'=>by unfold au at h;subst h;exact h'
 | d::ds,es,vs,us,h,h'=>by
  unfold au at h
  obtain ⟨v,r,rfl,h1,h2⟩:=h
  exact .cons h1 (au.append h2 h')
theorem au.take:∀ (n:Nat) {ds:List D} {vs:List V},au K mg ρ H ds vs→au K mg ρ H (ds.take n) (vs.take n)
 | 0,_,_,_=>by simpa using au.nil
 | n+1,[],vs,h=>by unfold au at h;subst h;simpa using au.nil
 | n+1,d::ds,vs,h=>by
  unfold au at h
  obtain ⟨v,r,rfl,h1,h2⟩:=h
  exact .cons h1 (au.take n h2)
theorem au.drop:∀ (n:Nat) {ds:List D} {vs:List V},au K mg ρ H ds vs→au K mg ρ H (ds.drop n) (vs.drop n)
 | 0,_,_,h=>by simpa using h
 | n+1,[],vs,h=>by unfold au at h;subst h;simpa using au.nil
 | n+1,d::ds,vs,h=>by
  unfold au at h
  obtain ⟨v,r,rfl,h1,h2⟩:=h
  simpa using au.drop n h2
theorem au.ints:∀ (ns:List Int),au K mg ρ H (ns.map D.int) (ns.map V.int)
 | []=>.nil
 | n::ns=>.cons (by unfold Rep;rfl) (au.ints ns)
end
noncomputable def E6 (K:WV) (mg:Str→Option V0) (ρ:List Addr) (H:Hp) (a:Addr):DO→Prop
 | .lst ds=>∃ xs,H a=some (.lst xs)∧au K mg ρ H ds xs
 | .dead=>∃ o,H a=some o
 | .dct kvs=>∃ xs,H a=some (.dK ((kvs.map (·.1)).zip xs))∧au K mg ρ H (kvs.map (·.2)) xs
 | .tab y=>∃ (ps:Array V0) (c:Addr) (k:gy),H a=some (.k9 ps)∧YG K y=some (c,a)∧nh K mg y=some k∧(ps=#[]∨∃ c',ps=#[Y6 k.pos.line,Y6 k.pos.col,.ref c']∧mE H c' k.qual)
 | .fE fz kvs=>∃ xs,(if fz=true then ∃ o,H a=some (.cV o (.dT ((kvs.map (·.1)).zip xs))) else H a=some (.dT ((kvs.map (·.1)).zip xs)))∧au K mg ρ H (kvs.map (·.2)) xs
structure eS (K:WV) (mg:Str→Option V0) (H:Hp) (ρ:List Addr) (G:DH):Prop where
 hl:ρ.length=G.length
 nd:ρ.Nodup
 ob:∀ (n:Nat) (o:DO),G[n]?=some o→∃ a,ρ[n]?=some a∧E6 K mg ρ H a o
noncomputable def oG (K:WV) (mg:Str→Option V0) (H:Hp) (ρ:List Addr) (σ:St) (τ:DS):Prop:=
 σ.length=τ.length∧∀ (i:Nat) (d:D),τ[i]?=some (some d)→∃ v,σ[i]?=some (some v)∧Rep K mg ρ H d v
structure Ab (K:WV) (mg:Str→Option V0) (σ:St) (H:Hp) (τ:DS) (ρ:List Addr) (G:DH):Prop where
 st:oG K mg H ρ σ τ
 hp:eS K mg H ρ G
section
variable {K:WV} {mg:Str→Option V0} {H H' H1 H2:Hp} {ρ ρ' ρ1 ρ2:List Addr} {G G':DH} {σ:L2.St} {τ:DS}
theorem oG.mono (f:cC K H H' ρ ρ') (h:oG K mg H ρ σ τ):oG K mg H' ρ' σ τ:=⟨h.1,λi d e=>by
 obtain ⟨v,e1,r⟩:=h.2 i d e
 exact ⟨v,e1,r.mono f⟩⟩
theorem oG.set {d:D} (h:oG K mg H ρ σ τ) (r:Rep K mg ρ H d v):oG K mg H ρ (σ.set i (some v)) (τ.set i (some d)):=by
 refine ⟨by simp [h.1],λj e he=>?_⟩
 by_cases hj:i=j
 ·subst hj
  rw [XW] at he
  by_cases hi:i<τ.length
  ·rw [if_pos rfl,if_pos hi] at he
   cases he
   exact ⟨v,by rw [XW,if_pos rfl,if_pos (by rw [h.1];exact hi)],r⟩
  ·rw [if_pos rfl,if_neg hi] at he
   cases he
 ·rw [XC hj] at he
  obtain ⟨u,e1,r1⟩:=h.2 j e he
  exact ⟨u,by rw [XC hj];exact e1,r1⟩
theorem Ab.fut (ab:Ab K mg σ H τ ρ G) (f:cC K H H' ρ ρ') (hp:eS K mg H' ρ' G'):Ab K mg σ H' τ ρ' G':=⟨ab.st.mono f,hp⟩
theorem eS.lst (h:eS K mg H ρ G) (e:G[n]?=some (.lst ds)):∃ a xs,ρ[n]?=some a∧H a=some (.lst xs)∧au K mg ρ H ds xs:=by
 obtain ⟨a,e1,xs,e2,r⟩:=h.ob n _ e
 exact ⟨a,xs,e1,e2,r⟩
theorem eS.there (h:eS K mg H ρ G) (e:ρ[n]?=some a):∃ o,H a=some o:=by
 have hn:n<G.length:=by rw [← h.hl];exact (WS.mp e).1
 obtain ⟨a',e1,r⟩:=h.ob n G[n] (W2 hn)
 rw [e] at e1;cases e1
 cases hg:G[n] with
 | lst xs=>rw [hg] at r;obtain ⟨ys,e2,_⟩:=r;exact ⟨_,e2⟩
 | dead=>rw [hg] at r;exact r
 | dct kv=>rw [hg] at r;obtain ⟨ys,e2,_⟩:=r;exact ⟨_,e2⟩
 | tab t=>rw [hg] at r;obtain ⟨ps,c,k,e2,_⟩:=r;exact ⟨_,e2⟩
 | fE fz kv=>
  rw [hg] at r;obtain ⟨ys,e2,_⟩:=r
  cases fz
  ·exact ⟨_,e2⟩
  ·obtain ⟨o,e2⟩:=e2;exact ⟨_,e2⟩
theorem eS.not_mem (h:eS K mg H ρ G) (hp:H p=none):p∉ρ:=λhm=>by
 obtain ⟨n,hn,e⟩:=Yo hm
 obtain ⟨o,q⟩:=h.there (n:=n) (a:=p) (by rw [W2 hn,e])
 rw [hp] at q;cases q
theorem E6.mono {o:DO} (f:cC K H H' ρ ρ') (he:∀ u,H a=some u→H' a=some u) (h:E6 K mg ρ H a o):E6 K mg ρ' H' a o:=by
 cases o with
 | lst ds=>
  obtain ⟨xs,e,r⟩:=h
  exact ⟨xs,he _ e,r.mono f⟩
 | dead=>
  obtain ⟨o,e⟩:=h
  exact ⟨o,he _ e⟩
 | dct kv=>
  obtain ⟨xs,e,r⟩:=h
  exact ⟨xs,he _ e,r.mono f⟩
 | tab t=>
  obtain ⟨ps,c,k,e,q,q2,r⟩:=h
  exact ⟨ps,c,k,he _ e,q,q2,r.imp id λzz=>by obtain ⟨c',e,z⟩:=zz;exact ⟨c',e,z.mono f.cV⟩⟩
 | fE fz kv=>
  obtain ⟨xs,e,r⟩:=h
  refine ⟨xs,?_,r.mono f⟩
  cases fz
  ·exact he _ e
  ·obtain ⟨o,e⟩:=e;exact ⟨o,he _ e⟩
theorem cR {o:HO} (hp:H p=none) (ρ:List Addr):cC K H (upd H p o) ρ ρ:=by
 refine ⟨λa xs h=>?_,λa q u h=>by rw [az (cy h hp)];exact h,⟨[],by simp⟩,λa φ h=>by rw [az (cy h hp)];exact h⟩
 ·rw [rG] at h ⊢;rw [az (cy h hp)];exact h
theorem sZ {ys:List V} (hp:H p=some (.lst xs)) (ρ:List Addr):cC K H (upd H p (.lst ys)) ρ ρ:=by
 refine ⟨λa zs h=>?_,λa q u h=>by rw [az (dH h hp (by intro z;cases z))];exact h,⟨[],by simp⟩,λa φ h=>by rw [az (dH h hp (by intro z;cases z))];exact h⟩
 ·rw [rG] at h ⊢;rw [az (dH h hp (by intro z;cases z))];exact h
theorem eS.new {o:HO} (h:eS K mg H ρ G) (hp:H p=none):eS K mg (upd H p o) ρ G:=
 ⟨h.hl,h.nd,λn ob e=>by
  obtain ⟨a,e1,r⟩:=h.ob n ob e
  exact ⟨a,e1,r.mono (cR hp ρ) λu q=>by rw [az (cy q hp)];exact q⟩⟩
theorem aC (l:List α) (a:α):(l++[a])[l.length]?=some a:=by simp
theorem cS (ρ:List Addr) (p:Addr):cC K H H ρ (ρ++[p]):=⟨λ_ _ h=>h,λ_ _ _ h=>h,⟨[p],rfl⟩,λ_ _ h=>h⟩
theorem eS.more (h:eS K mg H ρ G) (hp:H p=none) (r:au K mg ρ H ds xs):eS K mg (upd H p (.lst xs)) (ρ++[p]) (G++[.lst ds]):=by
 have f:cC K H (upd H p (.lst xs)) ρ (ρ++[p]):=(cR hp ρ).trans (cS ρ p)
 refine ⟨by simp [h.hl],?_,λn ob e=>?_⟩
 ·rw [Y7]
  refine ⟨h.nd,by simp,λa ha b hb=>?_⟩
  have e:b=p:=by simpa using hb
  subst e
  rintro rfl
  exact h.not_mem hp ha
 ·by_cases hn:n<G.length
  ·rw [W7 hn] at e
   obtain ⟨a,e1,r'⟩:=h.ob n ob e
   exact ⟨a,f.get e1,r'.mono f λu q=>by rw [az (cy q hp)];exact q⟩
  ·have hl:n<(G++[DO.lst ds]).length:=(WS.mp e).1
   have hn':n=G.length:=by simp at hl;nofun
   subst hn'
   rw [aC] at e
   cases e
   refine ⟨p,by rw [← h.hl,aC],xs,aM,r.mono f⟩
theorem eS.put {ds es:List D} {ys:List V} (h:eS K mg H ρ G) (hn:ρ[n]?=some a) (ha:H a=some (.lst xs)) (r:au K mg ρ H es ys):eS K mg (upd H a (.lst ys)) ρ (G.set n (.lst es)):=by
 have f:cC K H (upd H a (.lst ys)) ρ ρ:=sZ ha ρ
 refine ⟨by simp [h.hl],h.nd,λm ob e=>?_⟩
 by_cases hm:n=m
 ·subst hm
  rw [XW,if_pos rfl] at e
  split at e
  ·cases e
   exact ⟨a,hn,ys,aM,r.mono f⟩
  ·cases e
 ·rw [XC hm] at e
  obtain ⟨b,e1,r'⟩:=h.ob m ob e
  have hb:b≠a:=by
   rintro rfl
   obtain ⟨h1,xj⟩:=WS.mp hn
   obtain ⟨h2,yO⟩:=WS.mp e1
   exact hm ((Yh h.nd).mp (xj.trans yO.symm))
  exact ⟨b,e1,r'.mono f λu q=>by rw [az hb];exact q⟩
end
noncomputable abbrev cz:=XD→St→Hp→Prop
variable {EE:cz}
section
variable (K:WV) (mg:Str→Option V0) (EE:cz)
noncomputable def iM (H:Hp) (σ:St) (τ:DS) (ρ:List Addr):Out D→VK→Prop
 | .stuck,_=>False
 | .ok d G',Q=>∀ v H' ρ',cC K H H' ρ ρ'→Ab K mg σ H' τ ρ' G'→Rep K mg ρ' H' d v→Q v H'
 | .bH c G',_=>∀ H' ρ',cC K H H' ρ ρ'→Ab K mg σ H' τ ρ' G'→EE c σ H'
noncomputable def E7 (H:Hp) (σ:St) (τ:DS) (ρ:List Addr):Out Bool→(Bool→Hp→Prop)→Prop
 | .stuck,_=>False
 | .ok b G',Q=>∀ H' ρ',cC K H H' ρ ρ'→Ab K mg σ H' τ ρ' G'→Q b H'
 | .bH c G',_=>∀ H' ρ',cC K H H' ρ ρ'→Ab K mg σ H' τ ρ' G'→EE c σ H'
noncomputable def MM (H:Hp) (σ:St) (τ:DS) (ρ:List Addr):Out (List D)→(List V→Hp→Prop)→Prop
 | .stuck,_=>False
 | .ok ds G',Q=>∀ vs H' ρ',cC K H H' ρ ρ'→Ab K mg σ H' τ ρ' G'→au K mg ρ' H' ds vs→Q vs H'
 | .bH c G',_=>∀ H' ρ',cC K H H' ρ ρ'→Ab K mg σ H' τ ρ' G'→EE c σ H'
noncomputable def bJ (m:DS→M D):TE:=λσ H Q=>∃ τ ρ G,Ab K mg σ H τ ρ G∧iM K mg EE H σ τ ρ (m τ G) Q
noncomputable def liftT (m:DS→M Bool):TT:=λσ H Q=>∃ τ ρ G,Ab K mg σ H τ ρ G∧E7 K mg EE H σ τ ρ (m τ G) Q
noncomputable def gU (m:DS→M (List D)):TA:=λσ H Q=>∃ τ ρ G,Ab K mg σ H τ ρ G∧MM K mg EE H σ τ ρ (m τ G) Q
inductive Res where
 | stuck
 | nx (τ:DS) (G:DH)
 | rt (d:D) (G:DH)
 | bk (τ:DS) (G:DH)
 | ct (τ:DS) (G:DH)
 | xn (c:XD) (τ:DS) (G:DH)
noncomputable def qH (H:Hp) (ρ:List Addr) (Dd:Ends):Res→Prop
 | .stuck=>False
 | .nx τ G=>∀ σ' H' ρ',cC K H H' ρ ρ'→Ab K mg σ' H' τ ρ' G→Dd.nx σ' H'
 | .bk τ G=>∀ σ' H' ρ',cC K H H' ρ ρ'→Ab K mg σ' H' τ ρ' G→Dd.bk σ' H'
 | .ct τ G=>∀ σ' H' ρ',cC K H H' ρ ρ'→Ab K mg σ' H' τ ρ' G→Dd.ct σ' H'
 | .rt d G=>∀ v H' ρ',cC K H H' ρ ρ'→eS K mg H' ρ' G→Rep K mg ρ' H' d v→Dd.rt v H'
 | .xn c τ G=>∀ σ' H' ρ',cC K H H' ρ ρ'→Ab K mg σ' H' τ ρ' G→EE c σ' H'
noncomputable abbrev MS:=DS→DH→Res
noncomputable def gg (m:MS):TS:=λDd σ H=>∃ τ ρ G,Ab K mg σ H τ ρ G∧qH K mg EE H ρ Dd (m τ G)
end
variable {ms:MS}
section
variable {K:WV} {mg:Str→Option V0} {EE:cz} {H H1:Hp} {σ:L2.St} {τ:DS} {ρ ρ1:List Addr}
theorem iM.fut {r:Out D} {Q:VK} (f:cC K H H1 ρ ρ1) (h:iM K mg EE H σ τ ρ r Q):iM K mg EE H1 σ τ ρ1 r Q:=by
 cases r with
 | stuck=>exact h
 | ok d G'=>exact λv H' ρ' f'=>h v H' ρ' (f.trans f')
 | bH c G'=>exact λH' ρ' f'=>h H' ρ' (f.trans f')
theorem E7.fut {r:Out Bool} {Q:Bool→Hp→Prop} (f:cC K H H1 ρ ρ1) (h:E7 K mg EE H σ τ ρ r Q):E7 K mg EE H1 σ τ ρ1 r Q:=by
 cases r with
 | stuck=>exact h
 | ok d G'=>exact λH' ρ' f'=>h H' ρ' (f.trans f')
 | bH c G'=>exact λH' ρ' f'=>h H' ρ' (f.trans f')
theorem MM.fut {r:Out (List D)} {Q:List V→Hp→Prop} (f:cC K H H1 ρ ρ1) (h:MM K mg EE H σ τ ρ r Q):MM K mg EE H1 σ τ ρ1 r Q:=by
 cases r with
 | stuck=>exact h
 | ok d G'=>exact λv H' ρ' f'=>h v H' ρ' (f.trans f')
 | bH c G'=>exact λH' ρ' f'=>h H' ρ' (f.trans f')
theorem qH.fut {r:Res} (f:cC K H H1 ρ ρ1) (h:qH K mg EE H ρ Dd r):qH K mg EE H1 ρ1 Dd r:=by
 cases r with
 | stuck=>exact h
 | nx τ G=>exact λs H' ρ' f'=>h s H' ρ' (f.trans f')
 | bk τ G=>exact λs H' ρ' f'=>h s H' ρ' (f.trans f')
 | ct τ G=>exact λs H' ρ' f'=>h s H' ρ' (f.trans f')
 | rt d G=>exact λs H' ρ' f'=>h s H' ρ' (f.trans f')
 | xn c τ G=>exact λs H' ρ' f'=>h s H' ρ' (f.trans f')
theorem i6 {k:DS→D→M D} {Q:VK} (h:bJ K mg EE (λτ=>(m τ).bind (k τ)) σ H Q) :
  bJ K mg EE m σ H λx H1=>∃ τ ρ G d,Ab K mg σ H1 τ ρ G∧Rep K mg ρ H1 d x∧iM K mg EE H1 σ τ ρ (k τ d G) Q:=by
 obtain ⟨τ,ρ,G,ab,ok⟩:=h
 refine ⟨τ,ρ,G,ab,?_⟩
 dsimp only [M.bind] at ok
 cases e:m τ G with
 | stuck=>rw [e] at ok;exact ok
 | bH c G'=>rw [e] at ok;exact ok
 | ok d G'=>rw [e] at ok;exact λv H' ρ' f aZ r=>⟨τ,ρ',G',d,aZ,r,ok.fut f⟩
theorem BU {k:DS→D→M Bool} {Q:Bool→Hp→Prop} (h:liftT K mg EE (λτ=>(m τ).bind (k τ)) σ H Q) :
  bJ K mg EE m σ H λx H1=>∃ τ ρ G d,Ab K mg σ H1 τ ρ G∧Rep K mg ρ H1 d x∧E7 K mg EE H1 σ τ ρ (k τ d G) Q:=by
 obtain ⟨τ,ρ,G,ab,ok⟩:=h
 refine ⟨τ,ρ,G,ab,?_⟩
 dsimp only [M.bind] at ok
 cases e:m τ G with
 | stuck=>rw [e] at ok;exact ok
 | bH c G'=>rw [e] at ok;exact ok
 | ok d G'=>rw [e] at ok;exact λv H' ρ' f aZ r=>⟨τ,ρ',G',d,aZ,r,ok.fut f⟩
theorem xJ {m:DS→M Bool} {k:DS→Bool→M Bool} {Q:Bool→Hp→Prop} (h:liftT K mg EE (λτ=>(m τ).bind (k τ)) σ H Q) :
  liftT K mg EE m σ H λb H1=>∃ τ ρ G,Ab K mg σ H1 τ ρ G∧E7 K mg EE H1 σ τ ρ (k τ b G) Q:=by
 obtain ⟨τ,ρ,G,ab,ok⟩:=h
 refine ⟨τ,ρ,G,ab,?_⟩
 dsimp only [M.bind] at ok
 cases e:m τ G with
 | stuck=>rw [e] at ok;exact ok
 | bH c G'=>rw [e] at ok;exact ok
 | ok d G'=>rw [e] at ok;exact λH' ρ' f aZ=>⟨τ,ρ',G',aZ,ok.fut f⟩
theorem BV {k:DS→D→M (List D)} {Q:List V→Hp→Prop} (h:gU K mg EE (λτ=>(m τ).bind (k τ)) σ H Q) :
  bJ K mg EE m σ H λx H1=>∃ τ ρ G d,Ab K mg σ H1 τ ρ G∧Rep K mg ρ H1 d x∧MM K mg EE H1 σ τ ρ (k τ d G) Q:=by
 obtain ⟨τ,ρ,G,ab,ok⟩:=h
 refine ⟨τ,ρ,G,ab,?_⟩
 dsimp only [M.bind] at ok
 cases e:m τ G with
 | stuck=>rw [e] at ok;exact ok
 | bH c G'=>rw [e] at ok;exact ok
 | ok d G'=>rw [e] at ok;exact λv H' ρ' f aZ r=>⟨τ,ρ',G',d,aZ,r,ok.fut f⟩
theorem i7 {m:DS→M (List D)} {k:DS→List D→M D} {Q:VK} (h:bJ K mg EE (λτ=>(m τ).bind (k τ)) σ H Q) :
  gU K mg EE m σ H λx H1=>∃ τ ρ G d,Ab K mg σ H1 τ ρ G∧au K mg ρ H1 d x∧iM K mg EE H1 σ τ ρ (k τ d G) Q:=by
 obtain ⟨τ,ρ,G,ab,ok⟩:=h
 refine ⟨τ,ρ,G,ab,?_⟩
 dsimp only [M.bind] at ok
 cases e:m τ G with
 | stuck=>rw [e] at ok;exact ok
 | bH c G'=>rw [e] at ok;exact ok
 | ok d G'=>rw [e] at ok;exact λv H' ρ' f aZ r=>⟨τ,ρ',G',d,aZ,r,ok.fut f⟩
noncomputable def bN {α:Type} (m:M α) (k:α→DH→Res) (x:XD→DH→Res):DH→Res:=λG=>match m G with
 | .stuck=>.stuck
 | .ok a G'=>k a G'
 | .bH c G'=>x c G'
theorem oH {k:DS→D→DH→Res} (h:gg K mg EE (λτ=>bN (m τ) (k τ) λc G=>.xn c τ G) Dd σ H) :
  bJ K mg EE m σ H λx H1=>∃ τ ρ G d,Ab K mg σ H1 τ ρ G∧Rep K mg ρ H1 d x∧qH K mg EE H1 ρ Dd (k τ d G):=by
 obtain ⟨τ,ρ,G,ab,ok⟩:=h
 refine ⟨τ,ρ,G,ab,?_⟩
 dsimp only [bN] at ok
 cases e:m τ G with
 | stuck=>rw [e] at ok;exact ok
 | bH c G'=>rw [e] at ok;exact λH' ρ' f aZ=>ok σ H' ρ' f aZ
 | ok d G'=>rw [e] at ok;exact λv H' ρ' f aZ r=>⟨τ,ρ',G',d,aZ,r,ok.fut f⟩
theorem BW {m:DS→M Bool} {k:DS→Bool→DH→Res} (h:gg K mg EE (λτ=>bN (m τ) (k τ) λc G=>.xn c τ G) Dd σ H) :
  liftT K mg EE m σ H λb H1=>∃ τ ρ G,Ab K mg σ H1 τ ρ G∧qH K mg EE H1 ρ Dd (k τ b G):=by
 obtain ⟨τ,ρ,G,ab,ok⟩:=h
 refine ⟨τ,ρ,G,ab,?_⟩
 dsimp only [bN] at ok
 cases e:m τ G with
 | stuck=>rw [e] at ok;exact ok
 | bH c G'=>rw [e] at ok;exact λH' ρ' f aZ=>ok σ H' ρ' f aZ
 | ok d G'=>rw [e] at ok;exact λH' ρ' f aZ=>⟨τ,ρ',G',aZ,ok.fut f⟩
end
noncomputable def QE (X:Cx) (EE:cz) (e:Expr) (m:DS→M D):Prop:=PE X e (bJ X.K X.mg EE m)
noncomputable def QT (X:Cx) (EE:cz) (e:Expr) (m:DS→M Bool):Prop:=PT X e (liftT X.K X.mg EE m)
noncomputable def QW (X:Cx) (EE:cz) (e:Expr) (m:DS→M Bool):Prop:=PW X e (liftT X.K X.mg EE m)
noncomputable def QA (X:Cx) (EE:cz) (es:List Expr) (m:DS→M (List D)):Prop:=PA X es (gU X.K X.mg EE m)
noncomputable def QS (X:Cx) (EE:cz) (st:Stmt) (m:MS):Prop:=PS X st (gg X.K X.mg EE m)
noncomputable def uC (X:Cx) (EE:cz) (st:List Stmt) (m:MS):Prop:=xq X st (gg X.K X.mg EE m)
section
variable {X:Cx}
theorem PE.mono {t t':TE} (h:PE X e t) (i:∀ σ H Q,t' σ H Q→t σ H Q):PE X e t':=λpins s σ H Q I q=>h pins s σ H Q I (i _ _ _ q)
theorem PT.mono {t t':TT} (h:PT X e t) (i:∀ σ H Q,t' σ H Q→t σ H Q):PT X e t':=λpins s σ H Q I q=>h pins s σ H Q I (i _ _ _ q)
theorem PA.mono {e:List Expr} {t t':TA} (h:PA X e t) (i:∀ σ H Q,t' σ H Q→t σ H Q):PA X e t':=λpos pins s σ H Q I q=>h pos pins s σ H Q I (i _ _ _ q)
theorem PS.mono {e:Stmt} {t t':TS} (h:PS X e t) (i:∀ D σ H,t' D σ H→t D σ H):PS X e t':=λpins s σ H D I q=>h pins s σ H D I (i _ _ _ q)
theorem xq.mono {e:List Stmt} {t t':TS} (h:xq X e t) (i:∀ D σ H,t' D σ H→t D σ H):xq X e t':=λpins s σ H D I q=>h pins s σ H D I (i _ _ _ q)
end
section
variable {X:Cx} {EE:cz} {a b c:Expr} {ma mb mc:DS→M D} {pos:Pos}
noncomputable def af (i:Nat):DS→M D:=λτ G=>match τ[i]? with
 | some (some d)=>.ok d G
 | _=>.stuck
noncomputable def eC (d:D):DS→M D:=λ_=>M.ret d
theorem JL (i:Nat) {x:Str} {pos:Pos} (hN:X.N[i]?=some x:=by rfl) (hv:Bx X.env.scope x:=by first | exact Or.inl rfl | exact acg (Or.inl rfl) | exact acg (acg rfl)) (hd:(x==("__debug__":Str))=false:=by decide)
  (hcd:(x==("__classdict__":Str))=false:=by decide):QE X EE (.Name x pos) (af i):=PE.mono (xr hN hv hd hcd) λσ H Q ⟨τ,ρ,G,ab,ok⟩=>by
 unfold af at ok
 cases e:τ[i]? with
 | none=>rw [e] at ok;exact ok.elim
 | some o=>
  cases o with
  | none=>rw [e] at ok;exact ok.elim
  | some d=>
   rw [e] at ok
   obtain ⟨v,e1,r⟩:=ab.st.2 i d e
   exact ⟨v,e1,ok v H ρ .refl ab r⟩
theorem E8 {d:D} (h:PE X e (tC v)) (r:∀ ρ H,Rep X.K X.mg ρ H d v):QE X EE e (eC d):=PE.mono h λσ H Q zz=>by obtain ⟨τ,ρ,G,ab,ok⟩:=zz;exact ok v H ρ .refl ab (r ρ H)
theorem JM {i:Int} {j pos}:QE X EE (.Constant (.int i) j pos) (eC (.int i)):=E8 II λ_ _=>by unfold Rep;rfl
theorem MN {i:Bool} {j pos}:QE X EE (.Constant (.bool i) j pos) (eC (.bl i)):=E8 Me λ_ _=>by unfold Rep;rfl
theorem JN {x j pos}:QE X EE (.Constant (.str x) j pos) (eC (.str x)):=E8 IJ λ_ _=>by unfold Rep;rfl
noncomputable def ak (f:D→D→M D) (ma mb:DS→M D):DS→M D:=λτ=>(ma τ).bind λx=>(mb τ).bind λy=>f x y
noncomputable def BX (X:Cx) (EE:cz) (r:R2) (f:D→D→M D):Prop:=∀ (σ:L2.St) (H:Hp) (τ:DS) (ρ:List Addr) (G:DH) (x y:V) (d e:D) (Q:VK),
 Ab X.K X.mg σ H τ ρ G→Rep X.K X.mg ρ H d x→Rep X.K X.mg ρ H e y→iM X.K X.mg EE H σ τ ρ (f d e G) Q→r x y H Q
theorem nR {r:R2} (hd:BX X EE r f) {σ:L2.St} {H:Hp} {Q:VK} (h:bJ X.K X.mg EE (ak f ma mb) σ H Q) :
  Mr r (bJ X.K X.mg EE ma) (bJ X.K X.mg EE mb) σ H Q:=by
 obtain ⟨τ,ρ,G,ab,ok⟩:=i6 (k:=λτ x=>(mb τ).bind λy=>f x y) h
 refine ⟨τ,ρ,G,ab,?_⟩
 cases e:ma τ G with
 | stuck=>rw [e] at ok;exact ok
 | bH c G'=>rw [e] at ok;exact ok
 | ok d G'=>
  rw [e] at ok
  intro v H' ρ' f' aZ r'
  obtain ⟨τ2,ρ2,G2,d2,bV,r2,aK⟩:=ok v H' ρ' f' aZ r'
  refine ⟨τ2,ρ2,G2,bV,?_⟩
  dsimp only [M.bind] at aK
  cases e2:mb τ2 G2 with
  | stuck=>rw [e2] at aK;exact aK
  | bH c G'=>rw [e2] at aK;exact aK
  | ok d3 G3=>
   rw [e2] at aK
   exact λv3 H3 ρ3 f3 nS r3=>hd σ H3 τ2 ρ3 G3 v v3 d2 d3 Q nS (r2.mono f3) r3 (aK.fut f3)
theorem jE {op:Operator} {r:R2} (ho:iK X (binaryOp op) r) (hd:BX X EE r f) (ha:QE X EE a ma) (hb:QE X EE b mb):QE X EE (.BinOp a op b pos) (ak f ma mb):=
 PE.mono (Ms ho ha hb) λ_ _ _ h=>nR hd h
theorem JO {r:R2} (ho:iK X (compareOp op) r) (hd:BX X EE r f) (ha:QE X EE a ma) (hb:QE X EE b mb) (hm:behindInMarks op b=false):QE X EE (.Compare a [op] [b] pos) (ak f ma mb):=
 PE.mono (EI ho ha hb hm) λ_ _ _ h=>nR hd h
theorem MO {r:R2} (ho:Eo X r) (hd:BX X EE r f) (ha:QE X EE a ma) (hb:QE X EE b mb) (hs:nP b:=by intro _ _;rfl):QE X EE (.Subscript a b pos) (ak f ma mb):=
 PE.mono (ME ho ha hb hs) λ_ _ _ h=>nR hd h
theorem BX.or {r r':R2} (h:∀ (σ:L2.St) (H:Hp) (τ:DS) (ρ:List Addr) (G:DH) (x y:V) (d e:D) (Q:VK),
 Ab X.K X.mg σ H τ ρ G→Rep X.K X.mg ρ H d x→Rep X.K X.mg ρ H e y→iM X.K X.mg EE H σ τ ρ (f d e G) Q→r x y H Q∨r' x y H Q):BX X EE (λx y H Q=>r x y H Q∨r' x y H Q) f:=h
noncomputable def cH (C:Int→Int→Bool) (g:Int→Int→D):D→D→M D
 | .int i,.int j=>if C i j then M.ret (g i j) else M.stop
 | _,_=>M.stop
theorem yP {C:Int→Int→Bool} {g:Int→Int→D} {d e:D} {Q:VK} (ok:iM X.K X.mg EE H σ τ ρ (cH C g d e G) Q) :
  ∃ i j,d=.int i∧e=.int j∧C i j=true∧iM X.K X.mg EE H σ τ ρ (.ok (g i j) G) Q:=by
 cases d<;>cases e<;>try exact ok.elim
 rename_i i j
 dsimp only [cH] at ok
 cases hc:C i j with
 | false=>rw [hc] at ok;exact ok.elim
 | true=>rw [hc] at ok;exact ⟨i,j,rfl,rfl,hc,ok⟩
theorem j0 {C:Int→Int→Bool} {P:Int→Int→Prop} {g:Int→Int→D} (hC:∀ i j,C i j=true→P i j) (hg:∀ i j ρ H,Rep X.K X.mg ρ H (g i j) (gv i j)):BX X EE (rI P gv) (cH C g):=
 λσ H τ ρ G x y d e Q ab r1 r2 ok=>by
  obtain ⟨i,j,rfl,rfl,hc,ok⟩:=yP ok
  unfold Rep at r1 r2
  exact ⟨i,j,r1,r2,hC i j hc,ok _ H ρ .refl ab (hg i j ρ H)⟩
theorem gW {g:Int→Int→D} (hg:∀ i j ρ H,Rep X.K X.mg ρ H (g i j) (gv i j)):BX X EE (BE gv) (cH (λ_ _=>true) g):=
 λσ H τ ρ G x y d e Q ab r1 r2 ok=>by
  obtain ⟨i,j,rfl,rfl,hc,ok⟩:=yP ok
  unfold Rep at r1 r2
  exact ⟨i,j,r1,r2,ok _ H ρ .refl ab (hg i j ρ H)⟩
noncomputable abbrev kq:=cH (λ_ _=>true) λi j=>.int (i - j)
noncomputable abbrev Aa:=cH (λi j=>(decide (-(2^64)<i)&&decide (i<2^64))||(decide (-(2^64)<j)&&decide (j<2^64))) λi j=>.int (i*j)
noncomputable abbrev yQ:=cH (λ_ j=>decide (0<j)&&decide (j<1073741824)) λi j=>.int (i / j)
noncomputable abbrev eT:=cH (λ_ j=>decide (0<j)) λi j=>.int (i % j)
noncomputable abbrev E9:=cH (λi j=>decide (0≤j)&&(decide (j≤1000000)&&decide (i.natAbs<2^64))) λi j=>.int (i^j.toNat)
noncomputable abbrev BY:=cH (λ_ _=>true) λi j=>.bl (decide (i<j))
noncomputable abbrev rH:=cH (λ_ _=>true) λi j=>.bl (decide (j<i))
noncomputable abbrev OG:=cH (λ_ _=>true) λi j=>.bl (decide (j≤i))
theorem JP (ha:QE X EE a ma) (hb:QE X EE b mb):QE X EE (.BinOp a .Sub b pos) (ak kq ma mb):=jE Jd (gW λ_ _ _ _=>by unfold Rep;rfl) ha hb
theorem JQ (ha:QE X EE a ma) (hb:QE X EE b mb):QE X EE (.BinOp a .Mult b pos) (ak Aa ma mb):=jE Je (j0 (λi j h=>by
 simp only [aaa,X8,decide_eq_true_eq] at h;exact h) λ_ _ _ _=>by unfold Rep;rfl) ha hb
theorem Fb (ha:QE X EE a ma) (hb:QE X EE b mb):QE X EE (.BinOp a .FloorDiv b pos) (ak yQ ma mb):=jE EH (j0 (λi j h=>by
 simp only [X8,decide_eq_true_eq] at h;exact h) λ_ _ _ _=>by unfold Rep;rfl) ha hb
theorem JR (ha:QE X EE a ma) (hb:QE X EE b mb):QE X EE (.BinOp a .Mod b pos) (ak eT ma mb):=jE Jf (j0 (λi j h=>of_decide_eq_true h) λ_ _ _ _=>by unfold Rep;rfl) ha hb
theorem JS (ha:QE X EE a ma) (hb:QE X EE b mb):QE X EE (.BinOp a .Pow b pos) (ak E9 ma mb):=jE Jg (j0 (λi j h=>by
 simp only [X8,decide_eq_true_eq] at h;exact h) λ_ _ _ _=>by unfold Rep;rfl) ha hb
noncomputable def aP (ds:List D):M D:=λG=>if ds.length≤WO then .ok (.obj G.length) (G++[.lst ds]) else .stuck
noncomputable def bA (ds:List D):M D:=λG=>if ds.length≤WO then .ok (.tup ds) G else .stuck
theorem mF {Q:VK} (ab:Ab X.K X.mg σ H τ ρ G) (r:au X.K X.mg ρ H ds vs) (ok:iM X.K X.mg EE H σ τ ρ (aP ds G) Q) :
  vs.length≤WO∧∀ p,H p=none→Q (.ref p) (upd H p (.lst vs)):=by
 unfold aP at ok
 split at ok
 ·rename_i hl
  rw [r.length] at hl
  refine ⟨hl,λp hp=>?_⟩
  have f:cC X.K H (upd H p (.lst vs)) ρ (ρ++[p]):=(cR hp ρ).trans (cS ρ p)
  refine ok (.ref p) _ (ρ++[p]) f (ab.fut f (ab.hp.more hp r)) ?_
  unfold Rep
  exact ⟨p,rfl,by rw [← ab.hp.hl,aC]⟩
 ·exact ok.elim
theorem tu {Q:VK} (ab:Ab X.K X.mg σ H τ ρ G) (r:au X.K X.mg ρ H ds vs) (ok:iM X.K X.mg EE H σ τ ρ (bA ds G) Q) :
  vs.length≤WO∧∀ p,H p=none→Q (.ref p) (upd H p (.tup vs)):=by
 unfold bA at ok
 split at ok
 ·rename_i hl
  rw [r.length] at hl
  refine ⟨hl,λp hp=>?_⟩
  have f:cC X.K H (upd H p (.tup vs)) ρ ρ:=cR hp ρ
  refine ok (.ref p) _ ρ f (ab.fut f (ab.hp.new hp)) ?_
  unfold Rep
  exact ⟨p,vs,rfl,.of aM,r.mono f⟩
 ·exact ok.elim
noncomputable def ah:DS→M (List D):=λ_=>M.ret []
noncomputable def aa (m:DS→M D) (r:DS→M (List D)):DS→M (List D):=λτ=>(m τ).bind λx=>(r τ).bind λxs=>M.ret (x::xs)
theorem JT:QA X EE [] ah:=PA.mono xE λσ H Q zz=>by obtain ⟨τ,ρ,G,ab,ok⟩:=zz;exact ok [] H ρ .refl ab .nil
theorem Fc (ha:QE X EE e m) (hr:QA X EE es r) (hs:Xh (e::es) X.env=(false,eval e X.env)::Xh es X.env:=by rfl):QA X EE (e::es) (aa m r):=
 PA.mono (sR ha hr hs) λσ H Q h=>by
  obtain ⟨τ,ρ,G,ab,ok⟩:=BV (k:=λτ x=>(r τ).bind λxs=>M.ret (x::xs)) h
  refine ⟨τ,ρ,G,ab,?_⟩
  cases e:m τ G with
  | stuck=>rw [e] at ok;exact ok
  | bH c G'=>rw [e] at ok;exact ok
  | ok d G'=>
   rw [e] at ok
   intro v H' ρ' f' aZ r'
   obtain ⟨τ2,ρ2,G2,d2,bV,r2,aK⟩:=ok v H' ρ' f' aZ r'
   refine ⟨τ2,ρ2,G2,bV,?_⟩
   dsimp only [M.bind] at aK
   cases e2:r τ2 G2 with
   | stuck=>rw [e2] at aK;exact aK
   | bH c G'=>rw [e2] at aK;exact aK
   | ok d3 G3=>
    rw [e2] at aK
    exact λv3 H3 ρ3 f3 nS r3=>aK (v::v3) H3 ρ3 f3 nS (.cons (r2.mono f3) r3)
noncomputable def aj (f:List D→M D) (m:DS→M (List D)):DS→M D:=λτ=>(m τ).bind f
theorem j3 {m:DS→M (List D)} {f:List D→M D} {r:List V→Hp→VK→Prop} {σ:L2.St} {H:Hp} {Q:VK}
  (hd:∀ (H:Hp) (τ:DS) (ρ:List Addr) (G:DH) (xs:List V) (ds:List D),Ab X.K X.mg σ H τ ρ G→au X.K X.mg ρ H ds xs→iM X.K X.mg EE H σ τ ρ (f ds G) Q→r xs H Q)
  (h:bJ X.K X.mg EE (aj f m) σ H Q):gU X.K X.mg EE m σ H λxs H1=>r xs H1 Q:=by
 obtain ⟨τ,ρ,G,ab,ok⟩:=i7 (k:=λ_=>f) h
 refine ⟨τ,ρ,G,ab,?_⟩
 cases e:m τ G with
 | stuck=>rw [e] at ok;exact ok
 | bH c G'=>rw [e] at ok;exact ok
 | ok d G'=>
  rw [e] at ok
  intro v H' ρ' f' aZ r'
  obtain ⟨τ2,ρ2,G2,d2,bV,r2,aK⟩:=ok v H' ρ' f' aZ r'
  exact hd H' τ2 ρ2 G2 v d2 bV r2 aK
theorem JU {m:DS→M (List D)} {x1} (h:QA X EE es m):QE X EE (.Tuple es x1 pos) (aj bA m):=
 PE.mono (Jr h) λσ H Q h=>j3 (r:=λxs H1 Q=>xs.length≤WO∧∀ p,H1 p=none→Q (.ref p) (upd H1 p (.tup xs))) (λH τ ρ G xs ds ab r ok=>tu ab r ok) h
theorem JW {m:DS→M (List D)} (h:QA X EE es m):QE X EE (.List es pos) (aj aP m):=
 PE.mono (Js h) λσ H Q h=>j3 (r:=λxs H1 Q=>xs.length≤WO∧∀ p,H1 p=none→Q (.ref p) (upd H1 p (.lst xs))) (λH τ ρ G xs ds ab r ok=>mF ab r ok) h
noncomputable def CallD (X:Cx) (EE:cz) (r:List V→Hp→VK→Prop) (f:List D→M D):Prop:=∀ (σ:L2.St) (H:Hp) (τ:DS) (ρ:List Addr) (G:DH) (xs:List V) (ds:List D) (Q:VK),
 Ab X.K X.mg σ H τ ρ G→au X.K X.mg ρ H ds xs→iM X.K X.mg EE H σ τ ρ (f ds G) Q→r xs H Q
theorem BZ {p:Pos} {m:DS→M (List D)} {id:String} {r:List V→Hp→VK→Prop} {f:List D→M D} (hc:eF X (.builtin id) r) (hd:CallD X EE r f) (hm:X.mg x=none) (ha:QA X EE (e::es) m)
  (hg:Gl X x:=by rfl) (hv:bootBuiltins x=some (.builtin id):=by first | rfl | decide) (hn:x≠"__name__":=by decide) (hdb:(x==("__debug__":Str))=false:=by decide)
  (he:Xh (e::es) X.env=(false,eval e X.env)::Xh es X.env:=by rfl) (hpl:(backTo pos (Xh es X.env)).any (·.1)=false:=by rfl):QE X EE (.Call (.Name x p) (e::es) [] pos) (aj f m):=
 PE.mono (BH hc hg hm hv ha hn hdb he hpl) λσ H Q h=>j3 (r:=r) (λH τ ρ G xs ds ab r ok=>hd σ H τ ρ G xs ds Q ab r ok) h
theorem Ac {p:Pos} {m:DS→M (List D)} {T:String} {r:List V→Hp→VK→Prop} {f:List D→M D} (hc:eF X (.type T) r) (hd:CallD X EE r f) (hm:X.mg x=none) (ha:QA X EE (e::es) m)
  (hg:Gl X x:=by rfl) (hv:bootBuiltins x=some (.type T):=by first | rfl | decide) (hn:x≠"__name__":=by decide) (hdb:(x==("__debug__":Str))=false:=by decide)
  (he:Xh (e::es) X.env=(false,eval e X.env)::Xh es X.env:=by rfl) (hpl:(backTo pos (Xh es X.env)).any (·.1)=false:=by rfl):QE X EE (.Call (.Name x p) (e::es) [] pos) (aj f m):=
 PE.mono (zV hc hg hm hv ha hn hdb he hpl) λσ H Q h=>j3 (r:=r) (λH τ ρ G xs ds ab r ok=>hd σ H τ ρ G xs ds Q ab r ok) h
noncomputable def iH (f:D→M Bool) (m:DS→M D):DS→M Bool:=λτ=>(m τ).bind f
noncomputable def kr:D→M Bool
 | .eO=>M.ret false
 | .bl b=>M.ret b
 | .int i=>M.ret (i != 0)
 | .str y=>if y.length≤WO then M.ret ((y.length:Int) != 0) else M.stop
 | .tup xs=>M.ret (!xs.isEmpty)
 | .con xs=>M.ret (!xs.isEmpty)
 | .obj n=>λG=>match G[n]? with
  | some (.lst xs)=>.ok (!xs.isEmpty) G
  | _=>.stuck
 | .fn _=>M.stop
 | .xh _ _=>M.stop
 | .ig _ _=>M.stop
theorem i8 (r:au K mg ρ H ds vs):(!vs.isEmpty)=!ds.isEmpty:=by
 have:=r.length
 cases ds<;>cases vs<;>first | rfl | (simp at this)
theorem B0 {Q:Bool→Hp→Prop} (h:liftT X.K X.mg EE (iH kr m) σ H Q) :
  bJ X.K X.mg EE m σ H λx H1=>∃ k,Jp X.K x H1 k∧Q k H1:=by
 obtain ⟨τ,ρ,G,ab,ok⟩:=BU (k:=λ_=>kr) h
 refine ⟨τ,ρ,G,ab,?_⟩
 cases e:m τ G with
 | stuck=>rw [e] at ok;exact ok
 | bH c G'=>rw [e] at ok;exact ok
 | ok d G'=>
  rw [e] at ok
  intro v H' ρ' f' aZ r'
  obtain ⟨τ2,ρ2,G2,d2,bV,r2,aK⟩:=ok v H' ρ' f' aZ r'
  cases d2 with
  | eO=>unfold Rep at r2;subst r2;exact ⟨false,rfl,aK H' ρ2 .refl bV⟩
  | bl b=>unfold Rep at r2;subst r2;exact ⟨b,rfl,aK H' ρ2 .refl bV⟩
  | int i=>unfold Rep at r2;subst r2;exact ⟨_,rfl,aK H' ρ2 .refl bV⟩
  | str y=>
   unfold Rep at r2;subst r2
   dsimp only [kr] at aK
   split at aK
   ·rename_i hl;exact ⟨_,⟨hl,rfl⟩,aK H' ρ2 .refl bV⟩
   ·exact aK.elim
  | tup xs=>
   unfold Rep at r2
   obtain ⟨p,vs,rfl,sq,rs⟩:=r2
   exact ⟨!vs.isEmpty,.inr (.inl ⟨vs,sq,rfl⟩),by rw [i8 rs];exact aK H' ρ2 .refl bV⟩
  | con xs=>
   unfold Rep at r2
   obtain ⟨p,vs,rfl,sq,rs⟩:=r2
   exact ⟨!vs.isEmpty,.inl ⟨vs,sq.seq,rfl⟩,by rw [i8 rs];exact aK H' ρ2 .refl bV⟩
  | obj n=>
   unfold Rep at r2
   obtain ⟨p,rfl,e1⟩:=r2
   dsimp only [kr] at aK
   cases q:G2[n]? with
   | none=>rw [q] at aK;exact aK.elim
   | some o=>
    cases o with
    | lst xs=>
     rw [q] at aK
     obtain ⟨p',vs,e2,hp,rs⟩:=bV.hp.lst q
     rw [e1] at e2;cases e2
     exact ⟨!vs.isEmpty,.inl ⟨vs,.of hp,rfl⟩,by rw [i8 rs];exact aK H' ρ2 .refl bV⟩
    | _=>first | (rw [q] at ok;exact ok.elim) | (rw [q] at aK;exact aK.elim) | (rw [q] at e;cases e;done) | (rw [g] at ok;exact ok.elim) | (rw [g] at q;cases q;done) | (rw [g] at h;cases h;done) | (rw [g2] at ok;exact ok.elim) | (rw [g1,g2] at ok;exact ok.elim) | (rw [q1] at ok;exact ok.elim) | exact ok.elim
  | fn x=>exact aK.elim
  | xh c as=>exact aK.elim
  | ig y0 c0=>exact aK.elim
theorem JX (ha:QE X EE a ma) (he:∀ whole,isTrue a X.env whole=(do let v ← whole;standAt a.pos;holding [v] (truthy v)):=by intro _;rfl):QT X EE a (iH kr ma):=
 PT.mono (BG ha he) λσ H Q h=>B0 h
end
noncomputable def bP {α β:Type} (f:α→Option β):List α→Option (List β)
 | []=>some []
 | a::r=>match f a,bP f r with
  | some b,some bs=>some (b::bs)
  | _,_=>none
noncomputable def jw (G:DH):Nat→D→Option PyData
 | 0,_=>none
 | _+1,.eO=>some .none
 | _+1,.bl b=>some (.bool b)
 | _+1,.int i=>some (.int i)
 | _+1,.str x=>some (.str x)
 | n+1,.tup ds=>(bP (jw G n) ds).map .tuple
 | n+1,.con ds=>(bP (jw G n) ds).map .list
 | n+1,.obj k=>match G[k]? with
  | some (.lst ds)=>(bP (jw G n) ds).map .list
  | _=>none
 | _+1,.fn _=>none
 | _+1,.xh _ _=>none
 | _+1,.ig _ _=>none
section
variable {X:Cx} {EE:cz} {pins:List (Addr×Obj)} {σ:L2.St} {H:Hp} {s:WT} {ρ:List Addr} {G:DH}
theorem readsAll {f:D→Option PyData} (hf:∀ (d:D) (x:V) (u:V0) (p:PyData),Rep X.K X.mg ρ H d x→RelV x u→f d=some p→∃ as,Reads s.heap u p as) :
  ∀ (ds:List D) (xs:List V) (us:List V0) (ps:List PyData),au X.K X.mg ρ H ds xs→Vals xs us→bP f ds=some ps→∃ as,ReadsAll s.heap us ps as
 | [],xs,us,ps,r,v,e=>by
  unfold au at r;subst r
  cases v;cases e
  exact ⟨[],.nil⟩
 | d::ds,xs,us,ps,r,v,e=>by
  unfold au at r
  obtain ⟨x,r',rfl,h1,h2⟩:=r
  cases v with
  | cons v1 v2=>
  unfold bP at e
  cases e1:f d with
  | none=>rw [e1] at e;cases e
  | some p=>
   cases e2:bP f ds with
   | none=>rw [e1,e2] at e;cases e
   | some qs=>
    rw [e1,e2] at e
    cases e
    obtain ⟨as,a1⟩:=hf d x _ p h1 v1 e1
    obtain ⟨bs,a2⟩:=readsAll hf ds r' _ qs h2 v2 e2
    exact ⟨as++bs,.cons a1 a2⟩
theorem dI (I:Inv X pins σ H s) (hp:eS X.K X.mg H ρ G):∀ (n:Nat) (d:D) (x:V) (u:V0) (p:PyData),Rep X.K X.mg ρ H d x→RelV x u→jw G n d=some p→∃ as,Reads s.heap u p as
 | 0,_,_,_,_,_,_,e=>nomatch e
 | n+1,.eO,x,u,p,r,v,e=>by unfold Rep at r;subst r;cases v;cases e;exact ⟨_,.none⟩
 | n+1,.bl b,x,u,p,r,v,e=>by unfold Rep at r;subst r;cases v;cases e;exact ⟨_,.bool b⟩
 | n+1,.int i,x,u,p,r,v,e=>by unfold Rep at r;subst r;obtain ⟨t,rfl⟩:=v;cases e;exact ⟨_,.int i t⟩
 | n+1,.str y,x,u,p,r,v,e=>by unfold Rep at r;subst r;obtain ⟨t,rfl⟩:=v;cases e;exact ⟨_,.str y t⟩
 | n+1,.tup ds,x,u,p,r,v,e=>by
  unfold Rep at r
  obtain ⟨a,xs,rfl,sq,rs⟩:=r
  cases v
  obtain ⟨its,vs,⟨o,e1,e2,k,e3⟩,_⟩:=I.tuple (rG.t sq)
  unfold jw at e
  cases q:bP (jw G n) ds with
  | none=>rw [q] at e;cases e
  | some ps=>
   rw [q] at e;cases e
   obtain ⟨as,ra⟩:=readsAll (λd x u p=>dI I hp n d x u p) ds xs its ps rs vs q
   exact ⟨as,.tuple e1 e2 e3 (by simpa using ra)⟩
 | n+1,.con ds,x,u,p,r,v,e=>by
  unfold Rep at r
  obtain ⟨a,xs,rfl,sq,rs⟩:=r
  cases v
  obtain ⟨its,vs,⟨o,k,e1,e2,e3,e4⟩,_⟩:=I.list sq.seq
  unfold jw at e
  cases q:bP (jw G n) ds with
  | none=>rw [q] at e;cases e
  | some ps=>
   rw [q] at e;cases e
   obtain ⟨as,ra⟩:=readsAll (λd x u p=>dI I hp n d x u p) ds xs its ps rs vs q
   exact ⟨_,.list e1 e2 e4 (by simpa using ra)⟩
 | n+1,.obj k,x,u,p,r,v,e=>by
  unfold Rep at r
  obtain ⟨a,rfl,e0⟩:=r
  cases v
  dsimp only [jw] at e
  cases q:G[k]? with
  | none=>rw [q] at e;cases e
  | some o=>
   cases o with
   | lst ds=>
    rw [q] at e
    obtain ⟨a',xs,e1,e2,rs⟩:=hp.lst q
    rw [e0] at e1;cases e1
    obtain ⟨its,vs,⟨o,k,e1,e2,e3,e4⟩,_⟩:=I.list (.of e2)
    dsimp only at e
    cases q:bP (jw G n) ds with
    | none=>rw [q] at e;cases e
    | some ps=>
     rw [q] at e;cases e
     obtain ⟨as,ra⟩:=readsAll (λd x u p=>dI I hp n d x u p) ds xs its ps rs vs q
     exact ⟨_,.list e1 e2 e4 (by simpa using ra)⟩
   | _=>first | (rw [q] at ok;exact ok.elim) | (rw [q] at aK;exact aK.elim) | (rw [q] at e;cases e;done) | (rw [g] at ok;exact ok.elim) | (rw [g] at q;cases q;done) | (rw [g] at h;cases h;done) | (rw [g2] at ok;exact ok.elim) | (rw [g1,g2] at ok;exact ok.elim) | (rw [q1] at ok;exact ok.elim) | exact ok.elim
 | n+1,.fn y,x,u,p,r,v,e=>nomatch e
 | n+1,.xh y _,x,u,p,r,v,e=>nomatch e
 | n+1,.ig y _,x,u,p,r,v,e=>nomatch e
end
section
variable {X:Cx} {EE:cz} {a b c:Expr} {ma mb mc:DS→M D} {pos:Pos}
noncomputable def rD (X:Cx) (EE:cz) (f:D→D→M D):R2:=λx y H Q=>∃ σ τ ρ G d e,Ab X.K X.mg σ H τ ρ G∧Rep X.K X.mg ρ H d x∧Rep X.K X.mg ρ H e y∧iM X.K X.mg EE H σ τ ρ (f d e G) Q
theorem lE:BX X EE (rD X EE f) f:=λσ H τ ρ G x y d e Q ab r1 r2 ok=>⟨σ,τ,ρ,G,d,e,ab,r1,r2,ok⟩
theorem MP {r:R2} (h:BX X EE r f) {x y:V} {H:Hp} {Q:VK} (q:rD X EE f x y H Q):r x y H Q:=by
 obtain ⟨σ,τ,ρ,G,d,e,ab,r1,r2,ok⟩:=q
 exact h σ H τ ρ G x y d e Q ab r1 r2 ok
noncomputable abbrev deep:Nat:=600
noncomputable def tw (d e:D) (G:DH):Option Bool:=match jw G deep d,jw G deep e with
 | some p,some q=>if p.canLay0&&(q.canLay0&&decide (min p.depth q.depth≤580)) then some (X4 p q) else none
 | _,_=>none
noncomputable def fG (neg:Bool) (d e:D):M D:=λG=>match tw d e G with
 | some b=>.ok (.bl (neg ^^ b)) G
 | none=>.stuck
theorem B3 (hu:X.A.units+600<cLine):iK X (compareOp .Eq) (rD X EE (fG false)):=by
 intro pins s σ0 H x y v u Q I rx ry zu
 obtain ⟨σ,τ,ρ,G,d,e,ab,r1,r2,ok⟩:=zu
 dsimp only [fG,tw] at ok
 cases e1:jw G deep d with
 | none=>rw [e1] at ok;exact ok.elim
 | some p=>
  cases e2:jw G deep e with
  | none=>rw [e1,e2] at ok;exact ok.elim
  | some q=>
   rw [e1,e2] at ok
   dsimp only at ok
   by_cases hc:(p.canLay0&&(q.canLay0&&decide (min p.depth q.depth≤580)))=true
   ·rw [if_pos hc] at ok
    simp only [X8,decide_eq_true_eq] at hc
    obtain ⟨as,ra⟩:=dI I ab.hp deep d x v p r1 rx e1
    obtain ⟨bs,rb⟩:=dI I ab.hp deep e y u q r2 ry e2
    refine SeqAt.compareEq_reads ra rb hc.1 hc.2.1 (by nofun) ⟨.bl _,H,I,rfl,?_⟩
    have:=ok (.bl _) H ρ .refl ab (by unfold Rep;rfl)
    simpa using this
   ·rw [if_neg hc] at ok;exact ok.elim
theorem JY (hu:X.A.units+600<cLine):iK X (compareOp .NotEq) (rD X EE (fG true)):=by
 intro pins s σ0 H x y v u Q I rx ry zu
 obtain ⟨σ,τ,ρ,G,d,e,ab,r1,r2,ok⟩:=zu
 dsimp only [fG,tw] at ok
 cases e1:jw G deep d with
 | none=>rw [e1] at ok;exact ok.elim
 | some p=>
  cases e2:jw G deep e with
  | none=>rw [e1,e2] at ok;exact ok.elim
  | some q=>
   rw [e1,e2] at ok
   dsimp only at ok
   by_cases hc:(p.canLay0&&(q.canLay0&&decide (min p.depth q.depth≤580)))=true
   ·rw [if_pos hc] at ok
    simp only [X8,decide_eq_true_eq] at hc
    obtain ⟨as,ra⟩:=dI I ab.hp deep d x v p r1 rx e1
    obtain ⟨bs,rb⟩:=dI I ab.hp deep e y u q r2 ry e2
    refine SeqAt.compareNe_reads ra rb hc.1 hc.2.1 (by nofun) ⟨.bl _,H,I,rfl,?_⟩
    have:=ok (.bl _) H ρ .refl ab (by unfold Rep;rfl)
    simpa using this
   ·rw [if_neg hc] at ok;exact ok.elim
theorem MQ (hu:X.A.units+600<cLine) (ha:QE X EE a ma) (hb:QE X EE b mb):QE X EE (.Compare a [.Eq] [b] pos) (ak (fG false) ma mb):=JO (B3 hu) lE ha hb (Jo _)
inductive MR where
 | lst (xs:List D) | tup (xs:List D) | str (x:Str)
noncomputable def aA (G:DH):D→Option MR
 | .tup xs=>some (.tup xs)
 | .con xs=>some (.lst xs)
 | .obj n=>match G[n]? with
  | some (.lst xs)=>some (.lst xs)
  | _=>none
 | .str x=>some (.str x)
 | _=>none
noncomputable def HS (d:D) (ds:List D) (G:DH):Option Bool:=match jw G deep d,bP (jw G deep) ds with
 | some p,some qs=>if p.canLay0&&(Yl qs&&decide (min (YX qs) p.depth≤580)) then some (qs.any λy=>X4 y p) else none
 | _,_=>none
noncomputable def Fd (neg:Bool) (d e:D):M D:=λG=>match aA G e with
 | some (.lst ds)=>match HS d ds G with
  | some b=>.ok (.bl (neg ^^ b)) G
  | none=>.stuck
 | some (.tup ds)=>match HS d ds G with
  | some b=>.ok (.bl (neg ^^ b)) G
  | none=>.stuck
 | some (.str j)=>match d with
  | .str i=>.ok (.bl (neg ^^ !(aaG j i 0 j.length 1).isEmpty)) G
  | _=>.stuck
 | none=>.stuck
theorem ck {pins:List (Addr×Obj)} {σ0:L2.St} {s:WT} {d:D} {x:V} (h:eS X.K X.mg H ρ G) (r:Rep X.K X.mg ρ H d x) (e:aA G d=some (.lst ds)) :
  ∃ p xs,x=.ref p∧jY X.K H p xs∧au X.K X.mg ρ H ds xs:=by
 cases d with
 | con xs=>
  cases e
  unfold Rep at r
  obtain ⟨a,xs,rfl,sq,rs⟩:=r
  exact ⟨a,xs,rfl,sq.seq,rs⟩
 | obj n=>
  unfold Rep at r
  obtain ⟨a,rfl,e0⟩:=r
  dsimp only [aA] at e
  cases q:G[n]? with
  | none=>rw [q] at e;cases e
  | some o=>
   cases o with
   | lst ys=>
    rw [q] at e;cases e
    obtain ⟨a',xs,e1,e2,rs⟩:=h.lst q
    rw [e0] at e1;cases e1
    exact ⟨a,xs,rfl,.of e2,rs⟩
   | _=>first | (rw [q] at ok;exact ok.elim) | (rw [q] at aK;exact aK.elim) | (rw [q] at e;cases e;done) | (rw [g] at ok;exact ok.elim) | (rw [g] at q;cases q;done) | (rw [g] at h;cases h;done) | (rw [g2] at ok;exact ok.elim) | (rw [g1,g2] at ok;exact ok.elim) | (rw [q1] at ok;exact ok.elim) | exact ok.elim
 | _=>cases e
theorem oJ {d:D} {x:V} (r:Rep X.K X.mg ρ H d x) (e:aA G d=some (.tup ds)) :
  ∃ p xs,x=.ref p∧rG H p xs∧au X.K X.mg ρ H ds xs:=by
 cases d with
 | tup xs=>
  cases e
  unfold Rep at r
  obtain ⟨a,xs,rfl,sq,rs⟩:=r
  exact ⟨a,xs,rfl,sq,rs⟩
 | obj n=>
  dsimp only [aA] at e
  cases q:G[n]? with
  | none=>rw [q] at e;cases e
  | some o=>cases o<;>(rw [q] at e;cases e)
 | _=>cases e
theorem fW {d:D} {x:V} (r:Rep X.K X.mg ρ H d x) (e:aA G d=some (.tup ds)) :
  ∃ p xs,x=.ref p∧kC X.K H p xs∧au X.K X.mg ρ H ds xs:=let ⟨p,xs,h1,h2,h3⟩:=oJ r e;⟨p,xs,h1,h2.t,h3⟩
theorem j4 {d:D} {x:V} (r:Rep X.K X.mg ρ H d x) (e:aA G d=some (.str y)):d=.str y∧x=.str y:=by
 cases d with
 | str z=>cases e;unfold Rep at r;exact ⟨rfl,r⟩
 | obj n=>
  dsimp only [aA] at e
  cases q:G[n]? with
  | none=>rw [q] at e;cases e
  | some o=>cases o<;>(rw [q] at e;cases e)
 | _=>cases e
theorem JZ (I:Inv X pins σ0 H s) (hp:eS X.K X.mg H ρ G) (sq:jY X.K H p xs) (rs:au X.K X.mg ρ H ds xs)
  (e:bP (jw G deep) ds=some qs):∃ as,Reads s.heap (.ref p) (.list qs) as:=by
 obtain ⟨its,vs,⟨o,k,e1,e2,e3,e4⟩,_⟩:=I.list sq
 obtain ⟨as,ra⟩:=readsAll (λd x u p=>dI I hp deep d x u p) ds xs its qs rs vs e
 exact ⟨_,.list e1 e2 e4 (by simpa using ra)⟩
theorem J0 (I:Inv X pins σ0 H s) (hp:eS X.K X.mg H ρ G) (sq:kC X.K H p xs) (rs:au X.K X.mg ρ H ds xs)
  (e:bP (jw G deep) ds=some qs):∃ as,Reads s.heap (.ref p) (.tuple qs) as:=by
 obtain ⟨its,vs,⟨o,e1,e2,k,e3⟩,_⟩:=I.tuple sq
 obtain ⟨as,ra⟩:=readsAll (λd x u p=>dI I hp deep d x u p) ds xs its qs rs vs e
 exact ⟨_,.tuple e1 e2 e3 (by simpa using ra)⟩
theorem uY {d:D} {b:Bool} (h:HS d ds G=some b):∃ p qs,jw G deep d=some p∧bP (jw G deep) ds=some qs∧p.canLay0=true∧Yl qs=true∧min (YX qs) p.depth≤580∧b=qs.any λy=>X4 y p:=by
 unfold HS at h
 cases e1:jw G deep d with
 | none=>rw [e1] at h;cases h
 | some p=>
  cases e2:bP (jw G deep) ds with
  | none=>rw [e1,e2] at h;cases h
  | some qs=>
   rw [e1,e2] at h
   dsimp only at h
   by_cases hc:(p.canLay0&&(Yl qs&&decide (min (YX qs) p.depth≤580)))=true
   ·rw [if_pos hc] at h
    simp only [X8,decide_eq_true_eq] at hc
    exact ⟨p,qs,rfl,rfl,hc.1,hc.2.1,hc.2.2,(XJ h).symm⟩
   ·rw [if_neg hc] at h;cases h
theorem J1 (hu:X.A.units+600<cLine):iK X (compareOp .In) (rD X EE (Fd false)):=by
 intro pins s σ0 H x y v u Q I rx ry zu
 obtain ⟨σ,τ,ρ,G,d,e,ab,r1,r2,ok⟩:=zu
 dsimp only [Fd] at ok
 cases q:aA G e with
 | none=>rw [q] at ok;exact ok.elim
 | some sk=>
  rw [q] at ok
  cases sk with
  | lst ds=>
   dsimp only at ok
   cases qb:HS d ds G with
   | none=>rw [qb] at ok;exact ok.elim
   | some b=>
    rw [qb] at ok
    obtain ⟨p,qs,e1,e2,h1,h2,h3,rfl⟩:=uY qb
    obtain ⟨l,xs,rfl,sq,rs⟩:=ck (pins:=pins) (σ0:=σ0) (s:=s) ab.hp r2 q
    cases ry
    obtain ⟨as,ra⟩:=dI I ab.hp deep d x v p r1 rx e1
    obtain ⟨bs,rb⟩:=JZ I ab.hp sq rs e2
    refine SeqAt.in_list_reads rb ra h2 h1 (by nofun) ⟨.bl _,H,I,rfl,?_⟩
    have:=ok (.bl _) H ρ .refl ab (by unfold Rep;rfl)
    simpa using this
  | tup ds=>
   dsimp only at ok
   cases qb:HS d ds G with
   | none=>rw [qb] at ok;exact ok.elim
   | some b=>
    rw [qb] at ok
    obtain ⟨p,qs,e1,e2,h1,h2,h3,rfl⟩:=uY qb
    obtain ⟨l,xs,rfl,sq,rs⟩:=fW r2 q
    cases ry
    obtain ⟨as,ra⟩:=dI I ab.hp deep d x v p r1 rx e1
    obtain ⟨bs,rb⟩:=J0 I ab.hp sq rs e2
    refine SeqAt.in_tuple_reads rb ra h2 h1 (by nofun) ⟨.bl _,H,I,rfl,?_⟩
    have:=ok (.bl _) H ρ .refl ab (by unfold Rep;rfl)
    simpa using this
  | str j=>
   obtain ⟨rfl,rfl⟩:=j4 r2 q
   cases d with
   | str i=>
    unfold Rep at r1;subst r1
    refine zR pins s σ0 H _ _ v u Q I rx ry ⟨i,j,rfl,rfl,?_⟩
    have:=ok (.bl _) H ρ .refl ab (by unfold Rep;rfl)
    simpa using this
   | _=>exact ok.elim
end
section
variable {X:Cx} {EE:cz} {a b c:Expr} {ma mb mc:DS→M D} {pos:Pos}
noncomputable def aT (d e:D):M D:=λG=>match e with
 | .int i=>match aA G d with
  | some (.lst xs)=>match iL xs i with
   | some v=>.ok v G
   | none=>.stuck
  | some (.tup xs)=>match iL xs i with
   | some v=>.ok v G
   | none=>.stuck
  | some (.str z)=>if z.length≤WO then (match iL z.cps.toList i with
   | some c=>.ok (.str ⟨#[c]⟩) G
   | none=>.stuck) else .stuck
  | none=>.stuck
 | _=>.stuck
theorem uZ {i:Int} {d:D} (r:au K mg ρ H ds vs) (h:iL ds i=some d):∃ v,iL vs i=some v∧Rep K mg ρ H d v:=by
 unfold iL at h ⊢
 rw [← r.length]
 cases e:zW ds.length i with
 | none=>rw [e] at h;cases h
 | some j=>
  rw [e] at h
  obtain ⟨v,e1,e2⟩:=r.get (show ds[j]?=some d from h)
  exact ⟨v,e1,e2⟩
theorem PU:Eo X (rD X EE aT):=by
 intro value slice pins s σ0 H x y v u Q I rx ry zu hs
 obtain ⟨σ,τ,ρ,G,d,e,ab,r1,r2,ok⟩:=zu
 cases e<;>try exact ok.elim
 rename_i i
 unfold Rep at r2;subst r2
 dsimp only [aT] at ok
 cases q:aA G d with
 | none=>rw [q] at ok;exact ok.elim
 | some sk=>
  rw [q] at ok
  cases sk with
  | lst ds=>
   dsimp only at ok
   cases qa:iL ds i with
   | none=>rw [qa] at ok;exact ok.elim
   | some z=>
    rw [qa] at ok
    obtain ⟨l,xs,rfl,sq,rs⟩:=ck (pins:=pins) (σ0:=σ0) (s:=s) ab.hp r1 q
    obtain ⟨w,e1,e2⟩:=uZ rs qa
    exact EU value slice pins s σ0 H _ _ v u Q I rx ry ⟨l,xs,i,w,rfl,rfl,sq,e1,ok w H ρ .refl ab e2⟩ hs
  | tup ds=>
   dsimp only at ok
   cases qa:iL ds i with
   | none=>rw [qa] at ok;exact ok.elim
   | some z=>
    rw [qa] at ok
    obtain ⟨l,xs,rfl,sq,rs⟩:=fW r1 q
    obtain ⟨w,e1,e2⟩:=uZ rs qa
    exact Jy value slice pins s σ0 H _ _ v u Q I rx ry ⟨l,xs,i,w,rfl,rfl,sq,e1,ok w H ρ .refl ab e2⟩ hs
  | str z=>
   dsimp only at ok
   obtain ⟨rfl,rfl⟩:=j4 r1 q
   by_cases hz:z.length≤WO
   ·rw [if_pos hz] at ok
    cases qa:iL z.cps.toList i with
    | none=>rw [qa] at ok;exact ok.elim
    | some c=>
     rw [qa] at ok
     exact Jz value slice pins s σ0 H _ _ v u Q I rx ry ⟨z,i,c,rfl,rfl,hz,qa,ok _ H ρ .refl ab (by unfold Rep;rfl)⟩ hs
   ·rw [if_neg hz] at ok;exact ok.elim
theorem B4 (ha:QE X EE a ma) (hb:QE X EE b mb) (hs:nP b:=by intro _ _;rfl):QE X EE (.Subscript a b pos) (ak aT ma mb):=MO PU lE ha hb hs
noncomputable def cE:DS→M (Option Int):=λ_=>M.ret none
noncomputable def bY (m:DS→M D):DS→M (Option Int):=λτ=>(m τ).bind λd=>match d with
 | .int i=>M.ret (some i)
 | _=>M.stop
noncomputable def SX (K:WV) (mg:Str→Option V0) (EE:cz) (H:Hp) (σ:L2.St) (τ:DS) (ρ:List Addr):Out (Option Int)→(Option Int→Hp→Prop)→Prop
 | .stuck,_=>False
 | .ok b G',Q=>∀ H' ρ',cC K H H' ρ ρ'→Ab K mg σ H' τ ρ' G'→Q b H'
 | .bH c G',_=>∀ H' ρ',cC K H H' ρ ρ'→Ab K mg σ H' τ ρ' G'→EE c σ H'
noncomputable def MT (K:WV) (mg:Str→Option V0) (EE:cz) (m:DS→M (Option Int)):TO:=λσ H Q=>∃ τ ρ G,Ab K mg σ H τ ρ G∧SX K mg EE H σ τ ρ (m τ G) Q
noncomputable def QO (X:Cx) (EE:cz) (e:Option Expr) (m:DS→M (Option Int)):Prop:=PO X e (MT X.K X.mg EE m)
theorem PO.mono {e:Option Expr} {t t':TO} (h:PO X e t) (i:∀ σ H Q,t' σ H Q→t σ H Q):PO X e t':=λpins s σ H Q I q=>h pins s σ H Q I (i _ _ _ q)
theorem Fe:QO X EE none cE:=PO.mono EO λσ H Q zz=>by obtain ⟨τ,ρ,G,ab,ok⟩:=zz;exact ok H ρ .refl ab
theorem Ff (ha:QE X EE a ma):QO X EE (some a) (bY ma):=PO.mono (ER ha) λσ H Q zz=>by
 obtain ⟨τ,ρ,G,ab,ok⟩:=zz
 refine ⟨τ,ρ,G,ab,?_⟩
 dsimp only [bY,M.bind] at ok
 cases e:ma τ G with
 | stuck=>rw [e] at ok;exact ok
 | bH c G'=>rw [e] at ok;exact ok
 | ok d G'=>
  rw [e] at ok
  intro v H' ρ' f aZ r
  cases d<;>try exact ok.elim
  rename_i i
  unfold Rep at r
  exact ⟨i,r,ok H' ρ' f aZ⟩
noncomputable def cutD (xs:List D) (lo hi:Option Int):List D:=(xs.drop (HT.eG xs.length 0 lo)).take (HT.eG xs.length xs.length hi - HT.eG xs.length 0 lo)
noncomputable def uD (d:D) (lo hi:Option Int):M D:=λG=>match aA G d with
 | some (.lst xs)=>aP (cutD xs lo hi) G
 | some (.tup xs)=>if HT.eG xs.length 0 lo=0∧HT.eG xs.length xs.length hi=xs.length then .stuck else bA (cutD xs lo hi) G
 | some (.str z)=>if z.length≤WO then .ok (.str (ZH z lo hi)) G else .stuck
 | none=>.stuck
noncomputable def j5 (m:DS→M D) (ml mh:DS→M (Option Int)):DS→M D:=λτ=>(m τ).bind λd=>(ml τ).bind λlo=>(mh τ).bind λhi=>uD d lo hi
noncomputable def PV (X:Cx) (EE:cz):V→Option Int→Option Int→Hp→VK→Prop:=λx lo hi H Q=>∃ σ τ ρ G d,Ab X.K X.mg σ H τ ρ G∧Rep X.K X.mg ρ H d x∧iM X.K X.mg EE H σ τ ρ (uD d lo hi G) Q
theorem u0 (r:au K mg ρ H ds vs) (lo hi:Option Int):au K mg ρ H (cutD ds lo hi) (uP vs lo hi):=by
 unfold cutD uP
 rw [r.length]
 exact (r.drop _).take _
theorem j6 (x:Str) (l u:Option (Int×Tok)) (lo hi:Option Int) (hl:l.map (·.1)=lo) (hu:u.map (·.1)=hi) (t:Tok) (s:WT) (Q:V0→WT→Prop) (hz:x.length≤WO)
  (h:∀ t' k,Q (.str (ZH x lo hi) t') {s with toks:=k}):(sliceMade x t l u none).post Q s:=by
 subst hl hu
 cases l<;>cases u<;>exact post_val_or_str ⟨X5 (Txt.slice_le x _ _) hz,λt' k=>h t' k⟩
theorem PX:HQ X (PV X EE):=by
 intro pins s σ0 H x v vl vu lo hi sl Q I rx hs pl pu zu
 obtain ⟨σ,τ,ρ,G,d,ab,r1,ok⟩:=zu
 dsimp only [uD] at ok
 cases q:aA G d with
 | none=>rw [q] at ok;exact ok.elim
 | some sk=>
  rw [q] at ok
  cases sk with
  | lst ds=>
   obtain ⟨l,xs,rfl,sq,rs⟩:=ck (pins:=pins) (σ0:=σ0) (s:=s) ab.hp r1 q
   exact EV pins s σ0 H _ v vl vu lo hi sl Q I rx hs pl pu ⟨l,xs,rfl,sq,(mF ab (u0 rs lo hi) ok).2⟩
  | tup ds=>
   obtain ⟨l,xs,rfl,sq,rs⟩:=fW r1 q
   dsimp only at ok
   by_cases hw:HT.eG ds.length 0 lo=0∧HT.eG ds.length ds.length hi=ds.length
   ·rw [if_pos hw] at ok;exact ok.elim
   ·rw [if_neg hw] at ok
    refine Jx pins s σ0 H _ v vl vu lo hi sl Q I rx hs pl pu ⟨l,xs,rfl,sq,?_,(tu ab (u0 rs lo hi) ok).2⟩
    rw [← rs.length];exact hw
  | str z=>
   obtain ⟨rfl,rfl⟩:=j4 r1 q
   dsimp only at ok
   by_cases hz:z.length≤WO
   ·rw [if_pos hz] at ok
    obtain ⟨t,rfl⟩:=rx
    refine ⟨"str",_,F.slot_str_getitem.lookup,typeIs_str _ _ _,?_⟩
    obtain ⟨o,e1,e2,e3⟩:=hs
    refine ie I.os.2 ?_
    have fin:∀ t' k,0<k→EP X pins σ0 Q (.str (ZH z lo hi) t') {s with toks:=k}:=λt' k ht=>⟨.str _,H,I.tok k,⟨t',rfl⟩,ok _ H ρ .refl ab (by unfold Rep;rfl)⟩
    cases pl with
    | none=>
     cases pu with
     | none=>exact Zd (l:=none) (u:=none) (st:=none) ⟨o,e1,e2,e3⟩ rfl (j6 z none none none none rfl rfl t s _ hz fin)
     | int j tj=>exact Zd (l:=none) (u:=some (j,tj)) (st:=none) ⟨o,e1,e2,e3⟩ rfl (j6 z none (some (j,tj)) none (some j) rfl rfl t s _ hz fin)
    | int i ti=>
     cases pu with
     | none=>exact Zd (l:=some (i,ti)) (u:=none) (st:=none) ⟨o,e1,e2,e3⟩ rfl (j6 z (some (i,ti)) none (some i) none rfl rfl t s _ hz fin)
     | int j tj=>exact Zd (l:=some (i,ti)) (u:=some (j,tj)) (st:=none) ⟨o,e1,e2,e3⟩ rfl (j6 z (some (i,ti)) (some (j,tj)) (some i) (some j) rfl rfl t s _ hz fin)
   ·rw [if_neg hz] at ok;exact ok.elim
theorem B5 {lo hi:Option Expr} (ha:QE X EE a ma) (hl:QO X EE lo ml) (hh:QO X EE hi mh):QE X EE (.Subscript a (.Slice lo hi none p2) pos) (j5 ma ml mh):=
 PE.mono (BJ PX ha hl hh) λσ H Q zz=>by
  obtain ⟨τ,ρ,G,ab,ok⟩:=zz
  refine ⟨τ,ρ,G,ab,?_⟩
  dsimp only [j5,M.bind] at ok
  cases e1:ma τ G with
  | stuck=>rw [e1] at ok;exact ok
  | bH c G'=>rw [e1] at ok;exact ok
  | ok d G1=>
   rw [e1] at ok
   dsimp only at ok
   intro v H1 ρ1 f1 gn r1
   refine ⟨τ,ρ1,G1,gn,?_⟩
   cases e2:ml τ G1 with
   | stuck=>rw [e2] at ok;exact ok
   | bH c G'=>rw [e2] at ok;exact λH' ρ' f'=>ok H' ρ' (f1.trans f')
   | ok l G2=>
    rw [e2] at ok
    dsimp only at ok
    intro H2 ρ2 f2 bV
    refine ⟨τ,ρ2,G2,bV,?_⟩
    cases e3:mh τ G2 with
    | stuck=>rw [e3] at ok;exact ok
    | bH c G'=>rw [e3] at ok;exact λH' ρ' f'=>ok H' ρ' ((f1.trans f2).trans f')
    | ok u G3=>
     rw [e3] at ok
     dsimp only at ok
     intro H3 ρ3 f3 nS
     exact ⟨σ,τ,ρ3,G3,d,nS,r1.mono (f2.trans f3),ok.fut ((f1.trans f2).trans f3)⟩
noncomputable def jF (ma mb:DS→M Bool):DS→M Bool:=λτ=>(ma τ).bind λc=>if c then mb τ else M.ret false
noncomputable def Fg (ma mb:DS→M Bool):DS→M Bool:=λτ=>(ma τ).bind λc=>if c then M.ret true else mb τ
noncomputable def yR (ma:DS→M Bool):DS→M Bool:=λτ=>(ma τ).bind λc=>M.ret (!c)
variable {ta tb tc:DS→M Bool} {rest:List Expr}
theorem B6 {Q:Bool→Hp→Prop} (h:liftT X.K X.mg EE (jF ta tb) σ H Q):Mf (liftT X.K X.mg EE ta) (liftT X.K X.mg EE tb) σ H Q:=by
 obtain ⟨τ,ρ,G,ab,ok⟩:=xJ (k:=λτ c=>if c then tb τ else M.ret false) h
 refine ⟨τ,ρ,G,ab,?_⟩
 cases e:ta τ G with
 | stuck=>rw [e] at ok;exact ok
 | bH c G'=>rw [e] at ok;exact ok
 | ok k G'=>
  rw [e] at ok
  intro H' ρ' f' aZ
  obtain ⟨τ2,ρ2,G2,bV,aK⟩:=ok H' ρ' f' aZ
  cases k with
  | true=>exact ⟨τ2,ρ2,G2,bV,aK⟩
  | false=>exact aK H' ρ2 .refl bV
theorem Fi {Q:Bool→Hp→Prop} (h:liftT X.K X.mg EE (Fg ta tb) σ H Q):Ru (liftT X.K X.mg EE ta) (liftT X.K X.mg EE tb) σ H Q:=by
 obtain ⟨τ,ρ,G,ab,ok⟩:=xJ (k:=λτ c=>if c then M.ret true else tb τ) h
 refine ⟨τ,ρ,G,ab,?_⟩
 cases e:ta τ G with
 | stuck=>rw [e] at ok;exact ok
 | bH c G'=>rw [e] at ok;exact ok
 | ok k G'=>
  rw [e] at ok
  intro H' ρ' f' aZ
  obtain ⟨τ2,ρ2,G2,bV,aK⟩:=ok H' ρ' f' aZ
  cases k with
  | false=>exact ⟨τ2,ρ2,G2,bV,aK⟩
  | true=>exact aK H' ρ2 .refl bV
theorem PW.mono {t t':TT} (h:PW X e t) (i:∀ σ H Q,t' σ H Q→t σ H Q):PW X e t':=λwh pins s σ H Q I q=>h wh pins s σ H Q I (i _ _ _ q)
theorem Fj (ha:QT X EE a ta):QW X EE (.BoolOp .And [a] pos) ta:=EA ha
theorem J2 (ha:QT X EE a ta):QW X EE (.BoolOp .Or [a] pos) ta:=IK ha
theorem J3 (ha:QT X EE a ta) (hb:QW X EE (.BoolOp .And (b::rest) pos) tb):QW X EE (.BoolOp .And (a::b::rest) pos) (jF ta tb):=PW.mono (IL ha hb) λ_ _ _ h=>B6 h
theorem MU (ha:QT X EE a ta) (hb:QW X EE (.BoolOp .Or (b::rest) pos) tb):QW X EE (.BoolOp .Or (a::b::rest) pos) (Fg ta tb):=PW.mono (Mg ha hb) λ_ _ _ h=>Fi h
theorem PY (h:QW X EE e ta):QT X EE e ta:=h.pt
theorem J4 (ha:QT X EE a ta):QT X EE (.UnaryOp .Not a pos) (yR ta):=PT.mono (IM ha) λσ H Q h=>by
 obtain ⟨τ,ρ,G,ab,ok⟩:=xJ (k:=λτ c=>M.ret (!c)) h
 refine ⟨τ,ρ,G,ab,?_⟩
 cases e:ta τ G with
 | stuck=>rw [e] at ok;exact ok
 | bH c G'=>rw [e] at ok;exact ok
 | ok k G'=>
  rw [e] at ok
  intro H' ρ' f' aZ
  obtain ⟨τ2,ρ2,G2,bV,aK⟩:=ok H' ρ' f' aZ
  exact aK H' ρ2 .refl bV
noncomputable def fH (m:DS→M D):DS→M Bool:=λτ=>(m τ).bind λd=>match d with
 | .bl b=>M.ret b
 | _=>M.stop
theorem Fl {Q:Bool→Hp→Prop} (h:liftT X.K X.mg EE (fH m) σ H Q):bJ X.K X.mg EE m σ H λx H1=>∃ c,x=.bl c∧Q c H1:=by
 obtain ⟨τ,ρ,G,ab,ok⟩:=BU (k:=λ_ d=>match d with | .bl b=>M.ret b | _=>M.stop) h
 refine ⟨τ,ρ,G,ab,?_⟩
 cases e:m τ G with
 | stuck=>rw [e] at ok;exact ok
 | bH c G'=>rw [e] at ok;exact ok
 | ok d G'=>
  rw [e] at ok
  intro v H' ρ' f' aZ r'
  obtain ⟨τ2,ρ2,G2,d2,bV,r2,aK⟩:=ok v H' ρ' f' aZ r'
  cases d2<;>try exact aK.elim
  rename_i k
  unfold Rep at r2
  exact ⟨k,r2,aK H' ρ2 .refl bV⟩
theorem J5 (ho:iK X (compareOp op) (rD X EE f)) (ha:QE X EE a ma) (hb:QE X EE b mb) (hm:behindInMarks op b=false):QT X EE (.Compare a [op] [b] pos) (fH (ak f ma mb)):=
 PT.mono (EJ ho ha hb hm) λσ H Q h=>by
  have h1:=Fl h
  exact nR lE h1
theorem B7 {g:V0→V0→Sem V0} {r:R2} (ho:iK X g r) (hd:BX X EE r f):iK X g (rD X EE f):=λpins s σ H x y v u Q I rx ry q=>ho pins s σ H x y v u Q I rx ry (MP hd q)
theorem J6:iK X (compareOp .Lt) (rD X EE BY):=B7 Mv (gW λ_ _ _ _=>by unfold Rep;rfl)
theorem J7:iK X (compareOp .Gt) (rD X EE rH):=B7 Mw (gW λ_ _ _ _=>by unfold Rep;rfl)
theorem J8:iK X (compareOp .GtE) (rD X EE OG):=B7 Mx (gW λ_ _ _ _=>by unfold Rep;rfl)
noncomputable def SY (t:DS→M Bool) (ma mb:DS→M D):DS→M D:=λτ=>(t τ).bind λc=>if c then ma τ else mb τ
noncomputable def B8 (ma mb:DS→M D):DS→M D:=λτ=>(ma τ).bind λd=>match d with
 | .bl true=>mb τ
 | .bl false=>M.ret (.bl false)
 | _=>M.stop
noncomputable def MV (ma mb:DS→M D):DS→M D:=λτ=>(ma τ).bind λd=>match d with
 | .bl false=>mb τ
 | .bl true=>M.ret (.bl true)
 | _=>M.stop
noncomputable def B9 (ma:DS→M D):DS→M D:=λτ=>(ma τ).bind λd=>match d with
 | .bl b=>M.ret (.bl (!b))
 | _=>M.stop
theorem J9 {op} (h:QE X EE a ma):QE X EE (.BoolOp op [a] pos) ma:=IP h
theorem Ka (ha:QE X EE a ma) (hb:QE X EE (.BoolOp .And (b::rest) pos) mb):QE X EE (.BoolOp .And (a::b::rest) pos) (B8 ma mb):=PE.mono (IQ ha hb) λσ H Q h=>by
 obtain ⟨τ,ρ,G,ab,ok⟩:=i6 (k:=λτ d=>match d with | .bl true=>mb τ | .bl false=>M.ret (.bl false) | _=>M.stop) h
 refine ⟨τ,ρ,G,ab,?_⟩
 cases e:ma τ G with
 | stuck=>rw [e] at ok;exact ok
 | bH c G'=>rw [e] at ok;exact ok
 | ok k G'=>
  rw [e] at ok
  intro v H' ρ' f' aZ r'
  obtain ⟨τ2,ρ2,G2,d2,bV,r2,aK⟩:=ok v H' ρ' f' aZ r'
  cases d2<;>try exact aK.elim
  rename_i k
  unfold Rep at r2
  refine ⟨k,r2,?_⟩
  cases k with
  | true=>exact ⟨τ2,ρ2,G2,bV,aK⟩
  | false=>exact aK _ H' ρ2 .refl bV (by unfold Rep;rfl)
theorem MW (ha:QE X EE a ma) (hb:QE X EE (.BoolOp .Or (b::rest) pos) mb):QE X EE (.BoolOp .Or (a::b::rest) pos) (MV ma mb):=PE.mono (Mj ha hb) λσ H Q h=>by
 obtain ⟨τ,ρ,G,ab,ok⟩:=i6 (k:=λτ d=>match d with | .bl false=>mb τ | .bl true=>M.ret (.bl true) | _=>M.stop) h
 refine ⟨τ,ρ,G,ab,?_⟩
 cases e:ma τ G with
 | stuck=>rw [e] at ok;exact ok
 | bH c G'=>rw [e] at ok;exact ok
 | ok k G'=>
  rw [e] at ok
  intro v H' ρ' f' aZ r'
  obtain ⟨τ2,ρ2,G2,d2,bV,r2,aK⟩:=ok v H' ρ' f' aZ r'
  cases d2<;>try exact aK.elim
  rename_i k
  unfold Rep at r2
  refine ⟨k,r2,?_⟩
  cases k with
  | false=>exact ⟨τ2,ρ2,G2,bV,aK⟩
  | true=>exact aK _ H' ρ2 .refl bV (by unfold Rep;rfl)
theorem Kc (ha:QE X EE a ma):QE X EE (.UnaryOp .Not a pos) (B9 ma):=PE.mono (IS ha) λσ H Q h=>by
 obtain ⟨τ,ρ,G,ab,ok⟩:=i6 (k:=λτ d=>match d with | .bl b=>M.ret (.bl (!b)) | _=>M.stop) h
 refine ⟨τ,ρ,G,ab,?_⟩
 cases e:ma τ G with
 | stuck=>rw [e] at ok;exact ok
 | bH c G'=>rw [e] at ok;exact ok
 | ok k G'=>
  rw [e] at ok
  intro v H' ρ' f' aZ r'
  obtain ⟨τ2,ρ2,G2,d2,bV,r2,aK⟩:=ok v H' ρ' f' aZ r'
  cases d2<;>try exact aK.elim
  rename_i k
  unfold Rep at r2
  exact ⟨k,r2,aK _ H' ρ2 .refl bV (by unfold Rep;rfl)⟩
noncomputable def gA (ma:DS→M D):DS→M D:=λτ=>(ma τ).bind λd=>match d with
 | .int i=>M.ret (.int (-i))
 | _=>M.stop
theorem Kd (ha:QE X EE a ma):QE X EE (.UnaryOp .USub a pos) (gA ma):=PE.mono (Mt Jl ha) λσ H Q h=>by
 obtain ⟨τ,ρ,G,ab,ok⟩:=i6 (k:=λτ d=>match d with | .int i=>M.ret (.int (-i)) | _=>M.stop) h
 refine ⟨τ,ρ,G,ab,?_⟩
 cases e:ma τ G with
 | stuck=>rw [e] at ok;exact ok
 | bH c G'=>rw [e] at ok;exact ok
 | ok k G'=>
  rw [e] at ok
  intro v H' ρ' f' aZ r'
  obtain ⟨τ2,ρ2,G2,d2,bV,r2,aK⟩:=ok v H' ρ' f' aZ r'
  cases d2<;>try exact aK.elim
  rename_i k
  unfold Rep at r2
  exact ⟨k,r2,aK _ H' ρ2 .refl bV (by unfold Rep;rfl)⟩
end
section
variable {X:Cx} {EE:cz} {a b c:Expr} {ma mb mc:DS→M D} {pos:Pos} {ta tb tc:DS→M Bool} {ms mt:MS}
noncomputable def bI:MS:=λτ G=>.nx τ G
noncomputable def aG (m k:MS):MS:=λτ G=>match m τ G with
 | .nx τ' G'=>k τ' G'
 | r=>r
theorem Fo:uC X EE [] bI:=xq.mono EB λD σ H zz=>by obtain ⟨τ,ρ,G,ab,ok⟩:=zz;exact ok σ H ρ .refl ab
theorem Ca (h:gg X.K X.mg EE (aG ms mt) Dd σ H):Mm (gg X.K X.mg EE ms) (gg X.K X.mg EE mt) Dd σ H:=by
 obtain ⟨τ,ρ,G,ab,ok⟩:=h
 refine ⟨τ,ρ,G,ab,?_⟩
 dsimp only [aG] at ok
 cases e:ms τ G with
 | nx τ' G'=>rw [e] at ok;exact λσ' H' ρ' f aZ=>⟨τ',ρ',G',aZ,ok.fut f⟩
 | stuck=>rw [e] at ok;exact ok
 | rt d G=>rw [e] at ok;exact ok
 | bk τ G=>rw [e] at ok;exact ok
 | ct τ G=>rw [e] at ok;exact ok
 | xn c τ G=>rw [e] at ok;exact ok
theorem Cb {st:Stmt} {rest:List Stmt} (h1:QS X EE st ms) (h2:uC X EE rest mt):uC X EE (st::rest) (aG ms mt):=xq.mono (BC h1 h2) λ_ _ _ h=>Ca h
theorem Fp {st:Stmt} (h1:QS X EE st ms):uC X EE [st] ms:=EC h1
noncomputable def eU (m:DS→M D):MS:=λτ=>bN (m τ) (λ_ G=>.nx τ G) λc G=>.xn c τ G
noncomputable def cj (m:DS→M D):MS:=λτ=>bN (m τ) (λd G=>.rt d G) λc G=>.xn c τ G
noncomputable def MX:MS:=λ_ G=>.rt .eO G
noncomputable def aN (i:Nat) (m:DS→M D):MS:=λτ=>bN (m τ) (λd G=>.nx (τ.set i (some d)) G) λc G=>.xn c τ G
noncomputable def iO (t:DS→M Bool) (ma mb:MS):MS:=λτ=>bN (t τ) (λc G=>if c then ma τ G else mb τ G) λc G=>.xn c τ G
theorem Fq (he:QE X EE a ma) (hs:swapsWith a none pos.line X.env=pure false:=by rfl):QS X EE (.Expr a pos) (eU ma):=PS.mono (ED he hs) λD σ H h=>by
 obtain ⟨τ,ρ,G,ab,ok⟩:=oH (k:=λτ d G=>.nx τ G) h
 refine ⟨τ,ρ,G,ab,?_⟩
 cases e:ma τ G with
 | stuck=>rw [e] at ok;exact ok
 | bH c G'=>rw [e] at ok;exact ok
 | ok d G'=>
  rw [e] at ok
  intro v H' ρ' f' aZ r'
  obtain ⟨τ2,ρ2,G2,d2,bV,r2,aK⟩:=ok v H' ρ' f' aZ r'
  exact aK σ H' ρ2 .refl bV
theorem Ke (he:QE X EE a ma):QS X EE (.Return (some a) pos) (cj ma):=PS.mono (IT he) λD σ H h=>by
 obtain ⟨τ,ρ,G,ab,ok⟩:=oH (k:=λτ d G=>.rt d G) h
 refine ⟨τ,ρ,G,ab,?_⟩
 cases e:ma τ G with
 | stuck=>rw [e] at ok;exact ok
 | bH c G'=>rw [e] at ok;exact ok
 | ok d G'=>
  rw [e] at ok
  intro v H' ρ' f' aZ r'
  obtain ⟨τ2,ρ2,G2,d2,bV,r2,aK⟩:=ok v H' ρ' f' aZ r'
  exact aK v H' ρ2 .refl bV.hp r2
theorem Ab.set {d:D} (ab:Ab K mg σ H τ ρ G) (r:Rep K mg ρ H d v):Ab K mg (σ.set i (some v)) H (τ.set i (some d)) ρ G:=⟨ab.st.set r,ab.hp⟩
theorem Kf {pos':Pos} (hN:X.N.Nodup) (he:QE X EE a ma) (hi:X.N[i]?=some x:=by rfl) (hx:Loc X.env.scope x:=by first | exact Or.inl rfl | exact acg rfl)
  (hs:swapsWith a (some (.Name x pos')) pos.line X.env=pure false:=by rfl) (hf:X.fn x=true∨X.env.scope.names.lookup x=some .local:=by first | exact .inl rfl | exact .inr rfl | assumption) :
  QS X EE (.Assign [.Name x pos'] a pos) (aN i ma):=PS.mono (IX hN hi hx he hs hf) λD σ H h=>by
 obtain ⟨τ,ρ,G,ab,ok⟩:=oH (k:=λτ d G=>.nx (τ.set i (some d)) G) h
 refine ⟨τ,ρ,G,ab,?_⟩
 cases e:ma τ G with
 | stuck=>rw [e] at ok;exact ok
 | bH c G'=>rw [e] at ok;exact ok
 | ok d G'=>
  rw [e] at ok
  intro v H' ρ' f' aZ r'
  obtain ⟨τ2,ρ2,G2,d2,bV,r2,aK⟩:=ok v H' ρ' f' aZ r'
  exact aK _ H' ρ2 .refl (bV.set r2)
theorem MY (hc:QT X EE c tc) (ha:uC X EE body ms) (hb:uC X EE els mt):QS X EE (.If c body els pos) (iO tc ms mt):=PS.mono (Mp hc ha hb) λD σ H h=>by
 obtain ⟨τ,ρ,G,ab,ok⟩:=BW (k:=λτ c G=>if c then ms τ G else mt τ G) h
 refine ⟨τ,ρ,G,ab,?_⟩
 cases e:tc τ G with
 | stuck=>rw [e] at ok;exact ok
 | bH c G'=>rw [e] at ok;exact ok
 | ok k G'=>
  rw [e] at ok
  intro H' ρ' f' aZ
  obtain ⟨τ2,ρ2,G2,bV,aK⟩:=ok H' ρ' f' aZ
  cases k with
  | true=>exact ⟨τ2,ρ2,G2,bV,aK⟩
  | false=>exact ⟨τ2,ρ2,G2,bV,aK⟩
noncomputable abbrev kL:=D→DS→Option DS
noncomputable def u6 (K:WV) (mg:Str→Option V0) (g:kL):TG:=λv σ H Q=>∃ τ ρ G d τ',Ab K mg σ H τ ρ G∧Rep K mg ρ H d v∧g d τ=some τ'∧∀ σ',Ab K mg σ' H τ' ρ G→Q σ' H
noncomputable def QG (X:Cx) (e:Expr) (g:kL):Prop:=PG X e (u6 X.K X.mg g)
noncomputable def gN (i:Nat):kL:=λd τ=>some (τ.set i (some d))
theorem Ft (hN:X.N.Nodup) (hi:X.N[i]?=some x:=by rfl) (hx:Loc X.env.scope x:=by first | exact Or.inl rfl | exact acg rfl) (hf:X.fn x=true∨X.env.scope.names.lookup x=some .local:=by first | exact .inl rfl | exact .inr rfl | assumption) :
  QG X (.Name x pos) (gN i):=λpins s σ H v u Q I r ⟨τ,ρ,G,d,τ',ab,rd,e,q⟩=>sQ hN hi hx hf pins s σ H v u Q I r (by
 cases e
 exact q _ (ab.set rd))
noncomputable def bC (g:kL) (body:MS):List D→MS
 | [],τ,G=>.nx τ G
 | d::r,τ,G=>match g d τ with
  | none=>.stuck
  | some τ1=>match body τ1 G with
   | .nx τ' G'=>bC g body r τ' G'
   | .ct τ' G'=>bC g body r τ' G'
   | .bk τ' G'=>.nx τ' G'
   | x=>x
noncomputable def tB (g:kL) (body:MS) (n:Nat):Nat→Nat→MS
 | 0,_,_,_=>.stuck
 | f+1,k,τ,G=>match G[n]? with
  | some (.lst xs)=>match xs[k]? with
   | none=>.nx τ G
   | some d=>match g d τ with
    | none=>.stuck
    | some τ1=>match body τ1 G with
     | .nx τ' G'=>tB g body n f (k+1) τ' G'
     | .ct τ' G'=>tB g body n f (k+1) τ' G'
     | .bk τ' G'=>.nx τ' G'
     | x=>x
  | _=>.stuck
end
variable {g:kL}
noncomputable def Fv (z:Str):It:=⟨λi _=>i<z.cps.size,λi H x H'=>H'=H∧∃ c,z.cps[i]?=some c∧x=.str ⟨#[c]⟩,λi _=>z.cps.size≤i⟩
theorem Cc (z:Str) (t:Tok) (it:Addr):Turn P w K tg (Fv z) [it] it (λi h=>h.IsStrIter it (strIterType z) z t i) where
 mem:=by simp
 obj:=λi h st b hb=>by
  have e:b=it:=by simpa using hb
  subst e
  obtain ⟨o,e,c,d⟩:=st
  exact ⟨o,e,λv z=>by rw [d] at z;cases z⟩
 keep:=λi h h' st k=>by
  obtain ⟨o,e,r⟩:=st
  exact ⟨o,k it (by simp) o e,r⟩
 item:=by
  intro X hP hw hK hc i pins s σ H E I hf st hg
  subst hP hw hK
  obtain ⟨f0,f1,f2,f3,f4,f5⟩:=hf it (by simp)
  have hx:z.cps[i]?=some z.cps[i]:=Zw hg
  have fin:∀ h',h'.IsStrIter it (strIterType z) z t (i+1)→Y0 it s.heap h'→∃ u,some (Value.str ⟨#[z.cps[i]]⟩ s.toks)=some u ∧
   Xe (model X.prog X.w) X.A (letOwnedTupleGo tg (.ref it) u) (λ_ s2=>∃ x H',Inv X pins σ H' s2∧RelV x u∧(Fv z).qX i H x H'∧s2.heap.IsStrIter it (strIterType z) z t (i+1)∧∀ b∈[it],H' b=none) E {s with heap:=h',toks:=s.toks+1}:=λh' st' sb=>by
   have I1:Inv X pins σ H {s with heap:=h',toks:=s.toks+1}:=I.turned (t':=s.toks+1) (λb o hb e=>(sb.2 b hb).trans e) f0 f1 f3 f4 f5
   obtain ⟨o,e,c,d⟩:=id st'
   refine ⟨_,rfl,oq (s:={s with heap:=h',toks:=s.toks+1}) e c d ?_ ⟨.str ⟨#[z.cps[i]]⟩,H,I1,⟨_,rfl⟩,⟨rfl,_,hx,rfl⟩,st',λb hb=>(hf b hb).1⟩⟩
   unfold strIterType
   split<;>decide
  cases ha:z.cps.all (·<128) with
  | true=>
   have e:strIterType z="str_ascii_iterator":=by unfold strIterType;rw [ha];rfl
   rw [e] at st fin
   exact wpAny_pyNext_ascii_item st hx λh' st' sb=>by rw [e];exact fin h' st' sb
  | false=>
   have e:strIterType z="str_iterator":=by unfold strIterType;rw [ha];rfl
   rw [e] at st fin
   exact wpAny_pyNext_wide_item st hx λh' st' sb=>by rw [e];exact fin h' st' sb
 done:=by
  intro X hP hw hK hc i pins s σ H E I hf st hg
  subst hP hw hK
  obtain ⟨f0,f1,f2,f3,f4,f5⟩:=hf it (by simp)
  have hx:z.cps[i]?=none:=ZP hg
  have fin:∀ h',abk it s.heap h'→(none:Option V0)=none∧Inv X pins σ H {s with heap:=h'}:=λh' eb=>⟨rfl,I.turned (t':=s.toks) (λb o hb e=>eb b o hb e) f0 f1 f3 f4 f5⟩
  cases ha:z.cps.all (·<128) with
  | true=>
   have e:strIterType z="str_ascii_iterator":=by unfold strIterType;rw [ha];rfl
   rw [e] at st
   exact wpAny_pyNext_ascii_end (I.ok.hd hc) st hx fin
  | false=>
   have e:strIterType z="str_iterator":=by unfold strIterType;rw [ha];rfl
   rw [e] at st
   exact wpAny_pyNext_wide_end (I.ok.hd hc) st hx fin
 self:=λA i s Q E st h=>by
  cases ha:z.cps.all (·<128) with
  | true=>
   have e:strIterType z="str_ascii_iterator":=by unfold strIterType;rw [ha];rfl
   rw [e] at st
   exact wpAny_pyIter_striter_ascii st h
  | false=>
   have e:strIterType z="str_iterator":=by unfold strIterType;rw [ha];rfl
   rw [e] at st
   exact wpAny_pyIter_striter_wide st h
section
variable {X:Cx} {EE:cz} {a b c tg:Expr} {ma mb mc:DS→M D} {pos:Pos} {ms mt:MS}
noncomputable def gp (g:kL) (m:DS→M D) (body:MS):MS:=λτ=>bN (m τ) (λd G=>match d with
 | .obj n=>match G[n]? with
  | some (.lst xs)=>tB g body n (xs.length+1) 0 τ G
  | _=>.stuck
 | .tup xs=>bC g body xs τ G
 | .con xs=>bC g body xs τ G
 | .str z=>bC g body (z.cps.toList.map λc=>.str ⟨#[c]⟩) τ G
 | _=>.stuck) λc G=>.xn c τ G
theorem j7 {g:kL} {body:MS} {Dd:Ends} {J:It} {H0:Hp} {σ0:L2.St} {ρ0:List Addr} {G0:DH} {τ0:DS} (ds:List D)
  (go:∀ i H ρ,i<ds.length→cC X.K H0 H ρ0 ρ→J.go i H) (stop:∀ i H ρ,ds.length≤i→cC X.K H0 H ρ0 ρ→J.stop i H)
  (qX:∀ i d H ρ x H',ds[i]?=some d→cC X.K H0 H ρ0 ρ→J.qX i H x H'→H'=H∧Rep X.K X.mg ρ H d x)
  (ab:Ab X.K X.mg σ0 H0 τ0 ρ0 G0) (ok:qH X.K X.mg EE H0 ρ0 Dd (bC g body ds τ0 G0)) :
  ∃ W:Nat→Nat→L2.St→Hp→Prop,(∃ m,W 0 m σ0 H0)∧∀ i m σ H,W i m σ H →
   (J.stop i H∧Dd.nx σ H)∨(J.go i H∧∃ N:L2.St→Hp→Prop,(∀ σ' H',N σ' H'→∃ m',m'<m∧W (i+1) m' σ' H')∧∀ x H',J.qX i H x H'→u6 X.K X.mg g x σ H' λσ2 H2=>gg X.K X.mg EE body {Dd with nx:=N,ct:=N,bk:=Dd.nx} σ2 H2):=by
 refine ⟨λi m σ H=>i≤ds.length∧m=ds.length - i∧∃ τ ρ G,Ab X.K X.mg σ H τ ρ G∧cC X.K H0 H ρ0 ρ∧qH X.K X.mg EE H ρ Dd (bC g body (ds.drop i) τ G),⟨ds.length,XQ _,rfl,τ0,ρ0,G0,ab,.refl,by simpa using ok⟩,?_⟩
 rintro i m σ H ⟨hi,rfl,τ,ρ,G,ab,f,ok⟩
 by_cases hlt:i<ds.length
 ·refine .inr ⟨go i H ρ hlt f,λσ' H'=>∃ τ' ρ' G',Ab X.K X.mg σ' H' τ' ρ' G'∧cC X.K H0 H' ρ0 ρ'∧qH X.K X.mg EE H' ρ' Dd (bC g body (ds.drop (i+1)) τ' G'),λσ' H' n=>⟨ds.length - (i+1),by nofun,hlt,rfl,n⟩,λx H' y=>?_⟩
  obtain ⟨rfl,rx⟩:=qX i ds[i] H ρ x H' (W2 hlt) f y
  rw [YT hlt] at ok
  unfold bC at ok
  cases e:g ds[i] τ with
  | none=>rw [e] at ok;exact ok.elim
  | some τ1=>
   rw [e] at ok
   dsimp only at ok
   refine ⟨τ,ρ,G,ds[i],τ1,ab,rx,e,λσ' aZ=>⟨τ1,ρ,G,aZ,?_⟩⟩
   cases eb:body τ1 G with
   | stuck=>rw [eb] at ok;exact ok
   | nx τ2 G2=>rw [eb] at ok;exact λσ2 H2 ρ2 f2 bV=>⟨τ2,ρ2,G2,bV,f.trans f2,ok.fut f2⟩
   | ct τ2 G2=>rw [eb] at ok;exact λσ2 H2 ρ2 f2 bV=>⟨τ2,ρ2,G2,bV,f.trans f2,ok.fut f2⟩
   | bk τ2 G2=>rw [eb] at ok;exact ok
   | rt d G2=>rw [eb] at ok;exact ok
   | xn c τ2 G2=>rw [eb] at ok;exact ok
 ·have e:i=ds.length:=by nofun
  subst e
  refine .inl ⟨stop _ H ρ (WZ _) f,?_⟩
  rw [Zg (WZ _)] at ok
  exact ok σ H ρ .refl ab
theorem Fw {g:kL} {body:MS} {Dd:Ends} {H0:Hp} {σ0:L2.St} {G0:DH} {τ0:DS} {fuel:Nat} (hn:ρ0[n]?=some p)
  (ab:Ab X.K X.mg σ0 H0 τ0 ρ0 G0) (ok:qH X.K X.mg EE H0 ρ0 Dd (tB g body n fuel 0 τ0 G0)) :
  ∃ W:Nat→Nat→L2.St→Hp→Prop,(∃ m,W 0 m σ0 H0)∧∀ i m σ H,W i m σ H →
   ((En X.K p).stop i H∧Dd.nx σ H)∨((En X.K p).go i H∧∃ N:L2.St→Hp→Prop,(∀ σ' H',N σ' H'→∃ m',m'<m∧W (i+1) m' σ' H')∧∀ x H',(En X.K p).qX i H x H'→u6 X.K X.mg g x σ H' λσ2 H2=>gg X.K X.mg EE body {Dd with nx:=N,ct:=N,bk:=Dd.nx} σ2 H2):=by
 refine ⟨λi m σ H=>∃ τ ρ G,Ab X.K X.mg σ H τ ρ G∧cC X.K H0 H ρ0 ρ∧qH X.K X.mg EE H ρ Dd (tB g body n m i τ G),⟨fuel,τ0,ρ0,G0,ab,.refl,ok⟩,?_⟩
 rintro i m σ H ⟨τ,ρ,G,ab,f,ok⟩
 cases m with
 | zero=>exact ok.elim
 | succ m=>
  unfold tB at ok
  cases q:G[n]? with
  | none=>rw [q] at ok;exact ok.elim
  | some o=>
   cases o with
   | lst ds=>
    rw [q] at ok
    dsimp only at ok
    obtain ⟨p',xs,e1,e2,rs⟩:=ab.hp.lst q
    rw [f.get hn] at e1;cases e1
    cases qd:ds[i]? with
    | none=>
     rw [qd] at ok
     have hl:xs.length≤i:=by rw [← rs.length];exact XN.mp qd
     exact .inl ⟨⟨xs,.of e2,hl⟩,ok σ H ρ .refl ab⟩
    | some d=>
     rw [qd] at ok
     dsimp only at ok
     obtain ⟨x0,ex,rx⟩:=rs.get qd
     refine .inr ⟨⟨xs,x0,.of e2,ex⟩,λσ' H'=>∃ τ' ρ' G',Ab X.K X.mg σ' H' τ' ρ' G'∧cC X.K H0 H' ρ0 ρ'∧qH X.K X.mg EE H' ρ' Dd (tB g body n m (i+1) τ' G'),λσ' H' z=>⟨m,YI _,z⟩,λx H' y=>?_⟩
     obtain ⟨rfl,y⟩:=y
     have e3:=y xs (.of e2)
     rw [ex] at e3;cases e3
     cases e:g d τ with
     | none=>rw [e] at ok;exact ok.elim
     | some τ1=>
      rw [e] at ok
      dsimp only at ok
      refine ⟨τ,ρ,G,d,τ1,ab,rx,e,λσ' aZ=>⟨τ1,ρ,G,aZ,?_⟩⟩
      cases eb:body τ1 G with
      | stuck=>rw [eb] at ok;exact ok
      | nx τ2 G2=>rw [eb] at ok;exact λσ2 H2 ρ2 f2 bV=>⟨τ2,ρ2,G2,bV,f.trans f2,ok.fut f2⟩
      | ct τ2 G2=>rw [eb] at ok;exact λσ2 H2 ρ2 f2 bV=>⟨τ2,ρ2,G2,bV,f.trans f2,ok.fut f2⟩
      | bk τ2 G2=>rw [eb] at ok;exact ok
      | rt d G2=>rw [eb] at ok;exact ok
      | xn c τ2 G2=>rw [eb] at ok;exact ok
   | _=>first | (rw [q] at ok;exact ok.elim) | (rw [q] at aK;exact aK.elim) | (rw [q] at e;cases e;done) | (rw [g] at ok;exact ok.elim) | (rw [g] at q;cases q;done) | (rw [g] at h;cases h;done) | (rw [g2] at ok;exact ok.elim) | (rw [g1,g2] at ok;exact ok.elim) | (rw [q1] at ok;exact ok.elim) | exact ok.elim
theorem PI.any {l:Expr} {tl:TE} (hl:PE X l tl):PI X tg l (λσ H R=>tl σ H λx H1=>(∃ p,x=.ref p∧(∃ xs,jY X.K H1 p xs)∧R (En X.K p) H1)∨(∃ p,x=.ref p∧(∃ xs,kC X.K H1 p xs)∧R (OB X.K p) H1)∨∃ z,x=.str z∧R (Fv z) H1):=by
 intro pins s σ H R I h
 refine cY (hl pins s σ H _ I h) λu s1 zz=>?_
 obtain ⟨x,H1,I1,r1,q⟩:=zz
 rcases q with ⟨p,rfl,⟨xs,sq⟩,q⟩ | ⟨p,rfl,⟨xs,sq⟩,q⟩ | ⟨z,rfl,q⟩
 ·cases r1
  obtain ⟨its,rv,pl,hz⟩:=I1.list sq
  refine aav pl.isList ?_
  have I2:Inv X pins σ H1 {s1 with heap:=s1.heap.push {cls:=.type "list_iterator",data:=.fields #[.ref p,.int 0 0]}}:=I1.kept (t':=s1.toks) λb o e=>WQ _ e
  refine ⟨s1.heap.objs.size,[s1.heap.objs.size],_,En X.K p,H1,rfl,I2,zO p _,⟨_,W5 _ rfl,rfl,rfl⟩,λb hb=>?_,q⟩
  have e:b=s1.heap.objs.size:=by simpa using hb
  subst e
  exact I1.nG (WZ _) (I1.hok.fresh (WZ _))
 ·cases r1
  obtain ⟨its,rv,pl,hz⟩:=I1.tuple sq
  refine Zh pl ?_
  have I2:Inv X pins σ H1 {s1 with heap:=s1.heap.push {cls:=.type "tuple_iterator",data:=.fields #[.ref p,.int 0 0]}}:=I1.kept (t':=s1.toks) λb o e=>WQ _ e
  refine ⟨s1.heap.objs.size,[s1.heap.objs.size],_,OB X.K p,H1,rfl,I2,xu p _,⟨_,W5 _ rfl,rfl,rfl⟩,λb hb=>?_,q⟩
  have e:b=s1.heap.objs.size:=by simpa using hb
  subst e
  exact I1.nG (WZ _) (I1.hok.fresh (WZ _))
 ·obtain ⟨t,rfl⟩:=r1
  refine wpAny_pyIter_strU ?_
  have I2:Inv X pins σ H1 {s1 with heap:=s1.heap.push {cls:=.type (strIterType z),data:=.fields #[.str z t,.int 0 0]}}:=I1.kept (t':=s1.toks) λb o e=>WQ _ e
  refine ⟨s1.heap.objs.size,[s1.heap.objs.size],_,Fv z,H1,rfl,I2,Cc z t _,⟨_,W5 _ rfl,rfl,rfl⟩,λb hb=>?_,q⟩
  have e:b=s1.heap.objs.size:=by simpa using hb
  subst e
  exact I1.nG (WZ _) (I1.hok.fresh (WZ _))
theorem Kg (hp:PassesOwn (model X.prog X.w) X.A X.env X.xe) (hc:X.calm=true) (ha:QE X EE a ma) (hg:QG X tg g) (hb:uC X EE body ms) (hs:∀ x,foldedSetIterable a X.env x=pure x:=by intro _;rfl) :
  QS X EE (.For tg a body [] pos) (gp g ma ms):=PS.mono (xx hp hc (PI.any ha) hg hb hs) λDd σ H h=>by
 obtain ⟨τ,ρ,G,ab,ok⟩:=oH (k:=λτ d G=>match d with
  | .obj n=>match G[n]? with
   | some (.lst xs)=>tB g ms n (xs.length+1) 0 τ G
   | _=>.stuck
  | .tup xs=>bC g ms xs τ G
  | .con xs=>bC g ms xs τ G
  | .str z=>bC g ms (z.cps.toList.map λc=>.str ⟨#[c]⟩) τ G
  | _=>.stuck) h
 refine ⟨τ,ρ,G,ab,?_⟩
 cases e:ma τ G with
 | stuck=>rw [e] at ok;exact ok
 | bH c G'=>rw [e] at ok;exact ok
 | ok d G'=>
  rw [e] at ok
  intro v H1 ρ1 f1 gn r1
  obtain ⟨τ2,ρ2,G2,d2,bV,r2,aK⟩:=ok v H1 ρ1 f1 gn r1
  cases d2<;>try exact aK.elim
  case obj n=>
   dsimp only at aK
   unfold Rep at r2
   obtain ⟨p,rfl,e1⟩:=r2
   cases q:G2[n]? with
   | none=>rw [q] at aK;exact aK.elim
   | some o=>
    cases o with
    | lst xs=>
     rw [q] at aK
     obtain ⟨p',vs,e2,h2,rs⟩:=bV.hp.lst q
     rw [e1] at e2;cases e2
     exact .inl ⟨p,rfl,⟨vs,.of h2⟩,Fw e1 bV aK⟩
    | _=>first | (rw [q] at ok;exact ok.elim) | (rw [q] at aK;exact aK.elim) | (rw [q] at e;cases e;done) | (rw [g] at ok;exact ok.elim) | (rw [g] at q;cases q;done) | (rw [g] at h;cases h;done) | (rw [g2] at ok;exact ok.elim) | (rw [g1,g2] at ok;exact ok.elim) | (rw [q1] at ok;exact ok.elim) | exact ok.elim
  case tup xs=>
   unfold Rep at r2
   obtain ⟨p,vs,rfl,sq,rs⟩:=r2
   refine .inr (.inl ⟨p,rfl,⟨vs,sq⟩,j7 xs (λi H' ρ' hi f=>?_) (λi H' ρ' hi f=>?_) (λi d' H' ρ' x MZ hd f y=>?_) bV aK⟩)
   ·rw [rs.length] at hi
    exact ⟨vs,vs[i],f.tup _ _ sq,W2 hi⟩
   ·exact ⟨vs,f.tup _ _ sq,by rw [← rs.length];exact hi⟩
   ·obtain ⟨rfl,y⟩:=y
    obtain ⟨w',ew,rw'⟩:=rs.get hd
    have:=y vs (f.tup _ _ sq)
    rw [ew] at this;cases this
    exact ⟨rfl,rw'.mono f⟩
  case con xs=>
   unfold Rep at r2
   obtain ⟨p,vs,rfl,sq,rs⟩:=r2
   refine .inl ⟨p,rfl,⟨vs,sq.seq⟩,j7 xs (λi H' ρ' hi f=>?_) (λi H' ρ' hi f=>?_) (λi d' H' ρ' x MZ hd f y=>?_) bV aK⟩
   ·rw [rs.length] at hi
    exact ⟨vs,vs[i],(f.con _ _ sq).seq,W2 hi⟩
   ·exact ⟨vs,(f.con _ _ sq).seq,by rw [← rs.length];exact hi⟩
   ·obtain ⟨rfl,y⟩:=y
    obtain ⟨w',ew,rw'⟩:=rs.get hd
    have:=y vs (f.con _ _ sq).seq
    rw [ew] at this;cases this
    exact ⟨rfl,rw'.mono f⟩
  case str z=>
   unfold Rep at r2;subst r2
   refine .inr (.inr ⟨z,rfl,j7 (z.cps.toList.map λc=>.str ⟨#[c]⟩) (λi H' ρ' hi f=>?_) (λi H' ρ' hi f=>?_) (λi d' H' ρ' x MZ hd f y=>?_) bV aK⟩)
   ·simpa [Fv] using hi
   ·simpa [Fv] using hi
   ·obtain ⟨rfl,c,hc,rfl⟩:=y
    rw [Xn] at hd
    have:z.cps.toList[i]?=some c:=by simpa using hc
    rw [this] at hd
    cases hd
    exact ⟨rfl,by unfold Rep;rfl⟩
noncomputable def eV:List D→Option (List D)
 | [.int j]=>if -(2^62)≤j∧j<2^62 then some ((Xz j.toNat).map λ(k:Nat)=>.int (0+(k:Int))) else none
 | _=>none
noncomputable def nI:List D→Option (List D)
 | [.int i,.int j]=>if -(2^62)≤i∧i<2^62∧-(2^62)≤j∧j<2^62 then some ((Xz (j - i).toNat).map λ(k:Nat)=>.int (i+(k:Int))) else none
 | _=>none
noncomputable def fL (zM:List D→Option (List D)) (g:kL) (m:DS→M (List D)) (body:MS):MS:=λτ=>bN (m τ) (λds G=>match zM ds with
 | some xs=>bC g body xs τ G
 | none=>.stuck) λc G=>.xn c τ G
theorem Kh {m:DS→M (List D)} {k:DS→List D→DH→Res} (h:gg K mg EE (λτ=>bN (m τ) (k τ) λc G=>.xn c τ G) Dd σ H) :
  gU K mg EE m σ H λx H1=>∃ τ ρ G d,Ab K mg σ H1 τ ρ G∧au K mg ρ H1 d x∧qH K mg EE H1 ρ Dd (k τ d G):=by
 obtain ⟨τ,ρ,G,ab,ok⟩:=h
 refine ⟨τ,ρ,G,ab,?_⟩
 dsimp only [bN] at ok
 cases e:m τ G with
 | stuck=>rw [e] at ok;exact ok
 | bH c G'=>rw [e] at ok;exact λH' ρ' f aZ=>ok σ H' ρ' f aZ
 | ok d G'=>rw [e] at ok;exact λv H' ρ' f aZ r=>⟨τ,ρ',G',d,aZ,r,ok.fut f⟩
theorem Ad {body:MS} {τ0:DS} (lo:Int) (n:Nat) (ab:Ab X.K X.mg σ0 H0 τ0 ρ0 G0) (ok:qH X.K X.mg EE H0 ρ0 Dd (bC g body ((Xz n).map λ(k:Nat)=>.int (lo+(k:Int))) τ0 G0)) :
  ∃ W:Nat→Nat→L2.St→Hp→Prop,(∃ m,W 0 m σ0 H0)∧∀ i m σ H,W i m σ H →
   ((qY lo n).stop i H∧Dd.nx σ H)∨((qY lo n).go i H∧∃ N:L2.St→Hp→Prop,(∀ σ' H',N σ' H'→∃ m',m'<m∧W (i+1) m' σ' H')∧∀ x H',(qY lo n).qX i H x H'→u6 X.K X.mg g x σ H' λσ2 H2=>gg X.K X.mg EE body {Dd with nx:=N,ct:=N,bk:=Dd.nx} σ2 H2):=
 j7 (J:=qY lo n) _ (λi H ρ hi f=>by simpa [qY] using hi) (λi H ρ hi f=>by simpa [qY] using hi) (λi d H ρ x H' hd f y=>by
  obtain ⟨rfl,rfl⟩:=y
  rw [Xn] at hd
  cases q:(Xz n)[i]? with
  | none=>rw [q] at hd;cases hd
  | some k=>
   rw [q] at hd
   obtain ⟨hk,e⟩:=WS.mp q
   rw [abA] at e
   subst e
   cases hd
   exact ⟨rfl,by unfold Rep;rfl⟩) ab ok
theorem Cd {m:DS→M (List D)} {p pc:Pos} (hp:PassesOwn (model X.prog X.w) X.A X.env X.xe) (hc:X.calm=true) (hm:X.mg "range"=none) (ha:QA X EE [a] m) (hg:QG X tg g) (hb:uC X EE body ms)
  (qD:Gl X "range":=by rfl) (hst:Xh [a] X.env=[(false,eval a X.env)]:=by rfl) (hs:∀ x,foldedSetIterable (.Call (.Name "range" p) [a] [] pc) X.env x=pure x:=by intro _;rfl) :
  QS X EE (.For tg (.Call (.Name "range" p) [a] [] pc) body [] pos) (fL eV g m ms):=PS.mono (xx hp hc (qZ qD hm ha hst) hg hb hs) λDd σ H h=>by
 obtain ⟨τ,ρ,G,ab,ok⟩:=Kh (k:=λτ ds G=>match eV ds with | some xs=>bC g ms xs τ G | none=>.stuck) h
 refine ⟨τ,ρ,G,ab,?_⟩
 cases e:m τ G with
 | stuck=>rw [e] at ok;exact ok
 | bH c G'=>rw [e] at ok;exact ok
 | ok ds G'=>
  rw [e] at ok
  intro vs H1 ρ1 f1 gn r1
  obtain ⟨τ2,ρ2,G2,d2,bV,r2,aK⟩:=ok vs H1 ρ1 f1 gn r1
  cases q:eV d2 with
  | none=>rw [q] at aK;exact aK.elim
  | some xs=>
   rw [q] at aK
   unfold eV at q
   split at q
   ·rename_i j
    split at q
    ·rename_i hj
     cases q
     unfold au at r2
     obtain ⟨v,r,rfl,h1,h2⟩:=r2
     unfold au at h2;subst h2
     unfold Rep at h1;subst h1
     exact ⟨j,rfl,hj.1,hj.2,Ad 0 j.toNat bV aK⟩
    ·cases q
   ·cases q
end
noncomputable def S3 (K:WV) (mg:Str→Option V0) (H:Hp) (ρ:List Addr):Out D→VK→XK→Prop
 | .stuck,_,_=>False
 | .ok d G',Q,_=>∀ v H' ρ',cC K H H' ρ ρ'→eS K mg H' ρ' G'→Rep K mg ρ' H' d v→Q v H'
 | .bH c G',_,E=>∀ cls H' ρ',(match c with | .mk n _=>mg n=some cls)→cC K H H' ρ ρ'→eS K mg H' ρ' G'→E cls none H'
noncomputable def gC (K:WV) (mg:Str→Option V0) (n:Nat) (m:List D→M D):Sp:=λvs H Q E=>∃ ds ρ G,ds.length=n∧eS K mg H ρ G∧au K mg ρ H ds vs∧S3 K mg H ρ (m ds G) Q E
theorem gC.len {m:List D→M D} {Q:VK} {E:XK} (h:gC K mg n m vs H Q E):vs.length=n:=by
 obtain ⟨ds,ρ,G,e,_,r,_⟩:=h
 rw [← r.length,e]
noncomputable def M0 (mg:Str→Option V0) (EE:cz) (σ:L2.St):XK:=λcls _ H'=>∃ c,(match c with | .mk n _=>mg n=some cls)∧EE c σ H'
noncomputable def HU (CX:nN) (X:Cx) (EE:cz):Prop:=∀ (pins:List (Addr×Obj)) (σ:L2.St) (H:Hp) (s:WT) (e:V0) (s':WT),Inv X pins σ H s→CX X.stack H s (M0 X.mg EE σ) e s'→X.xe e s'
section
variable {X:Cx} {CX:nN} {EE:cz} {k n:Nat} {f:Addr} {fd:FuncData} {ps:List Str} {mf:List D→M D} {x:Str} {p pos:Pos} {e:Expr} {es:List Expr} {m:DS→M (List D)}
theorem eS.ab {K:WV} {mg:Str→Option V0} {σ:L2.St} {H H':Hp} {τ:DS} {ρ ρ':List Addr} {G G':DH} (ab:Ab K mg σ H τ ρ G) (f:cC K H H' ρ ρ') (h:eS K mg H' ρ' G'):Ab K mg σ H' τ ρ' G':=⟨ab.st.mono f,h⟩
theorem tE {pins:List (Addr×Obj)} {σ:L2.St} {H:Hp} {s:WT} {Q:VK} {us:List V0} {vs:List V} {τ:DS} {ρ:List Addr} {G:DH} {ds:List D} (F:kj X.prog X.w X.K X.mg X.base CX k f fd ps (gC X.K X.mg n mf)) (hr:cZ k X.A) (hb:Binds X.K fd ps [])
  (hx:HU CX X EE) (I:Inv X pins σ H s) (r:Vals vs us) (ab:Ab X.K X.mg σ H τ ρ G) (rs:au X.K X.mg ρ H ds vs) (hn:ds.length=n) (ok:iM X.K X.mg EE H σ τ ρ (mf ds G) Q):Xe (model X.prog X.w) X.A (call (.ref f) us) (EP X pins σ Q) X.xe s:=by
 have h:gC X.K X.mg n mf vs H Q (M0 X.mg EE σ):=by
  refine ⟨ds,ρ,G,hn,ab.hp,rs,?_⟩
  cases q:mf ds G with
  | stuck=>rw [q] at ok;exact ok
  | ok d G'=>rw [q] at ok;exact λv H' ρ' f hp r=>ok v H' ρ' f (eS.ab ab f hp) r
  | bH c G'=>rw [q] at ok;exact λcls H' ρ' hc f hp=>⟨c,hc,ok H' ρ' f (eS.ab ab f hp)⟩
 have hl:(us++[]).length=ps.length:=by rw [Xv,← r.length];exact F.len _ _ _ _ h
 have LO:=hb s us I.xo hl
 rw [Xv] at LO
 refine wpAny_call (codeAny_mono (F.run X.A X.stack s H ⟨us,[]⟩ us vs Q (M0 X.mg EE σ) hr I.gf I.os.2 LO r h) λr s' hq=>?_)
 cases r with
 | error e=>exact hx pins σ H s e s' I hq
 | ok fl=>
  cases fl with
  | ret u=>exact I.after hq
  | next=>exact X3 hq
  | brk=>exact X3 hq
  | cont=>exact X3 hq
noncomputable def av (n:Nat) (mf:List D→M D) (m:DS→M (List D)):DS→M D:=aj (λds=>if ds.length=n then mf ds else M.stop) m
theorem Fx (F:kj X.prog X.w X.K X.mg X.base CX k f fd ps (gC X.K X.mg n mf)) (hr:cZ k X.A) (hm:X.mg x=some (.ref f)) (hk:XX X.K (.ref f)=true) (hb:Binds X.K fd ps []) (hx:HU CX X EE)
  (ha:QA X EE (e::es) m) (hg:Gl X x:=by rfl) (hdb:(x==("__debug__":Str))=false:=by decide) (he:Xh (e::es) X.env=(false,eval e X.env)::Xh es X.env:=by rfl) (hpl:(backTo pos (Xh es X.env)).any (·.1)=false:=by rfl) :
  QE X EE (.Call (.Name x p) (e::es) [] pos) (av n mf m):=by
 intro pins s σ H Q I h
 obtain ⟨τ,ρ,G,ab,ok⟩:=i7 (k:=λ_ ds=>if ds.length=n then mf ds else M.stop) h
 refine Xw (yF I hg hm ?_ hdb)
 refine aaq (h₀:=X.base) I.ok.mod.Eu hk (cY (ha pos pins s σ H _ I ⟨τ,ρ,G,ab,ok⟩) λus s1 ⟨vs,H1,I1,r,q⟩=>⟨I1.xo,?_⟩) he hpl
 obtain ⟨τ1,ρ1,G1,ds,gn,rs,Bt⟩:=q
 by_cases hn:ds.length=n
 ·rw [if_pos hn] at Bt
  exact tE F hr hb hx I1 r gn rs hn Bt
 ·rw [if_neg hn] at Bt
  exact Bt.elim
end
noncomputable def cI (N:Nat) (ms:MS) (ds:List D):M D:=λG=>match ms (ds.map some++Xi (N - ds.length) none) G with
 | .stuck=>.stuck
 | .nx _ G'=>.ok .eO G'
 | .rt d G'=>.ok d G'
 | .bk _ _=>.stuck
 | .ct _ _=>.stuck
 | .xn c _ G'=>.bH c G'
theorem i9 (r:au K mg ρ H ds vs):oG K mg H ρ (L2.start N vs) (ds.map some++Xi (N.length - ds.length) none):=by
 have hl:=r.length
 refine ⟨by unfold L2.start;simp [hl],λi d e=>?_⟩
 have hi:i<ds.length:=by
  by_cases hi:i<ds.length
  ·exact hi
  ·rw [Xm (by simpa using hi),Zc] at e
   split at e<;>cases e
 rw [W7 (by simpa using hi),Xn] at e
 cases q:ds[i]? with
 | none=>rw [q] at e;cases e
 | some d'=>
  rw [q] at e;cases e
  obtain ⟨v,e1,r1⟩:=r.get q
  refine ⟨v,?_,r1⟩
  unfold L2.start
  rw [W7 (by simp;nofun),Xn,e1]
  rfl
section
variable {X:Cx} {EE:cz} {a b c:Expr} {ma mb mc:DS→M D} {pos:Pos}
noncomputable def Fz (X:Cx) (EE:cz) (f:List D→M D):List V→Hp→VK→Prop:=λxs H Q=>∃ σ τ ρ G ds,Ab X.K X.mg σ H τ ρ G∧au X.K X.mg ρ H ds xs∧iM X.K X.mg EE H σ τ ρ (f ds G) Q
theorem oK {f:List D→M D}:CallD X EE (Fz X EE f) f:=λσ H τ ρ G xs ds Q ab r ok=>⟨σ,τ,ρ,G,ds,ab,r,ok⟩
theorem ir {d:D} (r:au K mg ρ H [d] xs):∃ x,xs=[x]∧Rep K mg ρ H d x:=by
 unfold au at r
 obtain ⟨v,r',rfl,h1,h2⟩:=r
 unfold au at h2;subst h2
 exact ⟨v,rfl,h1⟩
theorem yS {d e:D} (r:au K mg ρ H [d,e] xs):∃ x y,xs=[x,y]∧Rep K mg ρ H d x∧Rep K mg ρ H e y:=by
 unfold au at r
 obtain ⟨v,r',rfl,h1,h2⟩:=r
 obtain ⟨y,rfl,h3⟩:=ir h2
 exact ⟨v,y,rfl,h1,h3⟩
noncomputable def cA:List D→M D
 | [d]=>λG=>match aA G d with
  | some (.lst xs)=>.ok (.int xs.length) G
  | some (.tup xs)=>.ok (.int xs.length) G
  | some (.str z)=>if z.length≤WO then .ok (.int z.length) G else .stuck
  | none=>.stuck
 | _=>M.stop
theorem Ae:eF X (.builtin "len") (Fz X EE cA):=by
 intro pins s σ0 H xs us Q I r zu
 obtain ⟨σ,τ,ρ,G,ds,ab,rs,ok⟩:=zu
 match ds,ok with
 | [],ok=>exact ok.elim
 | _::_::_,ok=>exact ok.elim
 | [d],ok=>
  obtain ⟨x,rfl,rx⟩:=ir rs
  dsimp only [cA] at ok
  cases q:aA G d with
  | none=>rw [q] at ok;exact ok.elim
  | some sk=>
   rw [q] at ok
   cases sk with
   | lst zs=>
    obtain ⟨p,vs,rfl,sq,rv⟩:=ck (pins:=pins) (σ0:=σ0) (s:=s) ab.hp rx q
    exact lA pins s σ0 H _ us Q I r ⟨p,vs,rfl,.inl sq,ok _ H ρ .refl ab (by unfold Rep;rw [rv.length])⟩
   | tup zs=>
    obtain ⟨p,vs,rfl,sq,rv⟩:=fW rx q
    exact lA pins s σ0 H _ us Q I r ⟨p,vs,rfl,.inr sq,ok _ H ρ .refl ab (by unfold Rep;rw [rv.length])⟩
   | str z=>
    obtain ⟨rfl,rfl⟩:=j4 rx q
    dsimp only at ok
    by_cases hz:z.length≤WO
    ·rw [if_pos hz] at ok
     exact sW pins s σ0 H _ us Q I r ⟨z,rfl,hz,ok _ H ρ .refl ab (by unfold Rep;rfl)⟩
    ·rw [if_neg hz] at ok;exact ok.elim
inductive Ty where
 | eO | bl | int | str | tup | lst | dct
 deriving DecidableEq
noncomputable def Ty.nm:Ty→String
 | .eO=>"NoneType" | .bl=>"bool" | .int=>"int" | .str=>"str" | .tup=>"tuple" | .lst=>"list" | .dct=>"dict"
noncomputable def LP (G:DH):D→Option Ty
 | .eO=>some .eO
 | .bl _=>some .bl
 | .int _=>some .int
 | .str _=>some .str
 | .tup _=>some .tup
 | .con _=>some .lst
 | .obj n=>match G[n]? with
  | some (.lst _)=>some .lst
  | _=>none
 | .fn _=>none
 | .xh _ _=>none
 | .ig _ _=>none
noncomputable def Ty.is (t c:Ty):Bool:=decide (t=c)||(decide (t=.bl)&&decide (c=.int))
theorem kM (K:WV):∀ (t c:Ty),c≠.eO→PySem.W.kitOne K (.type t.nm) (.type c.nm)=some (t.is c):=by
 intro t c h
 cases t<;>cases c<;>first | exact absurd rfl h | rfl | (with_unfolding_all rfl) | symm
noncomputable def qI (c:Ty) (d:D):M D:=λG=>match LP G d with
 | some t=>.ok (.bl (t.is c)) G
 | none=>.stuck
noncomputable def FA (c:Ty) (m:DS→M D):DS→M D:=λτ=>(m τ).bind (qI c)
theorem FD {c:Ty} (hc:c≠.eO) {pins:List (Addr×Obj)} {s:WT} {σ0 σ:L2.St} {H:Hp} {τ:DS} {ρ:List Addr} {G:DH} {d:D} {x:V} {u:V0} {Q:VK} (I:Inv X pins σ0 H s) (ab:Ab X.K X.mg σ H τ ρ G) (rx:Rep X.K X.mg ρ H d x) (ru:RelV x u)
  (ok:iM X.K X.mg EE H σ τ ρ (qI c d G) Q):Xe (model X.prog X.w) X.A (call (.builtin "isinstance") [u,.type c.nm]) (EP X pins σ0 Q) X.xe s:=by
 dsimp only [qI] at ok
 refine ie I.os.2 ?_
 have fin:∀ {b:Bool},Q (.bl b) H→∀ tk,0<tk→EP X pins σ0 Q (.bool b) {s with toks:=tk}:=λq tk ht=>⟨.bl _,H,I.tok tk,rfl,q⟩
 cases d with
 | eO=>
  have q:=ok (.bl _) H ρ .refl ab (by unfold Rep;rfl)
  unfold Rep at rx;subst rx;cases ru
  exact YY PySem.W.kitx_none I.xo Zp (kM X.K .eO c hc) (λz=>nomatch z) (fin q)
 | bl y=>
  have q:=ok (.bl _) H ρ .refl ab (by unfold Rep;rfl)
  unfold Rep at rx;subst rx;cases ru
  exact YY PySem.W.kitx_bool I.xo Zp (kM X.K .bl c hc) (λz=>nomatch z) (fin q)
 | int y=>
  have q:=ok (.bl _) H ρ .refl ab (by unfold Rep;rfl)
  unfold Rep at rx;subst rx;obtain ⟨t,rfl⟩:=ru
  exact YY PySem.W.kitx_int I.xo Zp (kM X.K .int c hc) (λz=>nomatch z) (fin q)
 | str y=>
  have q:=ok (.bl _) H ρ .refl ab (by unfold Rep;rfl)
  unfold Rep at rx;subst rx;obtain ⟨t,rfl⟩:=ru
  exact YY PySem.W.kitx_str I.xo Zp (kM X.K .str c hc) (λz=>nomatch z) (fin q)
 | tup ys=>
  have q:=ok (.bl _) H ρ .refl ab (by unfold Rep;rfl)
  unfold Rep at rx
  obtain ⟨p,vs,rfl,sq,_⟩:=rx
  cases ru
  obtain ⟨its,_,⟨o,h1,h2,_⟩,_⟩:=I.tuple (rG.t sq)
  exact YY PySem.W.kitx_tuple I.xo ⟨o,h1,h2⟩ (kM X.K .tup c hc) (λz=>nomatch z) (fin q)
 | con ys=>
  have q:=ok (.bl _) H ρ .refl ab (by unfold Rep;rfl)
  unfold Rep at rx
  obtain ⟨p,vs,rfl,sq,_⟩:=rx
  cases ru
  obtain ⟨its,_,⟨o,k,h1,h2,_⟩,_⟩:=I.list sq.seq
  exact YY abM I.xo ⟨o,h1,h2⟩ (kM X.K .lst c hc) (λz=>nomatch z) (fin q)
 | obj n=>
  unfold Rep at rx
  obtain ⟨p,rfl,e1⟩:=rx
  cases ru
  dsimp only [LP] at ok
  cases g:G[n]? with
  | none=>rw [g] at ok;exact ok.elim
  | some o=>
   cases o with
   | lst ys=>
    rw [g] at ok
    have q:=ok (.bl _) H ρ .refl ab (by unfold Rep;rfl)
    obtain ⟨p',vs,e2,hp,_⟩:=ab.hp.lst g
    rw [e1] at e2;cases e2
    obtain ⟨its,_,⟨o,k,h1,h2,_⟩,_⟩:=I.list (.of hp)
    exact YY abM I.xo ⟨o,h1,h2⟩ (kM X.K .lst c hc) (λz=>nomatch z) (fin q)
   | _=>first | (rw [q] at ok;exact ok.elim) | (rw [q] at aK;exact aK.elim) | (rw [q] at e;cases e;done) | (rw [g] at ok;exact ok.elim) | (rw [g] at q;cases q;done) | (rw [g] at h;cases h;done) | (rw [g2] at ok;exact ok.elim) | (rw [g1,g2] at ok;exact ok.elim) | (rw [q1] at ok;exact ok.elim) | exact ok.elim
 | xh _ _=>exact ok.elim
 | ig y0 c0=>exact ok.elim
 | fn x=>exact ok.elim
theorem Kl (c:Ty) {p pt:Pos} {x:Str} (hc:c≠.eO) (hm:X.mg "isinstance"=none) (hmt:X.mg x=none) (ha:QE X EE a ma) (hb:bootBuiltins x=some (.type c.nm))
  (hg:Gl X "isinstance":=by rfl) (hgt:Gl X x:=by rfl) (hnt:x≠"__name__":=by decide) (hdt:(x==("__debug__":Str))=false:=by decide)
  (he:Xh [a,.Name x pt] X.env=(false,eval a X.env)::Xh [.Name x pt] X.env:=by rfl) (S4:Xh [.Name x pt] X.env=(false,eval (.Name x pt) X.env)::Xh [] X.env:=by rfl) (hpl:(backTo pos (Xh [.Name x pt] X.env)).any (·.1)=false:=by rfl)
  (hbi:bootBuiltins "isinstance"=some (.builtin "isinstance"):=by first | exact PyProof.Rows.boot_isinstance | symm) :
  QE X EE (.Call (.Name "isinstance" p) [a,.Name x pt] [] pos) (FA c ma):=by
 have hT:PE X (.Name x pt) (tC (.ty c.nm)):=Ez hgt hmt hb rfl hnt hdt
 have hA:PA X [a,.Name x pt] (yH (bJ X.K X.mg EE ma) (yH (tC (.ty c.nm)) EK)):=sR ha (sR hT xE S4) he
 intro pins s σ H Q I h
 obtain ⟨τ,ρ,G,ab,ok⟩:=i6 (k:=λ_ d=>qI c d) h
 refine Xw (fq I hg hm hbi ?_ (by decide) (by decide))
 refine ZY (cY (hA pos pins s σ H (λvs H1=>∃ x,vs=[x,.ty c.nm]∧∃ τ ρ G d,Ab X.K X.mg σ H1 τ ρ G∧Rep X.K X.mg ρ H1 d x∧iM X.K X.mg EE H1 σ τ ρ (qI c d G) Q) I ⟨τ,ρ,G,ab,?_⟩) λus s1 ⟨vs,H1,I1,r1,q1⟩=>?_) he hpl
 ·cases e:ma τ G with
  | stuck=>rw [e] at ok;exact ok
  | bH c G'=>rw [e] at ok;exact ok
  | ok d G'=>rw [e] at ok;exact λv H' ρ' f' aZ r'=>⟨v,rfl,ok v H' ρ' f' aZ r'⟩
 ·obtain ⟨y,rfl,τ2,ρ2,G2,d,bV,rd,aK⟩:=q1
  cases r1 with
  | cons ry rr=>
   cases rr with
   | cons rt rr=>
    cases rr
    cases rt
    exact FD hc I1 bV rd ry aK
end
section
variable {X:Cx} {EE:cz} {a b c:Expr} {ma mb mc:DS→M D} {pos:Pos}
theorem xK (hk:∀ b x,b∉[s.heap.objs.size]→(s.heap.push o).get? b=some x→h'.get? b=some x):∀ b x,s.heap.get? b=some x→h'.get? b=some x:=
 λb x e=>hk b x (λhm=>by rw [Xj.mp hm] at e;exact X7 _ (W3 e)) (WQ _ e)
noncomputable def gq (g:Int→Int→Int):List D→M D
 | [.int i,.int j]=>M.ret (.int (g i j))
 | _=>M.stop
theorem u7 {g:Int→Int→Int} {Q:VK} (ok:iM X.K X.mg EE H σ τ ρ (gq g ds G) Q):∃ i j,ds=[.int i,.int j]∧iM X.K X.mg EE H σ τ ρ (.ok (.int (g i j)) G) Q:=by
 unfold gq at ok
 split at ok
 ·exact ⟨_,_,rfl,ok⟩
 ·exact ok.elim
theorem Af (hc:X.calm=true):eF X (.builtin "max") (Fz X EE (gq λi j=>if j > i then j else i)):=by
 intro pins s σ0 H xs us Q I r zu
 obtain ⟨σ,τ,ρ,G,ds,ab,rs,ok⟩:=zu
 obtain ⟨i,j,rfl,ok⟩:=u7 ok
 obtain ⟨x,y,rfl,r1,r2⟩:=yS rs
 unfold Rep at r1 r2;subst r1 r2
 exact zS hc pins s σ0 H _ us Q I r ⟨i,j,rfl,ok _ H ρ .refl ab (by unfold Rep;rfl)⟩
theorem Ag (hc:X.calm=true):eF X (.builtin "min") (Fz X EE (gq λi j=>if j<i then j else i)):=by
 intro pins s σ0 H xs us Q I r zu
 obtain ⟨σ,τ,ρ,G,ds,ab,rs,ok⟩:=zu
 obtain ⟨i,j,rfl,ok⟩:=u7 ok
 obtain ⟨x,y,rfl,r1,r2⟩:=yS rs
 unfold Rep at r1 r2;subst r1 r2
 exact zT hc pins s σ0 H _ us Q I r ⟨i,j,rfl,ok _ H ρ .refl ab (by unfold Rep;rfl)⟩
noncomputable def M3 (X:Cx) (EE:cz) (f:D→List D→M D):V→List V→Hp→VK→Prop:=λx xs H Q=>∃ σ τ ρ G d ds,Ab X.K X.mg σ H τ ρ G∧Rep X.K X.mg ρ H d x∧au X.K X.mg ρ H ds xs∧iM X.K X.mg EE H σ τ ρ (f d ds G) Q
noncomputable def cT (T:String) (G:DH):D→Bool
 | .str _=>T=="str"
 | .int _=>T=="int"
 | .con _=>T=="list"
 | .obj n=>match G[n]? with
  | some (.lst _)=>T=="list"
  | _=>false
 | _=>false
theorem rJ {T:String} {d:D} {x:V} (ab:Ab X.K X.mg σ H τ ρ G) (r:Rep X.K X.mg ρ H d x) (h:cT T G d=true):OE X.K T x H:=by
 cases d with
 | str z=>unfold Rep at r;subst r;exact eq_of_beq h
 | int z=>unfold Rep at r;subst r;exact eq_of_beq h
 | con zs=>
  unfold Rep at r
  obtain ⟨p,vs,rfl,sq,_⟩:=r
  exact .inl ⟨eq_of_beq h,vs,sq.seq⟩
 | obj n=>
  unfold Rep at r
  obtain ⟨p,rfl,e1⟩:=r
  dsimp only [cT] at h
  cases g:G[n]? with
  | none=>rw [g] at h;cases h
  | some o=>
   cases o with
   | lst ys=>
    rw [g] at h
    obtain ⟨p',vs,e2,hp,_⟩:=ab.hp.lst g
    rw [e1] at e2;cases e2
    exact .inl ⟨eq_of_beq h,vs,.of hp⟩
   | _=>first | (rw [q] at ok;exact ok.elim) | (rw [q] at aK;exact aK.elim) | (rw [q] at e;cases e;done) | (rw [g] at ok;exact ok.elim) | (rw [g] at q;cases q;done) | (rw [g] at h;cases h;done) | (rw [g2] at ok;exact ok.elim) | (rw [g1,g2] at ok;exact ok.elim) | (rw [q1] at ok;exact ok.elim) | exact ok.elim
 | _=>cases h
noncomputable def bK (T:String) (f:D→List D→M D) (mo:DS→M D) (m:DS→M (List D)):DS→M D:=λτ=>(mo τ).bind λd G=>if cT T G d then (m τ).bind (λds=>f d ds) G else .stuck
theorem HV {o:Expr} {apos cpos:Pos} {T id:String} {f:D→List D→M D} {m:DS→M (List D)} (pa:PlainAttrs T) (slot:Slot T name id) (hty:typeOf (.builtin id)=pure (.type "method_descriptor")) (hm:Bs X id (M3 X EE f)) (ho:QE X EE o mo) (ha:QA X EE (e::es) m)
  (hbase:attributeBase o name X.env (eval o X.env)=eval o X.env:=by rfl)
  (hfew:((backTo cpos (Xh (e::es) X.env)).all (λx=>!x.1)&&(backToKw cpos (keywordEach [] X.env)).all (λx=>x.1.isSome)
   && decide ((e::es).length+([]:List Keyword).length+(if ([]:List Keyword).isEmpty then 0 else 1)<30))=true:=by rfl)
  (hline:(apos.endLine==cpos.line)=true:=by rfl) (hs:Xh (e::es) X.env=(false,eval e X.env)::Xh es X.env:=by rfl) (hplain:(backTo cpos (Xh es X.env)).any (·.1)=false:=by rfl) :
  QE X EE (.Call (.Attribute o name apos) (e::es) [] cpos) (bK T f mo m):=PE.mono (MF pa slot hty hm ho ha hbase hfew hline hs hplain) λσ H Q h=>by
 obtain ⟨τ,ρ,G,ab,ok⟩:=i6 (k:=λτ d G=>if cT T G d then (m τ).bind (λds=>f d ds) G else .stuck) h
 refine ⟨τ,ρ,G,ab,?_⟩
 cases e:mo τ G with
 | stuck=>rw [e] at ok;exact ok
 | bH c G'=>rw [e] at ok;exact ok
 | ok d G'=>
  rw [e] at ok
  intro v H' ρ' f' aZ r'
  obtain ⟨τ2,ρ2,G2,d2,bV,r2,aK⟩:=ok v H' ρ' f' aZ r'
  by_cases hk:cT T G2 d2=true
  ·rw [if_pos hk] at aK
   refine ⟨rJ bV r2 hk,τ2,ρ2,G2,bV,?_⟩
   dsimp only [M.bind] at aK
   cases e2:m τ2 G2 with
   | stuck=>rw [e2] at aK;exact aK
   | bH c G'=>rw [e2] at aK;exact aK
   | ok ds G3=>
    rw [e2] at aK
    exact λvs H3 ρ3 f3 nS r3=>⟨σ,τ2,ρ3,G3,d2,ds,nS,r2.mono f3,r3,aK.fut f3⟩
  ·rw [if_neg hk] at aK;exact aK.elim
theorem Km {o:Expr} {apos cpos:Pos} {T id:String} {f:D→List D→M D} (pa:PlainAttrs T) (slot:Slot T name id) (hty:typeOf (.builtin id)=pure (.type "method_descriptor")) (hm:Bs X id (M3 X EE f)) (ho:QE X EE o mo)
  (hbase:attributeBase o name X.env (eval o X.env)=eval o X.env:=by rfl) (hline:(apos.endLine==cpos.line)=true:=by rfl) :
  QE X EE (.Call (.Attribute o name apos) [] [] cpos) (bK T f mo ah):=PE.mono (JA pa slot hty hm ho hbase hline) λσ H Q h=>by
 obtain ⟨τ,ρ,G,ab,ok⟩:=i6 (k:=λτ d G=>if cT T G d then (ah τ).bind (λds=>f d ds) G else .stuck) h
 refine ⟨τ,ρ,G,ab,?_⟩
 cases e:mo τ G with
 | stuck=>rw [e] at ok;exact ok
 | bH c G'=>rw [e] at ok;exact ok
 | ok d G'=>
  rw [e] at ok
  intro v H' ρ' f' aZ r'
  obtain ⟨τ2,ρ2,G2,d2,bV,r2,aK⟩:=ok v H' ρ' f' aZ r'
  by_cases hk:cT T G2 d2=true
  ·rw [if_pos hk] at aK
   exact ⟨rJ bV r2 hk,σ,τ2,ρ2,G2,d2,[],bV,r2,.nil,aK⟩
  ·rw [if_neg hk] at aK;exact aK.elim
noncomputable def aS:D→List D→M D
 | .obj n,[v]=>λG=>match G[n]? with
  | some (.lst xs)=>if xs.length<WO then .ok .eO (G.set n (.lst (xs++[v]))) else .stuck
  | _=>.stuck
 | _,_=>M.stop
theorem xM {xs ys:List D} {d:D} {w:V} {ws:List V} {Q:VK} (ab:Ab X.K X.mg σ H τ ρ G) (hn:ρ[n]?=some p) (hp:H p=some (.lst vs)) (r:au X.K X.mg ρ H ys ws)
  (rd:∀ H',cC X.K H H' ρ ρ→Rep X.K X.mg ρ H' d w) (ok:iM X.K X.mg EE H σ τ ρ (.ok d (G.set n (.lst ys))) Q):Q w (upd H p (.lst ws)):=by
 have f:cC X.K H (upd H p (.lst ws)) ρ ρ:=sZ hp ρ
 exact ok w _ ρ f (ab.fut f (ab.hp.put (ds:=ys) hn hp r)) (rd _ f)
theorem xN:Bs X "list.append" (M3 X EE aS):=by
 intro pins s σ0 H x xs v us Q I rx M4 zu
 obtain ⟨σ,τ,ρ,G,d,ds,ab,rd,Ep,ok⟩:=zu
 cases d<;>try exact ok.elim
 rename_i n
 match ds,ok with
 | [],ok=>exact ok.elim
 | _::_::_,ok=>exact ok.elim
 | [y],ok=>
  obtain ⟨yv,rfl,ry⟩:=ir Ep
  unfold Rep at rd
  obtain ⟨p,rfl,e1⟩:=rd
  dsimp only [aS] at ok
  cases g:G[n]? with
  | none=>rw [g] at ok;exact ok.elim
  | some o=>
   cases o with
   | lst zs=>
    rw [g] at ok
    dsimp only at ok
    obtain ⟨p',vs,e2,hp,rs⟩:=ab.hp.lst g
    rw [e1] at e2;cases e2
    by_cases hz:zs.length<WO
    ·rw [if_pos hz] at ok
     exact rC pins s σ0 H _ _ v us Q I rx M4 ⟨p,vs,yv,rfl,rfl,hp,by rw [← rs.length];exact hz,xM (xs:=zs) ab e1 hp (rs.append (.cons ry .nil)) (λ_ _=>by unfold Rep;rfl) ok⟩
    ·rw [if_neg hz] at ok;exact ok.elim
   | _=>first | (rw [q] at ok;exact ok.elim) | (rw [q] at aK;exact aK.elim) | (rw [q] at e;cases e;done) | (rw [g] at ok;exact ok.elim) | (rw [g] at q;cases q;done) | (rw [g] at h;cases h;done) | (rw [g2] at ok;exact ok.elim) | (rw [g1,g2] at ok;exact ok.elim) | (rw [q1] at ok;exact ok.elim) | exact ok.elim
theorem Ah {o:Expr} {apos cpos:Pos} {m:DS→M (List D)} (ho:QE X EE o mo) (ha:QA X EE [e] m)
  (hbase:attributeBase o "append" X.env (eval o X.env)=eval o X.env:=by rfl)
  (hfew:((backTo cpos (Xh [e] X.env)).all (λx=>!x.1)&&(backToKw cpos (keywordEach [] X.env)).all (λx=>x.1.isSome)
   && decide ([e].length+([]:List Keyword).length+(if ([]:List Keyword).isEmpty then 0 else 1)<30))=true:=by rfl)
  (hline:(apos.endLine==cpos.line)=true:=by rfl) (hs:Xh [e] X.env=(false,eval e X.env)::Xh [] X.env:=by rfl) (hplain:(backTo cpos (Xh [] X.env)).any (·.1)=false:=by rfl) :
  QE X EE (.Call (.Attribute o "append" apos) [e] [] cpos) (bK "list" aS mo m):=HV aaJ PySem.F.slot_list_append PySem.F.type_list_append xN ho ha hbase hfew hline hs hplain
noncomputable def kN:D→List D→M D
 | .obj n,[]=>λG=>match G[n]? with
  | some (.lst xs)=>match xs[xs.length - 1]? with
   | some y=>.ok y (G.set n (.lst xs.dropLast))
   | none=>.stuck
  | _=>.stuck
 | _,_=>M.stop
theorem au.dropLast (r:au K mg ρ H ds vs):au K mg ρ H ds.dropLast vs.dropLast:=by
 rw [Zk,Zk,← r.length]
 exact r.take _
theorem FE:Bs X "list.pop" (M3 X EE kN):=by
 intro pins s σ0 H x xs v us Q I rx M4 zu
 obtain ⟨σ,τ,ρ,G,d,ds,ab,rd,Ep,ok⟩:=zu
 cases d<;>try exact ok.elim
 rename_i n
 match ds,ok with
 | _::_,ok=>exact ok.elim
 | [],ok=>
  unfold au at Ep;subst Ep
  unfold Rep at rd
  obtain ⟨p,rfl,e1⟩:=rd
  dsimp only [kN] at ok
  cases g:G[n]? with
  | none=>rw [g] at ok;exact ok.elim
  | some o=>
   cases o with
   | lst zs=>
    rw [g] at ok
    dsimp only at ok
    obtain ⟨p',vs,e2,hp,rs⟩:=ab.hp.lst g
    rw [e1] at e2;cases e2
    cases qz:zs[zs.length - 1]? with
    | none=>rw [qz] at ok;exact ok.elim
    | some y=>
     rw [qz] at ok
     obtain ⟨yv,ey,ry⟩:=rs.get qz
     exact JD pins s σ0 H _ _ v us Q I rx M4 ⟨p,vs,yv,rfl,rfl,hp,by rw [← rs.length];exact ey,xM (xs:=zs) ab e1 hp rs.dropLast (λ_ f=>ry.mono f) ok⟩
   | _=>first | (rw [q] at ok;exact ok.elim) | (rw [q] at aK;exact aK.elim) | (rw [q] at e;cases e;done) | (rw [g] at ok;exact ok.elim) | (rw [g] at q;cases q;done) | (rw [g] at h;cases h;done) | (rw [g2] at ok;exact ok.elim) | (rw [g1,g2] at ok;exact ok.elim) | (rw [q1] at ok;exact ok.elim) | exact ok.elim
theorem Kn {o:Expr} {apos cpos:Pos} (ho:QE X EE o mo) (hbase:attributeBase o "pop" X.env (eval o X.env)=eval o X.env:=by rfl) (hline:(apos.endLine==cpos.line)=true:=by rfl) :
  QE X EE (.Call (.Attribute o "pop" apos) [] [] cpos) (bK "list" kN mo ah):=Km aaJ PySem.F.slot_list_pop PySem.F.type_list_pop FE ho hbase hline
end
structure Ai (B:Heap) (l:List Env) (e:Addr) (cls:V0) (h:Heap):Prop where
 stay:B.StaysIn h
 new:B.get? e=none
 VS:h.FunFrames B l
 tr:(∃ oe vs a0,h.get? e=some oe∧oe.cls=cls∧oe.data=.fields vs∧vs[0]?=some a0∧vs[1]?=some .none)∨∃ a0 fl,h.TracedAtW B e cls a0 fl
section
variable {M:Model} {A:Around} {E:V0→WT→Prop} {s:WT} {B:Heap} {env:Env} {outer l:List Env} {L e:Addr} {cls:V0} {Q:Unit→WT→Prop}
theorem xO (h:env'.frame=env.frame) (v:V0):noteFrame v env'=noteFrame v env:=by
 unfold noteFrame frameOf
 rw [h]
theorem yT (hfr:A.frames=some (env::outer)) (hf:env.frame=some L) (f:Ai B (env::outer) e cls s.heap)
  (hQ:∀ h' a0,Heap.HeldW B (env::outer) e cls a0 L h'→s.heap.UpToSlots h'→Q () {s with heap:=h'}):Xe M A (noteFrame (.ref e) env) Q E s:=by
 obtain ⟨st,nw,fr,tr⟩:=f
 rcases tr with ⟨oe,vs,a0,he,hc,hd,h0,h1⟩ | ⟨a0,fl,oe,vs,T,oT,ts,he,hcls,hd,h1,M5,M6,hT,Bu,h3⟩
 ·subst hc
  unfold noteFrame
  simp only [hf]
  refine Us (XG he hd h1 ?_)
  rw [if_neg (by decide)]
  refine wpAny_entryW hfr fr hf he st nw hd (YL.mp h1).1 h0 λh' hN=>?_
  exact hQ h' a0 ⟨hN.1,nw,hN.2.1,hN.2.2.1⟩ hN.2.2.2
 ·by_cases hq:(fl==rawInt L)=true
  ·unfold noteFrame
   simp only [hf]
   refine Us (XG he hd h1 ?_)
   rw [if_pos (show (Value.ref T != Value.none)=true by simp)]
   refine Us (XG hT Bu h3 ?_)
   rw [if_pos hq]
   refine WY ?_
   have:=hQ s.heap a0 ⟨st,nw,fr,oe,vs,T,oT,ts,he,hcls,hd,h1,M5,M6,hT,Bu,by rw [h3,beq_iff_eq.mp hq]⟩ (.refl _)
   exact this
  ·obtain ⟨rfl,h0⟩:=hcls
   unfold noteFrame
   simp only [hf]
   refine Us (XG he hd h1 ?_)
   rw [if_pos (show (Value.ref T != Value.none)=true by simp)]
   refine Us (XG hT Bu h3 ?_)
   rw [if_neg hq]
   refine Us (Zq hT Bu (YL.mp h3).1 ?_)
   have uE:∀ b,b≠T→(s.heap.update T (YH (·.setIfInBounds 3 Value.none))).get? b=s.heap.get? b:=λb hb=>Yj _ _ (YE hb)
   have M7:∀ b o,s.heap.get? b=some o→(∀ vs,o.data≠.fields vs)→b≠T:=λb o hb hnf z=>by
    rw [z,hT] at hb;cases hb;exact hnf ts Bu
   refine wpAny_entryW hfr (fr.of_keeps λb o hb hnf=>⟨o,(uE b (M7 b o hb hnf)).trans hb,rfl⟩) hf ((uE e (YE M6)).trans he)
    (λb o PZ=>(uE b λz=>by rw [z,M5] at PZ;cases PZ).trans (st b o PZ)) nw hd (YL.mp h1).1 h0 λh' hN=>?_
   exact hQ h' a0 ⟨hN.1,nw,hN.2.1,hN.2.2.1⟩ λb o hb hnf=>hN.2.2.2 b o ((uE b (M7 b o hb hnf)).trans hb) hnf
theorem Ce (hfr:A.frames=some (env::outer)) (hf:env.frame=some L) (f:Ai B (env::outer) e cls s.heap)
  (hQ:∀ h' a0,abN B outer e cls a0 h'→s.heap.UpToSlots h'→Q () {s with heap:=h'}):Xe M A (leaving env (.ref e)) Q E s:=by
 unfold leaving
 refine Us (yT hfr hf f λh1 a0 hH u1=>?_)
 refine wpAny_landsW hH λh2 hF u2=>?_
 obtain ⟨k1,k2,⟨_,_,k3⟩,k4⟩:=hF
 exact hQ h2 a0 ⟨k1,k2,k3,k4⟩ (u1.trans u2)
theorem Ai.Aj (f:abN B l e cls a0 h):Ai B l e cls h:=⟨f.1,f.2.1,f.2.2.1,.inr ⟨a0,.none,f.2.2.2⟩⟩
end
structure RA (X:Cx) (B:Heap):Prop where
 keep:∀ b o,X.s₀.heap.get? b=some o→X.H₀ b=none→b∉frs X.stack→b∉X.ex→B.get? b=some o
 there:∀ b o,X.s₀.heap.get? b=some o→b∉frs X.stack→b∉X.ex→∃ o',B.get? b=some o'
 pins:∀ p∈X.pn,B.get? p.1=some p.2
noncomputable def M8 (X:Cx) (H:Hp) (e:Addr) (cls:V0) (s:WT):Prop:=∃ B,Ai B X.stack e cls s.heap∧iY X.prog X.w H B∧RA X B
noncomputable def Cg (mg:Str→Option V0) (c:XD) (cls:V0):Prop:=match c with | .mk n _=>mg n=some cls
noncomputable def fM (X:Cx) (EE:cz):Prop:=∀ (pins:List (Addr×Obj)) (σ:L2.St) (H:Hp) (s:WT) (e:Addr) (cls:V0) (c:XD),Inv X pins σ H s→M8 X H e cls s→Cg X.mg c cls→EE c σ H→X.xe (.ref e) s
section
variable {X:Cx} {pins:List (Addr×Obj)} {σ:L2.St} {H:Hp} {s:WT} {h':Heap}
theorem IsCell.slots {v:Option V0} (u:h.UpToSlots h') (hc:h.IsCell c v):h'.IsCell c v:=by
 obtain ⟨o,e,d⟩:=hc
 obtain ⟨sl,e'⟩:=u c o e λvs q=>by rw [d] at q;cases q
 exact ⟨_,e',d⟩
theorem Inv.M9 {t:Nat} (I:Inv X pins σ H s) (C:RA X B) (hok:iY X.prog X.w H B) (st:B.StaysIn h') (u:s.heap.UpToSlots h') (ht:0<t:=by first | exact XO _ | exact (Inv.os (by assumption)).2 | assumption | nofun):Inv X [] σ H {s with heap:=h',toks:=t}:=by
 have BA:∀ b o,X.s₀.heap.get? b=some o→b≠X.env.locals:=λb o e=>Xa (W0 (W3 e) I.ok.above)
 have Na:∀ b o,X.s₀.heap.get? b=some o→b∉X.fs→b∉frs X.stack:=λb o e hb z=>by
  rcases Xl.mp (I.kJ b z) with z | z
  ·exact BA b o e z
  ·exact hb z
 have slots:∀ b o,X.s₀.heap.get? b=some o→X.H₀ b=none→b∈X.fs→b∉X.ex→∃ sl,h'.get? b=some {o with slots:=sl}:=λb o e n hb hx=>by
  obtain ⟨sl,e1⟩:=I.base.slot b o e n hb hx
  obtain ⟨_,o',eo,hd⟩:=I.ok.lg.mem hb
  rw [e] at eo;cases eo
  obtain ⟨Mb,e2⟩:=u b _ e1 hd
  exact ⟨Mb,e2⟩
 refine ⟨I.ok,⟨I.os.1,ht⟩,I.bare,⟨λb o e n hb hx=>st _ _ (C.keep b o e n (Na b o e hb) hx),slots,I.base.free,λb o e hx=>?_,I.base.tups,I.base.jC,I.base.ki⟩,?_,λx c e=>?_,I.free,I.jt,λp hp=>?_,hok.kept st,I.len⟩
 ·by_cases hb:b∈X.fs
  ·obtain ⟨sl,e1⟩:=slots b o e (I.ok.Ey b hb) hb hx
   exact ⟨_,e1⟩
  ·obtain ⟨o',e1⟩:=C.there b o e (Na b o e hb) hx
   exact ⟨o',st _ _ e1⟩
 ·obtain ⟨m,hn,hl⟩:=I.loc
  refine ⟨m,u.ns hn,λi x v e1 e2 e3=>?_⟩
  obtain ⟨w,r,l⟩:=hl i x v e1 e2 e3
  refine ⟨w,r,?_⟩
  rcases l with l | ⟨k,c,e,z⟩
  ·exact .inl l
  ·exact .inr ⟨k,c,e,IsCell.slots u z⟩
 ·obtain ⟨v,z⟩:=I.cell x c e
  exact ⟨v,IsCell.slots u z⟩
 ·have uF:p∈X.pn:=by simpa using hp
  obtain ⟨e,n,ne,nf,d⟩:=I.pin p (Yt _ uF)
  exact ⟨st _ _ (C.pins p uF),n,ne,nf,d⟩
end
structure Nb (P:Xx) (w:XR) (outer:List Env) (H:Hp) (s:WT) (H':Hp) (B:Heap) (s':WT):Prop where
 os:s'.os=s.os∧0<s'.toks
 bare:Zr s'.gens
 keep:∀ b o,s.heap.get? b=some o→H b=none→b∉frs outer→B.get? b=some o
 there:∀ b o,s.heap.get? b=some o→b∉frs outer→∃ o',B.get? b=some o'
 slot:∀ b o,s.heap.get? b=some o→H b=none→b∈frs outer→∃ sl,s'.heap.get? b=some {o with slots:=sl}
 free:∀ b o,s.heap.get? b=some o→H b=none→H' b=none
 tups:∀ b xs,H b=some (.tup xs)→H' b=some (.tup xs)
 jC:∀ b o u,H b=some (.cV o u)→H' b=some (.cV o u)
 ki:∀ b ps,H b=some (.k9 ps)→∃ more,H' b=some (.k9 (ps++more))
 hok:iY P w H' B
noncomputable def nj (P:Xx) (w:XR):nN:=λouter H s E ev s'=>∃ e cls a0 B H',ev=.ref e∧abN B outer e cls a0 s'.heap∧Nb P w outer H s H' B s'∧E cls none H'
theorem FF (h:fM X EE):HU (nj X.prog X.w) X EE:=by
 intro pins σ H s ev s' I hq
 obtain ⟨e,cls,a0,B,H',rfl,fl,F,c,hc,ee⟩:=hq
 have un:Un (frs X.stack) [] H H' s.heap s'.heap:=⟨λb o e n hb _=>fl.1 _ _ (F.keep b o e n hb),λb o e n hb _=>F.slot b o e n hb,λb o e n _=>F.free b o e n,λb o e _=>by
  by_cases hb:b∈frs X.stack
  ·obtain ⟨sl,q⟩:=F.slot b o e (I.nM b hb) hb
   exact ⟨_,q⟩
  ·obtain ⟨o',q⟩:=F.there b o e hb
   exact ⟨o',fl.1 _ _ q⟩,F.tups,F.jC,F.ki⟩
 have I':Inv X pins σ H' s':=I.BB F.os un (F.hok.kept fl.1) F.bare λb z=>absurd z (by simp)
 refine h pins σ H' s' e cls c I' ⟨B,.Aj fl,F.hok,λb o eb n hb hx=>?_,λb o eb hb hx=>?_,λp hp=>?_⟩ hc ee
 ·have P0:b∉X.fs:=λz=>hb (by
   rcases I.ok.stk with q | ⟨q,_⟩
   ·rw [q];exact z
   ·rw [q];unfold frs;rw [YC];split
    ·exact z
    ·exact XI _ z)
  exact F.keep b o (I.base.keep b o eb n P0 hx) (I.base.free b o eb n hx) hb
 ·obtain ⟨o',q⟩:=I.base.there b o eb hx
  exact F.there b o' q hb
 ·obtain ⟨q,n,ne,nf,d⟩:=I.pin p (Yt _ hp)
  exact F.keep p.1 p.2 q n λz=>by
   rcases Xl.mp (I.kJ _ z) with z | z
   ·exact ne z
   ·exact nf z
section
variable {P:Xx} {w:XR} {K:WV} {mg:Str→Option V0} {base:Heap} {f:Addr} {fd:FuncData}
theorem S5 {st:Stmt} {k:Nat} {m:List D→M D} (F:BN K x qual st f fd) (S:jZ N ps (aF st)) (hps:ps.length=n) (hN:N.length=nn) (hm:∀ ds,m ds=cI nn ms ds)
  (hbody:∀ (X:Cx) (EE:cz) (cdv:V0) (A:Around) (outer:List Env) (s:WT) (H:Hp) (E:XK),X=oB (nj P w) P w K mg base N qual (aF st) f cdv A outer s H E→cZ k (A.deeper (Zb qual (aF st) s.heap.objs.size f cdv)) →
   fM X EE→PassesOwn (model P w) X.A X.env X.xe→uC X EE (bL st) ms) :
  kj P w K mg base (nj P w) (k+1) f fd ps (gC K mg n m):=by
 subst hps hN
 have e:m=λds=>cI N.length ms ds:=funext hm
 subst e
 obtain ⟨oc,od,kV,doc,pm,an,cdv,ct,osl,rfl,lk,hcd⟩:=F.ex
 refine MB lk hcd S (λvs H Q E h=>h.len) λA outer s H vs Q E hr h=>?_
 obtain ⟨ds,ρ,G,hn,hp,rs,ok⟩:=h
 refine ⟨_,hbody _ (λc σ H'=>∀ cls,Cg mg c cls→E cls none H') cdv A outer s H E rfl hr ?_ ZQ,ds.map some++Xi (N.length - ds.length) none,ρ,G,⟨i9 rs,hp⟩,?_⟩
 ·intro pins σ H' s' e cls c I fx hc ee
  obtain ⟨B,fb,hok,FG⟩:=fx
  refine Ce (L:=s.heap.objs.size) I.ok.frames rfl fb λh' a0 fl u=>?_
  have I':Inv _ [] σ H' {s' with heap:=h'}:=Inv.M9 (t:=s'.toks) I FG hok fl.1 u
  have BA:∀ b o,s.heap.get? b=some o→b∉frs outer→b∉frs (Zb qual (aF st) s.heap.objs.size f cdv::outer):=λb o e hb z=>by
   rcases Xl.mp (I.kJ b z) with z | z
   ·exact absurd (W3 e) (by rw [show b=s.heap.objs.size from z];exact X7 _)
   ·exact hb z
  refine ⟨e,cls,a0,B,H',rfl,fl,⟨I'.os,I'.bare,λb o eb nb hb=>FG.keep b o eb nb (BA b o eb hb) (by intro z;exact absurd (show b∈([]:List Addr) from z) (by simp)),λb o eb hb=>FG.there b o eb (BA b o eb hb) (by intro z;exact absurd (show b∈([]:List Addr) from z) (by simp)),
   λb o eb nb hb=>I'.base.slot b o eb nb hb (by intro z;exact absurd (show b∈([]:List Addr) from z) (by simp)),λb o eb nb=>I'.base.free b o eb nb (by intro z;exact absurd (show b∈([]:List Addr) from z) (by simp)),I'.base.tups,I'.base.jC,I'.base.ki,hok⟩,ee cls hc⟩
 ·dsimp only [cI] at ok
  cases q:ms (ds.map some++Xi (N.length - ds.length) none) G with
  | stuck=>rw [q] at ok;exact ok
  | nx τ G'=>rw [q] at ok;exact λσ' H' ρ' f ab=>ok .eO H' ρ' f ab.hp (by unfold Rep;rfl)
  | rt d G'=>rw [q] at ok;exact λv H' ρ' f hp r=>ok v H' ρ' f hp r
  | bk τ G'=>rw [q] at ok;exact ok.elim
  | ct τ G'=>rw [q] at ok;exact ok.elim
  | xn c τ G'=>rw [q] at ok;exact λσ' H' ρ' f ab cls hc=>ok cls H' ρ' hc f ab.hp
end
theorem Ci (x:iY P w H h) (k:∀ b o,H b≠none→h.get? b=some o→B.get? b=some o):iY P w H B:=λa o e=>
 (x a o e).stay (λb u hb q=>k b u (by
  rcases hb with z | z
  ·rw [z,e];simp
  ·rw [z];simp) q) (λ_ q=>q) λ_ _ q=>q
section
variable {X:Cx} {EE:cz} {pins:List (Addr×Obj)} {σ:L2.St} {H:Hp} {s:WT}
noncomputable def Cj (x:Str) (m:DS→M (List D)):MS:=λτ=>bN (m τ) (λds G=>if ds.length≤WO then .xn (.mk x ds) τ G else .stuck) λc G=>.xn c τ G
end
noncomputable abbrev Cx.to (X:Cx) (E:V0→WT→Prop) (pn:List (Addr×Obj)):Cx:={X with xe:=E,pn:=pn}
noncomputable def fX (env:Env):List (Str×NameKind)→List (Str×Addr)→List (Str×Addr)
 | [],acc=>acc
 | (n,k)::r,acc=>fX env r (if k==.free then (match env.cells.lookup n with | some c=>(n,c)::acc | none=>acc) else acc)
theorem kE (h:∀ x∈scope.names,x.2=.free→∃ c,env.cells.lookup x.1=some c):closureFor scope env=pure (fX env scope.names []):=by
 unfold closureFor
 have key:∀ (names:List (Str×NameKind)) (acc:List (Str×Addr)),(∀ x∈names,x.2=.free→∃ c,env.cells.lookup x.1=some c) →
   (forIn names acc λx r=>match x with | (name,kind)=>if (kind==NameKind.free)=true then do let y ← cellOf env name;pure (ForInStep.yield ((name,y)::r)) else pure (ForInStep.yield r))=(pure (fX env names acc):Sem (List (Str×Addr))):=by
  intro names
  induction names with
  | nil=>intro acc _;rfl
  | cons x r ih=>
   intro acc hx
   obtain ⟨n,k⟩:=x
   rw [YZ]
   by_cases hk:(k==NameKind.free)=true
   ·obtain ⟨c,hc⟩:=hx (n,k) YK (eq_of_beq hk)
    have e:cellOf env n=pure c:=by unfold cellOf;rw [hc]
    simp only [if_pos hk,e,pure_bind]
    rw [ih _ λy hy=>hx y (XI _ hy)]
    show _=pure (fX env r (if (k==NameKind.free)=true then (match env.cells.lookup n with | some c=>(n,c)::acc | none=>acc) else acc))
    rw [if_pos hk,hc]
   ·simp only [if_neg hk,pure_bind]
    rw [ih _ λy hy=>hx y (XI _ hy)]
    show _=pure (fX env r (if (k==NameKind.free)=true then (match env.cells.lookup n with | some c=>(n,c)::acc | none=>acc) else acc))
    rw [if_neg hk]
 have k2:=key scope.names [] h
 first
  | (rw [k2];rfl)
  | (simp only [k2,pure_bind])
  | exact k2
theorem oM {env:Env}:∀ (names:List (Str×NameKind)) (acc:List (Str×Addr)),(∀ y c,acc.lookup y=some c→env.cells.lookup y=some c)→∀ y c,(fX env names acc).lookup y=some c→env.cells.lookup y=some c
 | [],acc,h,y,c,e=>h y c e
 | (n,k)::r,acc,h,y,c,e=>by
  refine oM r _ (λz d ez=>?_) y c e
  by_cases hk:(k==NameKind.free)=true
  ·rw [if_pos hk] at ez
   cases q:env.cells.lookup n with
   | none=>rw [q] at ez;exact h z d ez
   | some c'=>
    rw [q] at ez
    dsimp only at ez
    rw [XS] at ez
    cases hz:z==n with
    | true=>rw [hz] at ez;cases ez;rw [eq_of_beq hz];exact q
    | false=>rw [hz] at ez;exact h z d ez
  ·rw [if_neg hk] at ez
   exact h z d ez
theorem oO {env:Env}:∀ (names:List (Str×NameKind)) (acc:List (Str×Addr)) (y:Str),((∃ c,acc.lookup y=some c)∨((y,NameKind.free)∈names∧∃ c,env.cells.lookup y=some c))→∃ c,(fX env names acc).lookup y=some c
 | [],acc,y,h=>by
  rcases h with h | ⟨h,_⟩
  ·exact h
  ·cases h
 | (n,k)::r,acc,y,h=>by
  refine oO r _ y ?_
  rcases h with ⟨c,h⟩ | ⟨h,c,hc⟩
  ·left
   by_cases hk:(k==NameKind.free)=true
   ·rw [if_pos hk]
    cases q:env.cells.lookup n with
    | none=>exact ⟨c,h⟩
    | some c'=>
     dsimp only
     rw [XS]
     cases hz:y==n with
     | true=>exact ⟨c',rfl⟩
     | false=>exact ⟨c,h⟩
   ·rw [if_neg hk];exact ⟨c,h⟩
  ·rcases Xl.mp h with e | h
   ·cases e
    left
    rw [if_pos (by rfl),hc]
    dsimp only
    exact ⟨c,by rw [XS,beq_self_eq_true]⟩
   ·exact .inr ⟨h,c,hc⟩
section
open PyProof.Rows
noncomputable def mask {α:Type}:List Bool→List (Option α)→List (Option α)
 | _,[]=>[]
 | [],_::r=>none::mask [] r
 | k::ks,o::r=>(if k then o else none)::mask ks r
theorem iu {α:Type}:∀ (ks:List Bool) (l:List (Option α)),(mask ks l).length=l.length
 | _,[]=>by unfold mask;rfl
 | [],_::r=>by unfold mask;simp [iu [] r]
 | k::ks,o::r=>by unfold mask;simp [iu ks r]
theorem jG {α:Type} {v:α}:∀ {ks:List Bool} {l:List (Option α)} {i:Nat},(mask ks l)[i]?=some (some v)→ks[i]?=some true∧l[i]?=some (some v)
 | ks,[],i,h=>by unfold mask at h;simp at h
 | [],o::r,0,h=>by unfold mask at h;simp at h
 | [],o::r,i+1,h=>by
  unfold mask at h
  have:=(jG (ks:=[]) (l:=r) (i:=i) (by simpa using h)).1
  simp at this
 | k::ks,o::r,0,h=>by
  unfold mask at h
  cases k with
  | true=>simpa using h
  | false=>simp at h
 | k::ks,o::r,i+1,h=>by
  unfold mask at h
  have:=jG (ks:=ks) (l:=r) (i:=i) (by simpa using h)
  simpa using this
theorem yU {α:Type} {v:α}:∀ {ks:List Bool} {l:List (Option α)} {i:Nat},ks[i]?=some true→l[i]?=some (some v)→(mask ks l)[i]?=some (some v)
 | ks,[],i,_,h=>by simp at h
 | [],o::r,i,h,_=>by simp at h
 | k::ks,o::r,0,h,e=>by unfold mask;simp at h e;simp [h,e]
 | k::ks,o::r,i+1,h,e=>by
  unfold mask
  have:=yU (ks:=ks) (l:=r) (i:=i) (by simpa using h) (by simpa using e)
  simpa using this
noncomputable def qJ (env:Env) (n:Str) (k:NameKind):NameKind:=if (k==.free&&env.scope.kind==.function&&env.kindOf n==some .cell) then .cell else k
theorem dJ {env:Env} {y:Str}:∀ (names:List (Str×NameKind)),(names.map λ(n,k)=>if (k==NameKind.free&&env.scope.kind==.function&&env.kindOf n==some .cell) then (n,NameKind.cell) else (n,k)).lookup y=(names.lookup y).map (qJ env y)
 | []=>rfl
 | (n,k)::r=>by
  have ih:=dJ (env:=env) (y:=y) r
  rw [WU,XS]
  by_cases hc:(k==NameKind.free&&env.scope.kind==.function&&env.kindOf n==some .cell)=true
  ·rw [if_pos hc,XS]
   cases hy:y==n with
   | true=>
    have e:y=n:=eq_of_beq hy
    subst e
    simp [qJ,hc]
   | false=>exact ih
  ·rw [if_neg hc,XS]
   cases hy:y==n with
   | true=>
    have e:y=n:=eq_of_beq hy
    subst e
    simp [qJ,hc]
   | false=>exact ih
structure bf (OH:Scope) (N:List Str) (scope:Scope) (xs:List Str) (ks:List Bool):Prop where
 nd:xs.Nodup
 kind:scope.kind=.function
 mG:∀ y∈scope.names,y.2≠.cell
 names:∀ y∈scope.names,y.2=.local→scope.names.lookup y.1=some .local
 loc:∀ x∈xs,scope.names.lookup x=some .local
 free:∀ y∈scope.names,y.2=.free→OH.names.lookup y.1=some .cell∨OH.names.lookup y.1=some .free
 P1:((ks.zip N).all λp=>!p.1||decide (scope.names.lookup p.2=some .free))=true
theorem bf.cap {xs:List Str} (S:bf OH N scope xs ks):∀ i<ks.length,ks[i]?=some true→∀ y∈N[i]?,scope.names.lookup y=some .free:=λi _ hk y hy=>by
 have h:=ZZ.mp S.P1 (true,y) (XE (i:=i) (by rw [aas];exact ⟨hk,hy⟩))
 simpa using h
noncomputable def lF (X:Cx) (scope:Scope) (cl:List (Str×Addr)) (xs:List Str) (C:Addr) (pins:List (Addr×Obj)) (s:WT) (H:Hp) (fp:List Addr) (E:V0→WT→Prop):Cx where
 prog:=X.prog
 w:=X.w
 K:=X.K
 mg:=X.mg
 base:=X.base
 A:=X.A
 N:=xs++X.N
 s₀:=s
 H₀:=H
 env:=compEnvC scope cl C X.env
 outer:=X.stack
 stack:=X.stack
 ex:=fp
 fn:=λ_=>false
 calm:=X.calm
 pn:=X.pn++pins
 xe:=E
section
variable {X:Cx} {scope:Scope} {xs:List Str} {x:Str} {ks:List Bool} {pins:List (Addr×Obj)} {σ:L2.St} {H:Hp} {s s4:WT} {fp:List Addr} {E:V0→WT→Prop} {h1:Heap}
theorem mem_lookup {α β:Type} [BEq α] [LawfulBEq α]:∀ {l:List (α×β)} {a:α} {b:β},l.lookup a=some b→(a,b)∈l
 | [],_,_,h=>by simp at h
 | (a',b')::r,a,b,h=>by
  rw [XS] at h
  cases hz:a==a' with
  | true=>rw [hz] at h;cases h;rw [eq_of_beq hz];exact YK
  | false=>rw [hz] at h;exact XI _ (mem_lookup h)
theorem Ck (S:bf X.env.scope X.N scope xs ks) {cl:List (Str×Addr)} {C:Addr} {y:Str} (h:(compEnvC scope cl C X.env).kindOf y=some .cell∨(compEnvC scope cl C X.env).kindOf y=some .free):scope.names.lookup y=some .free:=by
 have h':(scope.names.lookup y).map (qJ X.env y)=some .cell∨(scope.names.lookup y).map (qJ X.env y)=some .free:=by
  rw [← dJ];exact h
 cases q:scope.names.lookup y with
 | none=>rw [q] at h';rcases h' with h' | h'<;>cases h'
 | some k=>
  rw [q] at h'
  cases k with
  | free=>rfl
  | cell=>exact absurd rfl (S.mG _ (mem_lookup q))
  | _=>rcases h' with h' | h'<;>simp [qJ] at h'
theorem mH (S:bf X.env.scope X.N scope xs ks) {cl:List (Str×Addr)} {C:Addr} {y:Str} (h:scope.names.lookup y=some .free):(compEnvC scope cl C X.env).kindOf y=some .cell∨(compEnvC scope cl C X.env).kindOf y=some .free:=by
 have e:(compEnvC scope cl C X.env).kindOf y=(scope.names.lookup y).map (qJ X.env y):=dJ scope.names
 rw [e,h]
 unfold qJ
 dsimp only [Option.map]
 split
 ·exact .inl rfl
 ·exact .inr rfl
theorem oQ (S:bf X.env.scope X.N scope xs ks) (hx:x∈xs) {cl:List (Str×Addr)} {C:Addr}:(compEnvC scope cl C X.env).kindOf x=some .local:=by
 have e:(compEnvC scope cl C X.env).kindOf x=(scope.names.lookup x).map (qJ X.env x):=dJ scope.names
 rw [e,S.loc x hx]
 rfl
theorem xP (S:bf X.env.scope X.N scope xs ks) (I:Inv X pins σ H s) (hf:∀ b∈fp,kK X pins H b∧b<s.heap.objs.size) (hn:h1.Ns s.heap.objs.size λ_=>none) (hk:∀ b o,s.heap.get? b=some o→h1.get? b=some o) (t:Nat) (ht:0<t:=by first | exact XO _ | exact (Inv.os (by assumption)).2 | assumption | nofun) :
  Inv (lF X scope (fX X.env scope.names []) xs s.heap.objs.size pins s H fp E) [] (Xi xs.length none++mask ks σ) H {s with heap:=h1,toks:=t}:=by
 have cs:∀ y c,(fX X.env scope.names []).lookup y=some c→X.env.cells.lookup y=some c:=oM scope.names [] λy c e=>by simp at e
 have lt:∀ b o,s.heap.get? b=some o→b≠s.heap.objs.size:=λb o e=>Xa (W3 e)
 have Ko:∀ y c,X.env.cells.lookup y=some c→∃ v,s.heap.IsCell c v:=λy c e=>I.cell y c e
 have HW:∀ b,b≠X.env.locals→b∉X.fs→b∉frs X.stack:=λb h1 h2 h3=>(Xl.mp (I.kJ b h3)).elim h1 h2
 refine ⟨⟨I.ok.mod,?_,I.ok.glob,I.ok.blt,WZ _,λy z c e1 e2=>I.ok.inj y z c (cs y c e1) (cs z c e2),λy hy=>?_,λy c h _=>absurd (show false=true from h) XF,I.ok.hd,I.ok.frames,.inl rfl,λb hb=>⟨Xa (hf b hb).2,λy c e=>(hf b hb).1.2.2.2.2.1 y c (cs y c e)⟩,I.bs,
   X5 I.ok.Em I.sz,λb o e hb=>?_,λb hb=>HW b (hf b hb).1.2.1 (hf b hb).1.2.2.1,I.stack,I.nM⟩,⟨rfl,ht⟩,I.bare,Un.kept hk,⟨_,hn,λi y v e1 e2 e3=>?_⟩,λy c e=>?_,I.hok.fresh (WZ _),λy c e=>(I.jt y c (cs y c e)).imp id λz=>⟨rfl,z.2⟩,λp hp=>?_,I.hok.kept hk,?_⟩
 ·show (relabel scope X.env).kind=.function
  exact S.kind
 ·have hfree:=Ck S hy
  have hm:=mem_lookup hfree
  refine oO scope.names [] y (.inr ⟨hm,?_⟩)
  exact I.ok.has y (S.free _ hm rfl)
 ·rcases (hf b hb).1.2.2.2.1 with z | z
  ·exact I.ok.Ew b o e z
  ·exact absurd (W0 (W3 (I.ok.bs b o e).1) z) (X7 _)
 ·by_cases hlt:i<xs.length
  ·rw [W7 (by simpa using hlt),Zc] at e2
   rw [if_pos hlt] at e2;cases e2
  ·obtain ⟨j,rfl⟩:∃ j,i=xs.length+j:=⟨i - xs.length,by nofun⟩
   have yO:(mask ks σ)[j]?=some (some v):=by
    rw [Xm (by simp)] at e2
    simpa using e2
   obtain ⟨hks,eσ⟩:=jG yO
   have xj:X.N[j]?=some y:=by
    have:(xs++X.N)[xs.length+j]?=some y:=e1
    rw [Xm (by nofun)] at this
    simpa using this
   have hfree:scope.names.lookup y=some .free:=S.cap j (WS.mp hks).1 hks y (by rw [xj];rfl)
   obtain ⟨m,hm,hl⟩:=I.loc
   have hkind:=S.free _ (mem_lookup hfree) rfl
   obtain ⟨u,r,l⟩:=hl j y v xj eσ (hkind.elim (λz=>.inr (.inl z)) λz=>.inr (.inr z))
   refine ⟨u,r,.inr ⟨mH S hfree,?_⟩⟩
   rcases l with ⟨k,_⟩ | ⟨k,c,ec,hc⟩
   ·have k':X.env.scope.names.lookup y=some .local:=k
    rcases hkind with z | z<;>(rw [k'] at z;cases z)
   ·obtain ⟨c',RB⟩:=oO (env:=X.env) scope.names [] y (.inr ⟨mem_lookup hfree,c,ec⟩)
    have:=cs y c' RB
    rw [ec] at this;cases this
    exact ⟨c,RB,hc.keeps hk⟩
 ·obtain ⟨v,hc⟩:=Ko y c (cs y c e)
  exact ⟨v,hc.keeps hk⟩
 ·have uF:p∈X.pn++pins:=by
   have:p∈(X.pn++pins)++[]:=hp
   simpa using this
  obtain ⟨e,n,ne,nf,d⟩:=I.pin p uF
  exact ⟨hk _ _ e,n,lt _ _ e,HW _ ne nf,d⟩
 ·show (Xi xs.length none++mask ks σ).length=(xs++X.N).length
  simp [iu,I.len]
theorem kO {Xc:Cx} {u:V0} {Q:Unit→WT→Prop} {H1:Hp}
  (S:bf X.env.scope X.N scope xs ks) (e:Xc=lF X scope cl xs C pins s0 H0 fp E) (LQ:own.length=xs.length) (hx:xs[n]?=some x) (I:Inv Xc gx (own++mask ks σ0) H1 s1) (r:RelV v u) (h:∀ s',Inv Xc gx (own.set n (some v)++mask ks σ0) H1 s'→Q () s') :
  Xe M' A' (assign (.Name x px) Xc.env u) Q E' s1:=by
 subst e
 obtain ⟨m,hn,hl⟩:=id I.loc
 have Kp:=oQ (cl:=cl) (C:=C) S (XE hx)
 refine aau (aa8 Kp hn (λh' hn' hs=>?_) (by rw [show (lF X scope cl xs C pins s0 H0 fp E).env.scope.kind=.function from S.kind];rfl))
 refine h _ ?_
 have BA:∀ b o,s0.heap.get? b=some o→b≠C:=λb o e=>Xa (W0 (W3 e) I.ok.above)
 obtain ⟨oL,_,_,Rt,_⟩:=id hn
 have hfree:H1 C=none:=I.free
 refine ⟨I.ok,⟨I.os.1,XO _⟩,I.bare,⟨λb o e n hb hx=>?_,λb o e n hb hx=>?_,I.base.free,λb o e hx=>?_,I.base.tups,I.base.jC,I.base.ki⟩,⟨_,hn',λj y v' e1 e2 e3=>?_⟩,λy c e=>?_,I.free,I.jt,λp hp=>?_,λb ob e=>?_,by simpa using I.len⟩
 ·exact (hs.2 b (BA b o e)).trans (I.base.keep b o e n hb hx)
 ·obtain ⟨sl,e1⟩:=I.base.slot b o e n hb hx
  exact ⟨sl,(hs.2 b (BA b o e)).trans e1⟩
 ·obtain ⟨o',e1⟩:=I.base.there b o e hx
  exact ⟨o',(hs.2 b (BA b o e)).trans e1⟩
 ·have hnl:n<xs.length:=(WS.mp hx).1
  by_cases hlt:j<xs.length
  ·have ey:xs[j]?=some y:=by
    have:(xs++X.N)[j]?=some y:=e1
    rwa [W7 hlt] at this
   rw [W7 (by simp;nofun)] at e2
   by_cases hj:n=j
   ·subst hj
    rw [hx] at ey;cases ey
    rw [XW,if_pos rfl,if_pos (by nofun)] at e2
    cases e2
    exact ⟨u,r,.inl ⟨Kp,by simp⟩⟩
   ·rw [XC hj] at e2
    have hne:y≠x:=by
     rintro rfl
     obtain ⟨h1,xj⟩:=WS.mp hx
     obtain ⟨h2,yO⟩:=WS.mp ey
     exact hj ((Yh S.nd).mp (xj.trans yO.symm))
    obtain ⟨u',r',q⟩:=hl j y v' e1 (by rw [W7 (by nofun)];exact e2) e3
    refine ⟨u',r',?_⟩
    rcases q with ⟨k,e⟩ | ⟨k,c,e,z⟩
    ·exact .inl ⟨k,by simpa [hne] using e⟩
    ·exact .inr ⟨k,c,e,z.sameBut hs (I.By y c e)⟩
  ·obtain ⟨j,rfl⟩:∃ k,j=xs.length+k:=⟨j - xs.length,by nofun⟩
   have yO:(mask ks σ0)[j]?=some (some v'):=by
    rw [Xm (by simp;nofun)] at e2
    simpa [LQ] using e2
   obtain ⟨u',r',q⟩:=hl (xs.length+j) y v' e1 (by rw [Xm (by nofun)];simpa [LQ] using yO) e3
   refine ⟨u',r',?_⟩
   rcases q with ⟨k,e⟩ | ⟨k,c,e,z⟩
   ·obtain ⟨hks,_⟩:=jG yO
    have xj:X.N[j]?=some y:=by
     have:(xs++X.N)[xs.length+j]?=some y:=e1
     rw [Xm (by nofun)] at this
     simpa using this
    have hfr:scope.names.lookup y=some .free:=S.cap j (WS.mp hks).1 hks y (by rw [xj];rfl)
    rcases mH (cl:=cl) (C:=C) S hfr with z | z
    ·have k':(compEnvC scope cl C X.env).kindOf y=some .local:=k
     rw [k'] at z;cases z
    ·have k':(compEnvC scope cl C X.env).kindOf y=some .local:=k
     rw [k'] at z;cases z
   ·exact .inr ⟨k,c,e,z.sameBut hs (I.By y c e)⟩
 ·obtain ⟨w',z⟩:=I.cell y c e
  exact ⟨w',z.sameBut hs (I.By y c e)⟩
 ·obtain ⟨e,n,ne,nf,d⟩:=I.pin p hp
  exact ⟨(hs.2 p.1 ne).trans e,n,ne,nf,d⟩
 ·refine (I.hok b ob e).stay (λc w' hc q=>(hs.2 c ?_).trans q) (λ_ q=>q) λ_ _ q=>q
  intro ec
  rcases hc with hc | hc
  ·have:H1 C=some ob:=by rw [← (show c=C from ec),hc];exact e
   rw [hfree] at this;cases this
  ·have:H1 C=some (.own b):=by rw [← (show c=C from ec)];exact hc
   rw [hfree] at this;cases this
noncomputable def Nc:V→Hp→List V→Prop:=λx _ vs=>vs=[x]
noncomputable def Nd (K:WV) (n:Nat):V→Hp→List V→Prop:=λx H vs=>∃ a,x=.ref a∧kC K H a vs∧vs.length=n
noncomputable def Own (X:Cx) (scope:Scope) (xs:List Str) (ks:List Bool) (tg:Expr) (ow:V→Hp→List V→Prop):Prop:=
 ∀ (cl:List (Str×Addr)) (C:Addr) (pins:List (Addr×Obj)) (s0:WT) (H0:Hp) (fp:List Addr) (E:V0→WT→Prop) (Xc:Cx) (σ0:L2.St) (own:List (Option V)) (x:V) (vs:List V) (u:V0) (H1:Hp) (s1:WT) (gx:List (Addr×Obj)) (E':V0→WT→Prop) (Q:Unit→WT→Prop),
  Xc=lF X scope cl xs C pins s0 H0 fp E→own.length=xs.length→Inv Xc gx (own++mask ks σ0) H1 s1→RelV x u→ow x H1 vs →
  (vs.length=xs.length→∀ s',Inv Xc gx (vs.map some++mask ks σ0) H1 s'→Q () s')→Xe (model X.prog X.w) X.A (assign tg Xc.env u) Q E' s1
theorem Cm (S:bf X.env.scope X.N scope [x] ks):Own X scope [x] ks (.Name x px) Nc:=by
 intro cl C pins s0 H0 fp E Xc σ0 own v vs u H1 s1 gx E' Q e ho I r hv h
 cases hv
 rcases own with _ | ⟨a,_ | ⟨b,ro⟩⟩<;>try (cases ho;done)
 exact kO (own:=[a]) (n:=0) S e rfl rfl I r λs' I'=>h rfl s' I'
theorem Cn {pt:Pos} {k:Nat} (hc:X.calm=true) (S:bf X.env.scope X.N scope [x,y] ks):Own X scope [x,y] ks (.Tuple [.Name x px,.Name y py] k pt) (Nd X.K 2):=by
 intro cl C pins s0 H0 fp E Xc σ0 own v vs u H1 s1 gx E' Q e ho I r hv h
 obtain ⟨a,rfl,sq,hl⟩:=hv
 cases r
 rcases own with _ | ⟨a1,_ | ⟨a2,_ | ⟨a3,ro⟩⟩⟩<;>try (cases ho;done)
 rcases vs with _ | ⟨v1,_ | ⟨v2,_ | ⟨v3,rw⟩⟩⟩<;>try (cases hl;done)
 have S6:kC Xc.K H1 a [v1,v2]:=by rw [e];exact sq
 obtain ⟨its,rv,ht,hz⟩:=I.tuple S6
 cases rv with
 | cons r1 rv=>
 cases rv with
 | cons r2 rv=>
 cases rv
 have hd:X.A.handled=none:=by
  have:=I.ok.hd (by rw [e];exact hc)
  rw [e] at this;exact this
 refine assign_Tuple_tuple hd ht rfl rfl λh' hx=>?_
 have I1:Inv Xc gx ([a1,a2]++mask ks σ0) H1 {s1 with heap:=h'}:=I.kept (t':=s1.toks) λb o e=>hx b o (Xa (W3 e)) e
 refine assignInOrder_cons (kO (own:=[a1,a2]) (n:=0) S e rfl rfl I1 r1 λs2 I2=>?_)
 refine assignInOrder_cons (kO (own:=[some v1,a2]) (n:=1) S e rfl rfl I2 r2 λs3 I3=>?_)
 exact assignInOrder_nil (h rfl _ I3)
end
end
theorem tF {prog:Xx} {w:XR} {A:Around} {R:Result→WT→Prop} {s:WT} {elt target iter:Expr} {ifs:List Expr} {scope:Scope} {pos:Pos} {it acc:V0} {env:Env} (I:Nat→WT→Prop)
  (turn:∀ (n:Nat) (s:WT),I n s→Xe (model prog w) A (pyNext it) (λr s₁=>match r with
   | none=>R (.ok .next) s₁
   | some v=>Xe (model prog w) A (letOwnedTupleGo target it v) (λ_ s₁'=>Xe (model prog w) A (assign target env v) (λ_ s₂=>Xe (model prog w) A (forIn ifs true λc r=>if r=true then do let ok ← isTrue c env (eval c env);pure (ForInStep.yield ok) else pure (ForInStep.yield r)) (λok s₃=>if ok=true then Xe (model prog w) A (eval elt env) (λx s₄=>Xe (model prog w) A (call (.builtin "list.append") [acc,x]) (λ_ s₅=>∃ m,m<n∧I m s₅) (notedBy (model prog w) A env λe s'=>R (.error e) s') s₄) (notedBy (model prog w) A env λe s'=>R (.error e) s') s₃ else ∃ m,m<n∧I m s₃) (notedBy (model prog w) A env λe s'=>R (.error e) s') s₂) (notedBy (model prog w) A env λe s'=>R (.error e) s') s₁') (notedBy (model prog w) A env λe s'=>R (.error e) s') s₁) (notedBy (model prog w) A env λe s'=>R (.error e) s') s) (n:Nat) (h:I n s) :
  codeAny (model prog w) A (.compLoop (.ListComp elt [⟨target,iter,ifs,0⟩] scope pos) 0 it acc env) R s:=by
 refine codeAny_loop rfl I (λn s hI=>?_) n h
 refine wpAny_noted ?_
 rw [compTurn_list]
 refine Us (wpAny_standAt (Us (XH (turn n s hI) (λr s₁ h₁=>?_) λ_ _ z=>z)))
 cases r with
 | none=>exact WY h₁
 | some v=>
  refine Us (XH h₁ (λ_ s₂ h₂=>Us (XH h₂ (λ_ s₃ h₃=>Us (XH h₃ (λok s₄ h₄=>?_) λ_ _ z=>z)) λ_ _ z=>z)) λ_ _ z=>z)
  cases ok with
  | false=>exact WY ⟨rfl,h₄⟩
  | true=>exact Us (Us (XH h₄ (λx s₅ h₅=>Us (XH h₅ (λ_ s₆ h₆=>WY (WY ⟨rfl,h₆⟩)) λ_ _ z=>z)) λ_ _ z=>z))
noncomputable def CT (X:Cx) (ifs:List Expr) (tt:TT):Prop:=∀ (pins:List (Addr×Obj)) (s:WT) (σ:L2.St) (H:Hp) (Q:Bool→Hp→Prop),Inv X pins σ H s→tt σ H Q →
 Xe (model X.prog X.w) X.A (forIn ifs true λc r=>if r=true then do let ok ← isTrue c X.env (eval c X.env);pure (ForInStep.yield ok) else pure (ForInStep.yield r)) (TP X pins σ Q) X.xe s
theorem Kq:CT X [] (λ_ H Q=>Q true H):=λ_ _ _ H _ I h=>wpAny_tests_nil ⟨H,I,h⟩
theorem Kr {c:Expr} {t:TT} (h:PT X c t):CT X [c] t:=λpins s σ H Q I q=>wpAny_tests_one (h pins s σ H Q I q)
noncomputable def rK (wi:TI) (ks:List Bool) (ow:V→Hp→List V→Prop) (tt:TT) (te:TE):TE:=λσ H Q=>wi σ H λJ H1=>∀ D,H1 D=none→∃ W:Nat→Nat→Hp→Prop,(∃ m,W 0 m (upd H1 D (.lst [])))∧∀ i m H,W i m H →
  (J.stop i H∧Q (.ref D) H)∨(J.go i H∧∀ x H',J.qX i H x H'→∃ vs,ow x H' vs∧tt (vs.map some++mask ks σ) H' λb H2=>if b=true then te (vs.map some++mask ks σ) H2 λv H3=>∃ ys,H3 D=some (.lst ys)∧ys.length<WO∧∃ m',m'<m∧W (i+1) m' (upd H3 D (.lst (ys++[v]))) else ∃ m',m'<m∧W (i+1) m' H2)
section
variable {X:Cx} {scope:Scope} {xs:List Str} {tg:Expr} {ow:V→Hp→List V→Prop} {ks:List Bool} {pins:List (Addr×Obj)} {σ:L2.St} {H:Hp} {s s4:WT} {fp:List Addr} {E:V0→WT→Prop} {h1:Heap} {elt iter:Expr} {ifs:List Expr} {px pos:Pos} {tt:TT} {te:TE} {wi:TI}
theorem nk {h h' B B':Heap}:∀ {l:List Env},h.FunFrames B l→(∀ b∈frs l,∀ o,h.get? b=some o→(∀ vs,o.data≠.fields vs)→∃ o',h'.get? b=some o'∧o'.data=o.data)→(∀ b∈frs l,B'.get? b=none)→h'.FunFrames B' l
 | [],_,_,_=>trivial
 | env::r,⟨hk,⟨L,o,hf,_,ho,hd⟩,hr⟩,hm,hB=>by
  have sub:∀ b,b=L∨b∈frs r→b∈frs (env::r):=λb hb=>by
   unfold frs;rw [YC,hf]
   rcases hb with z | z
   ·rw [z];exact YK
   ·exact XI _ z
  obtain ⟨o',e1,e2⟩:=hm L (sub L (.inl rfl)) o ho hd
  exact ⟨hk,⟨L,o',hf,hB L (sub L (.inl rfl)),e1,by rw [e2];exact hd⟩,nk hr (λb hb=>hm b (sub b (.inr hb))) λb hb=>hB b (sub b (.inr hb))⟩
theorem xQ {D C e:Addr} {cls:V0} {c:XD} {gx:List (Addr×Obj)} {σ':L2.St} {H' HD:Hp} {s3 s':WT} {cl:List (Str×Addr)} {RE:V0→WT→Prop} (Ks:fM X EE) (hst:∃ gf gr L,X.stack=gf::gr∧X.env.frame=gf.frame∧gf.frame=some L)
  (I3:Inv X pins σ HD s3) (hC:C=s3.heap.objs.size) (f3:∀ b∈fp,kK X pins HD b∧b<s3.heap.objs.size)
  (P4:∀ s'':WT,(∃ m,s''.heap.Ns C m∧∀ h',Y0 C s''.heap h'→∀ cenv:Env,cenv.locals=C→Xe (model X.prog X.w) X.A (passOn "comprehension.variables-let-go" (.ref e) cenv:Sem V0) (λ_ _=>False) X.xe {s'' with heap:=h'})→RE (.ref e) s'')
  (I':Inv (lF X scope cl xs C pins s3 HD fp E) gx σ' H' s') (fx:M8 (lF X scope cl xs C pins s3 HD fp E) H' e cls s') (hc:Cg X.mg c cls) (ee:EE c σ H') :
  notedBy (model X.prog X.w) X.A (compEnvC scope cl C X.env) RE (.ref e) s':=by
 obtain ⟨B,fb,hok,FG⟩:=fx
 obtain ⟨gf,gr,L,h1,h2,h3⟩:=hst
 show Xe _ X.A (noteFrame (.ref e) (compEnvC scope cl C X.env)) _ _ s'
 rw [xO (show (compEnvC scope cl C X.env).frame=gf.frame from h2)]
 have hfr:X.A.frames=some (gf::gr):=by rw [← h1];exact I3.ok.frames
 have S7:Ai B (gf::gr) e cls s'.heap:=by rw [← h1];exact fb
 refine yT hfr h3 S7 λh5 a0 hH u5=>?_
 obtain ⟨k1,k2,k3,oe,vs,T,oT,ts,he,hcls,hd,hv1,M5,M6,hT,Bu,S8⟩:=hH
 have RD:h5.FunFrames B X.stack:=by rw [h1];exact k3
 obtain ⟨m,hm,_⟩:=id I'.loc
 have RG:h5.Ns C m:=u5.ns hm
 refine P4 _ ⟨m,RG,λh6 sb cenv _=>?_⟩
 obtain ⟨oC,VT,VU,S9,Tc,_⟩:=id RG
 have HM:∀ {b:Addr} {o:Obj} {ws:Array V0},h5.get? b=some o→o.data=.fields ws→b≠C:=λ{b o ws} q d z=>by
  rw [z,S9] at q;cases q;rw [Tc] at d;cases d
 have P5:=(sb.2 e (HM he hd)).trans he
 have RH:=(sb.2 T (HM hT Bu)).trans hT
 have RI:3<ts.size:=(YL.mp S8).1
 unfold passOn setFlight
 refine Us (XG P5 hd hv1 ?_)
 rw [if_neg (show ¬ ((Value.ref T==Value.none)=true) by simp)]
 have fin:X.xe (.ref e) {s' with heap:=h6.update T (YH (·.setIfInBounds 3 (cenv.frame.elim .none λf=>rawInt f)))}:=by
  have Nf:∀ b,b≠T→(h6.update T (YH (·.setIfInBounds 3 (cenv.frame.elim .none λf=>rawInt f)))).get? b=h6.get? b:=λb hb=>Yj _ _ (YE hb)
  have uE:∀ b,b≠T→b≠C→(h6.update T (YH (·.setIfInBounds 3 (cenv.frame.elim .none λf=>rawInt f)))).get? b=h5.get? b:=λb hb hb2=>(Nf b hb).trans (sb.2 b hb2)
  generalize Te:h6.update T (YH (·.setIfInBounds 3 (cenv.frame.elim .none λf=>rawInt f)))=h7 at Nf uE
  have Tf:h7.get? T=some (YH (·.setIfInBounds 3 (cenv.frame.elim .none λf=>rawInt f)) oT):=by rw [← Te];exact Yp _ RH (ZW (YM Bu _))
  have Tg:∀ b o,B.get? b=some o→b≠T:=λb o q z=>by rw [z,M5] at q;cases q
  have OI:∀ b o,(B.hide C).get? b=some o→h7.get? b=some o:=λb o q=>by
   have q':=aaX q
   have nC:b≠C:=λz=>by rw [z,Heap.hide_self] at q;cases q
   rw [uE b (Tg b o q') nC]
   exact k1 b o q'
  have hide:∀ b o,b≠C→B.get? b=some o→(B.hide C).get? b=some o:=λb o z q=>(Heap.hide_ne B z).trans q
  have Ku:∀ b o,s3.heap.get? b=some o→b≠C:=λb o q=>by rw [hC];exact Xa (W3 q)
  have Ng:iY X.prog X.w H' (B.hide C):=Ci hok λb o n q=>hide b o (λz=>n (by rw [z];exact I'.free)) q
  have P0:∀ b,b∉frs X.stack→b∉X.fs:=λb hb z=>hb (by
   rcases I3.ok.stk with q | ⟨q,_⟩
   ·rw [q];exact z
   ·rw [q];unfold frs;rw [YC];split
    ·exact z
    ·exact XI _ z)
  have slot:∀ b o,s3.heap.get? b=some o→b∈frs X.stack→∃ sl,h7.get? b=some {o with slots:=sl}:=λb o q hb=>by
   obtain ⟨_,o',q',hnf⟩:=I3.stack.mem hb
   rw [q] at q';cases q'
   obtain ⟨sl,e1⟩:=I'.base.slot b o q (I3.nM b hb) hb λz=>(I'.ok.Ex b z) hb
   obtain ⟨Mb,e2⟩:=u5 b _ e1 hnf
   refine ⟨Mb,?_⟩
   rw [uE b (λz=>by rw [z,hT] at e2;cases e2;exact hnf _ Bu) (Ku b o q)]
   exact e2
  have un:Un (frs X.stack) fp HD H' s3.heap h7:=⟨λb o q n hb hx=>OI b o (hide b o (Ku b o q) (FG.keep b o q n hb hx)),λb o q n hb hx=>slot b o q hb,λb o q n hx=>I'.base.free b o q n hx,λb o q hx=>by
   by_cases hb:b∈frs X.stack
   ·obtain ⟨sl,z⟩:=slot b o q hb
    exact ⟨_,z⟩
   ·obtain ⟨o',z⟩:=FG.there b o q hb hx
    exact ⟨o',OI b o' (hide b o' (Ku b o q) z)⟩,I'.base.tups,I'.base.jC,I'.base.ki⟩
  have I7:Inv X pins σ H' {s' with heap:=h7}:=I3.BB (ch:=fp) I'.os un (Ng.kept OI) I'.bare λb hb=>by
   obtain ⟨g0,g1,g2,g3,g4,g5⟩:=(f3 b hb).1
   exact ⟨g3,g1,g4,g5⟩
  have RJ:∀ b o,X.s₀.heap.get? b=some o→b∉X.ex→b∉fp:=λb o q hx hb=>by
   obtain ⟨g0,g1,g2,g3,g4,g5⟩:=(f3 b hb).1
   rcases g3 with z | z
   ·exact hx z
   ·exact absurd (W0 (W3 q) z) (X7 _)
  refine Ks pins σ H' _ e cls c I7 ⟨B.hide C,⟨OI,?_,?_,.inr ⟨a0,_,oe,vs,T,_,_,?_,hcls,hd,hv1,?_,M6,Tf,YM Bu _,by simp [RI];rfl⟩⟩,Ng,⟨λb o q n hb hx=>?_,λb o q hb hx=>?_,λp hp=>?_⟩⟩ hc ee
  ·cases q:(B.hide C).get? e with
   | none=>rfl
   | some o=>have:=aaX q;rw [k2] at this;cases this
  ·refine nk RD (λb hb o q hnf=>?_) λb hb=>?_
   ·refine ⟨o,?_,rfl⟩
    show h7.get? b=some o
    rw [uE b (λz=>by rw [z,hT] at q;cases q;exact hnf _ Bu) ?_]
    ·exact q
    ·obtain ⟨_,o',q',_⟩:=I3.stack.mem hb
     exact Ku b o' q'
   ·cases q:(B.hide C).get? b with
    | none=>rfl
    | some o=>have:=aaX q;rw [(RD.mem hb).1] at this;cases this
  ·exact (uE e (YE M6) (HM he hd)).trans he
  ·cases q:(B.hide C).get? T with
   | none=>rfl
   | some o=>have:=aaX q;rw [M5] at this;cases this
  ·have q3:=I3.base.keep b o q n (P0 b hb) hx
   exact hide b o (Ku b o q3) (FG.keep b o q3 (I3.base.free b o q n hx) hb (RJ b o q hx))
  ·obtain ⟨o',q3⟩:=I3.base.there b o q hx
   obtain ⟨RK,z⟩:=FG.there b o' q3 hb (RJ b o q hx)
   exact ⟨RK,hide b RK (Ku b o' q3) z⟩
  ·exact hide _ _ (Ku _ _ (I3.pin p (Yt _ hp)).1) (FG.pins p (Yt _ hp))
 first
  | (refine Us (WY ?_);refine Us (Us (XG P5 hd hv1 ?_)))
  | refine Us (Us (XG P5 hd hv1 ?_))
 rw [if_pos (show (Value.ref T != Value.none)=true by simp)]
 exact Zq RH Bu RI (ab3 fin)
theorem oR {Q:VK} {J:It} {it:Addr} {tn:Nat→Heap→Prop} {RR:V0→Addr→Result→WT→Prop} (Ks:fM X EE) (hst:∃ gf gr L,X.stack=gf::gr∧X.env.frame=gf.frame∧gf.frame=some L) (S:bf X.env.scope X.N scope xs ks) (how:Own X scope xs ks tg ow) (hc:X.calm=true) (I:Inv X pins σ H s)
  (T:Turn X.prog X.w X.K tg J fp it tn) (st:tn 0 s.heap) (hf:∀ b∈fp,kK X pins H b)
  (hb:∀ (cl:List (Str×Addr)) (C:Addr) (pins:List (Addr×Obj)) (s0:WT) (H0:Hp) (fp:List Addr) (E:V0→WT→Prop),fM (lF X scope cl xs C pins s0 H0 fp E) (λc _ H'=>EE c σ H')→CT (lF X scope cl xs C pins s0 H0 fp E) ifs tt∧PE (lF X scope cl xs C pins s0 H0 fp E) elt te)
  (hw:∀ D,H D=none→∃ W:Nat→Nat→Hp→Prop,(∃ m,W 0 m (upd H D (.lst [])))∧∀ i m H,W i m H →
   (J.stop i H∧Q (.ref D) H)∨(J.go i H∧∀ x H',J.qX i H x H'→∃ vs,ow x H' vs∧tt (vs.map some++mask ks σ) H' λb H2=>if b=true then te (vs.map some++mask ks σ) H2 λv H3=>∃ ys,H3 D=some (.lst ys)∧ys.length<WO∧∃ m',m'<m∧W (i+1) m' (upd H3 D (.lst (ys++[v]))) else ∃ m',m'<m∧W (i+1) m' H2))
  (hRR:∀ (D C:Addr) (s':WT) (H':Hp) (m:Str→Option V0),Inv X pins σ H' s'→s'.heap.Ns C m→H' C=none→C≠X.env.locals→X.s₀.heap.objs.size≤C→(∀ x c,X.env.cells.lookup x=some c→c≠C)→(∀ p∈X.pn++pins,p.1≠C)→Q (.ref D) H'→RR (.ref D) C (.ok .next) s')
  (P4:∀ (acc:V0) (C e:Addr) (s'':WT),(∃ m,s''.heap.Ns C m∧∀ h',Y0 C s''.heap h'→∀ cenv:Env,cenv.locals=C→Xe (model X.prog X.w) X.A (passOn "comprehension.variables-let-go" (.ref e) cenv:Sem V0) (λ_ _=>False) X.xe {s'' with heap:=h'})→RR acc C (.error (.ref e)) s'') :
  Xe (model X.prog X.w) X.A (newList []) (λacc s₃=>Xe (model X.prog X.w) X.A (newFunctionEnv scope X.env.globals (fX X.env scope.names []) [] X.env.qual none .none (some X.env)) (λcenv s₄=>
   codeAny (model X.prog X.w) X.A (.compStart (.ListComp elt [⟨tg,iter,ifs,0⟩] scope pos) 0 (.ref it) acc {cenv with scope:=relabel scope X.env}) (RR acc cenv.locals) s₄) E s₃) E s:=by
 refine XM (abl S.mG (by intro y hy;simp at hy) (λh₁ Nh Ni=>?_) S.kind)
 have I3:Inv X pins σ (upd H s.heap.objs.size (.lst [])) {s with heap:=s.heap.push {cls:=.type "list",dict:=none,data:=.seq ([]:List V0).toArray}}:=
  I.laid (t':=s.toks) (λb o e=>WQ _ e) (WZ _) ⟨XQ _,[],0,.nil,W5 _ rfl⟩
 have hfree:=I.hok.fresh (WZ s.heap.objs.size)
 generalize RL:({s with heap:=s.heap.push {cls:=.type "list",dict:=none,data:=.seq ([]:List V0).toArray}}:WT)=s3 at I3 Nh Ni ⊢
 have hsz:s3.heap.objs.size=s.heap.objs.size+1:=by rw [← RL];exact XY ..
 have Nj:∀ b o,s.heap.get? b=some o→s3.heap.get? b=some o:=λb o e=>by rw [← RL];exact WQ _ e
 have Nk:∀ b∈fp,b<s.heap.objs.size:=λb hb'=>by
  obtain ⟨o,e,_⟩:=T.obj 0 _ st b hb'
  exact W3 e
 have f3:∀ b∈fp,kK X pins (upd H s.heap.objs.size (.lst [])) b∧b<s3.heap.objs.size:=λb hb'=>
  ⟨⟨by rw [az (Xa (Nk b hb'))];exact (hf b hb').1,(hf b hb').2⟩,by rw [hsz];exact aaw (Nk b hb')⟩
 have Co:∀ b o,s3.heap.get? b=some o→h₁.get? b=some o:=λb o e=>Ni.extBut b o (Xa (W3 e)) (WQ _ e)
 obtain ⟨W,⟨m0,w0⟩,turn⟩:=hw s.heap.objs.size hfree
 generalize hX:lF X scope (fX X.env scope.names []) xs s3.heap.objs.size pins s3 (upd H s.heap.objs.size (.lst [])) fp (notedBy (model X.prog X.w) X.A (compEnvC scope (fX X.env scope.names []) s3.heap.objs.size X.env) λe s'=>RR (.ref s.heap.objs.size) s3.heap.objs.size (.error e) s')=Xc
 have I4:Inv Xc [] (Xi xs.length none++mask ks σ) (upd H s.heap.objs.size (.lst [])) {s3 with heap:=h₁,toks:=s3.toks+([]:List (Str×V0)).length}:=by
  rw [← hX]
  exact xP S I3 f3 (by simpa using Nh) Co _
 have El:CT Xc ifs tt∧PE Xc elt te:=by
  rw [← hX]
  exact hb _ _ _ _ _ _ _ λgx σ' H' s' e cls c I' fx hc ee=>xQ (RE:=λe s'=>RR (.ref s.heap.objs.size) s3.heap.objs.size (.error e) s') (D:=s.heap.objs.size) Ks hst I3 rfl f3 (λs''=>P4 _ _ e s'') I' fx hc ee
 have u9:Xc.prog=X.prog:=by rw [← hX];rfl
 have ew:Xc.w=X.w:=by rw [← hX];rfl
 have eK:Xc.K=X.K:=by rw [← hX];rfl
 have eA:Xc.A=X.A:=by rw [← hX];rfl
 have HX:Xc.calm=true:=by rw [← hX];exact hc
 have P6:Xc.xe=notedBy (model X.prog X.w) X.A Xc.env λe s'=>RR (.ref s.heap.objs.size) s3.heap.objs.size (.error e) s':=by rw [← hX];rfl
 have Kv:Xc.env=compEnvC scope (fX X.env scope.names []) s3.heap.objs.size X.env:=by rw [← hX];rfl
 have Th:Xc.stack=X.stack:=by rw [← hX];rfl
 have P7:∀ {H':Hp},(∀ b∈fp,H' b=none)→∀ b∈fp,kK Xc [] H' b:=λ{H'} hn b hb'=>by
  obtain ⟨g0,g1,g2,g3,g4,g5⟩:=(f3 b hb').1
  rw [← hX]
  refine ⟨hn b hb',Xa (f3 b hb').2,λz=>(Xl.mp (I3.kJ b z)).elim g1 g2,.inl hb',λy c e=>g4 y c (oM scope.names [] (λy c e=>by simp at e) y c e),λp hp=>g5 p ?_⟩
  have:p∈(X.pn++pins)++[]:=hp
  simpa using this
 have fin:∀ (s':WT) (H':Hp) (a0:List (Option V)),Inv Xc [] (a0++mask ks σ) H' s'→Q (.ref s.heap.objs.size) H'→RR (.ref s.heap.objs.size) s3.heap.objs.size (.ok .next) s':=λs' H' a0 I' q=>by
  have hloc:=I'.loc
  obtain ⟨m,hm,_⟩:=hloc
  have hC:H' s3.heap.objs.size=none:=by have:=I'.free;rw [Kv] at this;exact this
  have hU:Un (frs X.stack) fp (upd H s.heap.objs.size (.lst [])) H' s3.heap s'.heap:=by
   have:=I'.base
   rw [← hX] at this
   exact this
  have hos:s'.os=s3.os∧0<s'.toks:=by have:=I'.os;rw [← hX] at this;exact this
  have P8:iY X.prog X.w H' s'.heap:=by have:=I'.hok;rw [← hX] at this;exact this
  have I5:Inv X pins σ H' s':=I3.BB hos hU P8 I'.bare λb hb'=>by
   obtain ⟨g0,g1,g2,g3,g4,g5⟩:=(f3 b hb').1
   exact ⟨g3,g1,g4,g5⟩
  refine hRR _ _ s' H' m I5 (by rw [Kv] at hm;exact hm) hC (aaS I3.lt) (X5 I3.sz (WZ _)) (λy c e z=>?_) (λp hp z=>?_) q
  ·obtain ⟨v,hv⟩:=I3.cell y c e
   exact absurd hv.lt (by rw [z];exact X7 _)
  ·exact absurd (W3 (I3.pin p hp).1) (by rw [z];exact X7 _)
 have loop:codeAny (model X.prog X.w) X.A (.compLoop (.ListComp elt [⟨tg,iter,ifs,0⟩] scope pos) 0 (.ref it) (.ref s.heap.objs.size) Xc.env) (RR (.ref s.heap.objs.size) s3.heap.objs.size)
   {s3 with heap:=h₁,toks:=s3.toks+([]:List (Str×V0)).length}:=by
  refine tF (λn s'=>∃ i a0 H',a0.length=xs.length∧Inv Xc [] (a0++mask ks σ) H' s'∧tn i s'.heap∧(∀ b∈fp,H' b=none)∧W i n H') ?_ m0 ⟨0,Xi xs.length none,_,by simp,I4,T.keep 0 _ _ st λb hb' o e=>Co b o (Nj b o e),λb hb'=>(f3 b hb').1.1,w0⟩
  rintro n s5 ⟨i,a0,H5,Ti,I5,LM,OC,w5⟩
  rcases turn i n H5 w5 with ⟨stop,q⟩ | ⟨go,step⟩
  ·have hd:=T.done Xc u9 ew eK HX i [] s5 _ H5 (λ_ _=>False) I5 (P7 OC) LM stop
   rw [eA] at hd
   refine XH hd (λr s6 hr=>?_) (λ_ _ z=>X3 z)
   obtain ⟨rfl,I6⟩:=hr
   exact fin s6 H5 a0 I6 q
  ·have hd:=T.item Xc u9 ew eK HX i [] s5 _ H5 (λ_ _=>False) I5 (P7 OC) LM go
   rw [eA] at hd
   refine XH hd (λr s6 hr=>?_) (λ_ _ z=>X3 z)
   obtain ⟨u,rfl,h6⟩:=hr
   refine XH h6 (λ_ s7 hq=>?_) (λ_ _ z=>X3 z)
   obtain ⟨v,H7,I7,r7,y7,P9,Tj⟩:=hq
   obtain ⟨vs,hvs,step⟩:=step v H7 y7
   have To:Inv Xc (mw fp s7.heap) (a0++mask ks σ) H7 s7:=by
    have:=Inv.pinned (pins:=[]) I7 (P7 Tj) (T.obj _ _ P9)
    simpa using this
   have back:∀ {σ':L2.St} {H':Hp} {s':WT},Inv Xc (mw fp s7.heap) σ' H' s'→Inv Xc [] σ' H' s'∧tn (i+1) s'.heap∧∀ b∈fp,H' b=none:=λ{σ' H' s'} I'=>by
    refine ⟨I'.sP λp hp=>absurd hp (by simp),T.keep _ _ _ P9 λb hb' o e=>(I'.pin (b,o) (X0 _ (iZ hb' e))).1,λb hb'=>?_⟩
    obtain ⟨o,e,d⟩:=T.obj _ _ P9 b hb'
    exact (I'.pin (b,o) (X0 _ (iZ hb' e))).2.1
   refine how _ _ _ _ _ _ _ Xc σ a0 v vs u H7 s7 _ _ _ hX.symm Ti To r7 hvs λRM s8 Tp=>?_
   have ht:=El.1 _ s8 _ H7 _ Tp step
   rw [u9,ew,eA,P6] at ht
   refine XH ht (λTq s9 h9=>?_) (λ_ _ z=>z)
   obtain ⟨H9,I9,q9⟩:=h9
   cases Tq with
   | false=>
    rw [if_neg XF] at q9 ⊢
    obtain ⟨m',hm',w'⟩:=q9
    obtain ⟨Tr,Tt,Tu⟩:=back I9
    exact ⟨m',hm',i+1,vs.map some,H9,by simpa using RM,Tr,Tt,Tu,w'⟩
   | true=>
    rw [if_pos rfl] at q9 ⊢
    have he:=El.2 _ s9 _ H9 _ I9 q9
    rw [u9,ew,eA,P6] at he
    refine XH he (λy Tv Qa=>?_) (λ_ _ z=>z)
    obtain ⟨yv,Tw,Tz,TF,ys,hD,hlen,m',hm',w'⟩:=Qa
    have ha:=rC (X:=Xc) _ Tv _ Tw (.ref s.heap.objs.size) [yv] (.ref s.heap.objs.size) [y] (λ_ H'=>∃ m',m'<n∧W (i+1) m' H') Tz rfl (.cons TF .nil) ⟨_,ys,yv,rfl,rfl,hD,hlen,m',hm',w'⟩
    rw [u9,ew,eA,P6] at ha
    refine XH ha (λ_ VV h11=>?_) (λ_ _ z=>z)
    obtain ⟨_,TH,TJ,_,TL,Qc,w''⟩:=h11
    obtain ⟨Qd,Qe,Qf⟩:=back TJ
    exact ⟨TL,Qc,i+1,vs.map some,TH,by simpa using RM,Qd,Qe,Qf,w''⟩
 rw [Kv] at loop
 exact codeAny_compStart_list loop (T.self X.A 0 _ _ _ (T.keep 0 _ _ st λb hb' o e=>Co b o (Nj b o e)) loop)
theorem nT {tt:L2.St→TT} {te:L2.St→TE} (Ks:fM X EE) (hst:∃ gf gr L,X.stack=gf::gr∧X.env.frame=gf.frame∧gf.frame=some L) (S:bf X.env.scope X.N scope xs ks) (how:Own X scope xs ks tg ow) (hc:X.calm=true) (hi:PI X tg iter wi)
  (hb:∀ (σ:L2.St) (cl:List (Str×Addr)) (C:Addr) (pins:List (Addr×Obj)) (s0:WT) (H0:Hp) (fp:List Addr) (E:V0→WT→Prop),fM (lF X scope cl xs C pins s0 H0 fp E) (λc _ H'=>EE c σ H')→CT (lF X scope cl xs C pins s0 H0 fp E) ifs (tt σ)∧PE (lF X scope cl xs C pins s0 H0 fp E) elt (te σ))
  (hs:∀ x,foldedSetIterable iter X.env x=pure x:=by intro _;rfl):PE X (.ListComp elt [⟨tg,iter,ifs,0⟩] scope pos) (λσ=>rK wi ks ow (tt σ) (te σ) σ):=by
 intro pins s σ H Q I h
 rw [eval_ListComp]
 refine aaB (use:=none) rfl hs (kE λy hy hfr=>I.ok.has y.1 (S.free y hy hfr)) S.kind S.names (cY (hi pins s σ H _ I h) λv s1 h1=>cY h1 λitv s2 h2=>?_)
 obtain ⟨it,fp,tn,J,H2,rfl,I2,T,st2,f2,q⟩:=h2
 refine oR (RR:=λacc C=>compPost (model X.prog X.w) X.A X.xe none (EP X pins σ Q) acc C) Ks hst S how hc I2 T st2 f2 (hb σ) q ?_ (λ_ _ _ _ z=>z)
 intro D C s' H' m I' hn hC h1 h2 h3 h4 q'
 refine ⟨m,hn,λh' sb=>?_⟩
 exact ⟨.ref D,H',I'.turned (t':=s'.toks) (λb o hb e=>(sb.2 b hb).trans e) hC h1 (.inr h2) h3 h4,rfl,q'⟩
theorem FH {tt:L2.St→TT} {te:L2.St→TE} (Ks:fM X EE) (hst:∃ gf gr L,X.stack=gf::gr∧X.env.frame=gf.frame∧gf.frame=some L) {y:Str} {i:Nat} {py spos:Pos} (S:bf X.env.scope X.N scope xs ks) (how:Own X scope xs ks tg ow) (hc:X.calm=true) (hN:X.N.Nodup) (hi:PI X tg iter wi) (hy:X.N[i]?=some y) (hl:X.env.scope.names.lookup y=some .local)
  (hsw:swapsWith (.ListComp elt [⟨tg,iter,ifs,0⟩] scope pos) (some (.Name y py)) spos.line X.env=pure true)
  (hb:∀ (σ:L2.St) (cl:List (Str×Addr)) (C:Addr) (pins:List (Addr×Obj)) (s0:WT) (H0:Hp) (fp:List Addr) (E:V0→WT→Prop),fM (lF X scope cl xs C pins s0 H0 fp E) (λc _ H'=>EE c σ H')→CT (lF X scope cl xs C pins s0 H0 fp E) ifs (tt σ)∧PE (lF X scope cl xs C pins s0 H0 fp E) elt (te σ))
  (hs:∀ x,foldedSetIterable iter X.env x=pure x:=by intro _;rfl):PS X (.Assign [.Name y py] (.ListComp elt [⟨tg,iter,ifs,0⟩] scope pos) spos) (IW (λσ=>rK wi ks ow (tt σ) (te σ) σ) (uL i)):=by
 intro pins s σ H Dd I h
 rw [exec_Assign_Name_used _ _ _ _ hsw]
 refine Us (wpAny_standAt (Us ?_))
 show Xe _ X.A (do let _ ← comprehension (.ListComp elt [⟨tg,iter,ifs,0⟩] scope pos) scope X.env _ (newList []) false (eval iter X.env) (some (assign (.Name y py) X.env))) _ _ s
 refine Us (XH (aaB (use:=some (assign (.Name y py) X.env)) (Q:=λ_ s'=>SP X pins Dd .next s') rfl hs (kE λy hy hfr=>I.ok.has y.1 (S.free y hy hfr)) S.kind S.names
  (cY (hi pins s σ H _ I h) λv s1 h1=>cY h1 λitv s2 h2=>?_)) (λ_ s' hq=>WY (WY hq)) λ_ _ e=>e)
 obtain ⟨it,fp,tn,J,H2,rfl,I2,T,st2,f2,q⟩:=h2
 refine oR (Q:=λv H'=>Dd.nx (σ.set i (some v)) H') (RR:=λacc C=>compPost (model X.prog X.w) X.A X.xe (some (assign (.Name y py) X.env)) (λ_ s'=>SP X pins Dd .next s') acc C) Ks hst S how hc I2 T st2 f2 (hb σ) q ?_ (λ_ _ _ _ z=>z)
 intro D C s' H' m I' hn hC h1 h2 h3 h4 q'
 show Xe _ X.A (assign (.Name y py) X.env (.ref D)) _ _ s'
 refine aau (qW I' hN hy (.inl hl) (v:=.ref D) (u:=.ref D) rfl (λs'' TM sb=>?_) (.inr hl))
 obtain ⟨a,sb,ha⟩:=sb
 have hne:C≠a:=by
  rcases ha with e | e
  ·rw [e];exact h1
  ·exact λz=>h3 y a e z.symm
 refine ⟨m,hn.sameBut sb hne,λh'' sb'=>?_⟩
 exact ⟨_,H',TM.turned (t':=s''.toks) (λb o hb e=>(sb'.2 b hb).trans e) hC h1 (.inr h2) h3 h4,q'⟩
end
noncomputable def oN:D→Option (List D):=λd=>some [d]
noncomputable def oT (n:Nat):D→Option (List D)
 | .tup xs=>if xs.length=n then some xs else none
 | _=>none
noncomputable def iP (K:WV) (mg:Str→Option V0) (ow:V→Hp→List V→Prop) (gO:D→Option (List D)):Prop:=
 ∀ (ρ:List Addr) (H:Hp) (d:D) (v:V) (os:List D),Rep K mg ρ H d v→gO d=some os→∃ vs,ow v H vs∧au K mg ρ H os vs
theorem Ak:iP K mg Nc oN:=λρ H d v os r e=>by
 cases e
 exact ⟨[v],rfl,.cons r .nil⟩
theorem Cp:iP K mg (Nd K n) (oT n):=λρ H d v os r e=>by
 cases d<;>try (cases e;done)
 rename_i xs
 dsimp only [oT] at e
 by_cases h:xs.length=n
 ·rw [if_pos h] at e;cases e
  unfold Rep at r
  obtain ⟨a,vs,rfl,sq,rs⟩:=r
  exact ⟨vs,⟨a,rfl,sq,by rw [← rs.length];exact h⟩,rs⟩
 ·rw [if_neg h] at e;cases e
noncomputable def vc (K:WV) (mg:Str→Option V0) (H H':Hp) (ρ:List Addr):Prop:=cC K H H' ρ ρ∧∀ G,eS K mg H ρ G→eS K mg H' ρ G
theorem vc.refl:vc K mg H H ρ:=⟨.refl,λ_ h=>h⟩
theorem vc.new {o:HO} (hp:H p=none):vc K mg H (upd H p o) ρ:=⟨cR hp ρ,λ_ h=>h.new hp⟩
noncomputable def dh (gO:D→Option (List D)) (ks:List Bool) (tt:DS→M Bool) (te:DS→M D) (n:Nat) (d:D) (τ:DS) (G:DH):Out Unit:=match gO d with
 | none=>.stuck
 | some os=>match tt (os.map some++mask ks τ) G with
 | .ok true G1=>match te (os.map some++mask ks τ) G1 with
  | .ok v G2=>match G2[n]? with
   | some (.lst ys)=>if ys.length<WO then .ok () (G2.set n (.lst (ys++[v]))) else .stuck
   | _=>.stuck
  | .bH c G2=>.bH c G2
  | .stuck=>.stuck
 | .ok false G1=>.ok () G1
 | .bH c G1=>.bH c G1
 | .stuck=>.stuck
noncomputable def bU (gO:D→Option (List D)) (ks:List Bool) (tt:DS→M Bool) (te:DS→M D) (n:Nat):List D→DS→DH→Out D
 | [],_,G=>.ok (.obj n) G
 | d::r,τ,G=>match dh gO ks tt te n d τ G with
  | .ok _ G'=>bU gO ks tt te n r τ G'
  | .bH c G'=>.bH c G'
  | .stuck=>.stuck
noncomputable def nq (gO:D→Option (List D)) (ks:List Bool) (tt:DS→M Bool) (te:DS→M D) (n src:Nat):Nat→Nat→DS→DH→Out D
 | 0,_,_,_=>.stuck
 | f+1,k,τ,G=>match G[src]? with
  | some (.lst xs)=>match xs[k]? with
   | none=>.ok (.obj n) G
   | some d=>match dh gO ks tt te n d τ G with
    | .ok _ G'=>nq gO ks tt te n src f (k+1) τ G'
    | .bH c G'=>.bH c G'
    | .stuck=>.stuck
  | _=>.stuck
noncomputable def dF (gO:D→Option (List D)) (ks:List Bool) (m:DS→M D) (tt:DS→M Bool) (te:DS→M D):DS→M D:=λτ=>(m τ).bind λd G=>match d with
 | .obj k=>match G[k]? with
  | some (.lst xs)=>nq gO ks tt te G.length k (xs.length+1) 0 τ (G++[.lst []])
  | _=>.stuck
 | .tup xs=>bU gO ks tt te G.length xs τ (G++[.lst []])
 | .con xs=>bU gO ks tt te G.length xs τ (G++[.lst []])
 | .str z=>bU gO ks tt te G.length (z.cps.toList.map λc=>.str ⟨#[c]⟩) τ (G++[.lst []])
 | _=>.stuck
noncomputable def cJ (zM:List D→Option (List D)) (gO:D→Option (List D)) (ks:List Bool) (m:DS→M (List D)) (tt:DS→M Bool) (te:DS→M D):DS→M D:=λτ=>(m τ).bind λds G=>match zM ds with
 | some xs=>bU gO ks tt te G.length xs τ (G++[.lst []])
 | none=>.stuck
section
variable {X:Cx} {EE:cz} {gO:D→Option (List D)} {ow:V→Hp→List V→Prop} {xs:List Str} {tg:Expr} {ks:List Bool} {tt:DS→M Bool} {te:DS→M D}
theorem Al (h:oG K mg H ρ σ τ) (r:au K mg ρ H os vs):oG K mg H ρ (vs.map some++mask ks σ) (os.map some++mask ks τ):=by
 have hl:=r.length
 refine ⟨by simp [iu,h.1,hl],λi e he=>?_⟩
 by_cases hi:i<os.length
 ·rw [W7 (by simpa using hi),Xn] at he
  cases q:os[i]? with
  | none=>rw [q] at he;cases he
  | some d=>
   rw [q] at he;cases he
   obtain ⟨v,e1,r1⟩:=r.get q
   exact ⟨v,by rw [W7 (by simp;nofun),Xn,e1];rfl,r1⟩
 ·rw [Xm (by simp;nofun)] at he
  obtain ⟨h1,h2⟩:=jG he
  obtain ⟨w,e1,r1⟩:=h.2 _ e h2
  refine ⟨w,?_,r1⟩
  rw [Xm (by simp;nofun)]
  have:=yU h1 e1
  simpa [hl] using this
noncomputable def mj (EE:cz) (σ:L2.St):cz:=λc _ H'=>EE c σ H'
theorem mJ (hO:iP X.K X.mg ow gO) {W:Hp→Prop} {n:Nat} {p:Addr} {σ:L2.St} {H:Hp} {τ:DS} {ρ:List Addr} {G:DH} {d:D} {v:V} (ab:Ab X.K X.mg σ H τ ρ G) (r:Rep X.K X.mg ρ H d v) (hn:ρ[n]?=some p)
  (hW:match dh gO ks tt te n d τ G with
   | .stuck=>False
   | .ok _ G'=>∀ H' ρ',cC X.K H H' ρ ρ'→Ab X.K X.mg σ H' τ ρ' G'→W H'
   | .bH c G'=>∀ H' ρ',cC X.K H H' ρ ρ'→Ab X.K X.mg σ H' τ ρ' G'→EE c σ H') :
  ∃ vs,ow v H vs∧liftT X.K X.mg (mj EE σ) tt (vs.map some++mask ks σ) H λb H2=>if b=true then bJ X.K X.mg (mj EE σ) te (vs.map some++mask ks σ) H2 λu H3=>∃ ys,H3 p=some (.lst ys)∧ys.length<WO∧W (upd H3 p (.lst (ys++[u]))) else W H2:=by
 unfold dh at hW
 cases qo:gO d with
 | none=>rw [qo] at hW;exact hW.elim
 | some os=>
 rw [qo] at hW
 dsimp only at hW
 obtain ⟨us,nQ,TN⟩:=hO ρ H d v os r qo
 refine ⟨us,nQ,?_⟩
 refine ⟨_,ρ,G,⟨Al ab.st TN,ab.hp⟩,?_⟩
 cases q:tt (os.map some++mask ks τ) G with
 | stuck=>rw [q] at hW;exact hW
 | bH c G1=>rw [q] at hW;exact λH' ρ' f aZ=>hW H' ρ' f ⟨ab.st.mono f,aZ.hp⟩
 | ok b G1=>
  rw [q] at hW
  intro H1 ρ1 f1 gn
  cases b with
  | false=>
   rw [if_neg XF]
   exact hW H1 ρ1 f1 ⟨ab.st.mono f1,gn.hp⟩
  | true=>
   rw [if_pos rfl]
   dsimp only at hW
   refine ⟨_,ρ1,G1,gn,?_⟩
   cases q2:te (os.map some++mask ks τ) G1 with
   | stuck=>rw [q2] at hW;exact hW
   | bH c G2=>rw [q2] at hW;exact λH' ρ' f aZ=>hW H' ρ' (f1.trans f) ⟨ab.st.mono (f1.trans f),aZ.hp⟩
   | ok u G2=>
    rw [q2] at hW
    dsimp only at hW
    intro w H2 ρ2 f2 bV r2
    cases q3:G2[n]? with
    | none=>rw [q3] at hW;exact hW.elim
    | some o=>
     cases o with
     | lst ys=>
      rw [q3] at hW
      dsimp only at hW
      by_cases hl:ys.length<WO
      ·rw [if_pos hl] at hW
       dsimp only at hW
       obtain ⟨p',vs,e1,e2,rs⟩:=bV.hp.lst q3
       have OJ:=f1.trans f2
       rw [OJ.get hn] at e1;cases e1
       refine ⟨vs,e2,by rw [← rs.length];exact hl,?_⟩
       have f3:cC X.K H2 (upd H2 p (.lst (vs++[w]))) ρ2 ρ2:=sZ e2 ρ2
       exact hW _ ρ2 (OJ.trans f3) ⟨ab.st.mono (OJ.trans f3),bV.hp.put (ds:=ys) (OJ.get hn) e2 (rs.append (.cons r2 .nil))⟩
      ·rw [if_neg hl] at hW;exact hW.elim
     | _=>first | (rw [q] at ok;exact ok.elim) | (rw [q] at aK;exact aK.elim) | (rw [q3] at hW;exact hW.elim) | (rw [q] at e;cases e;done) | (rw [g] at ok;exact ok.elim) | (rw [g] at q;cases q;done) | (rw [g] at h;cases h;done) | exact ok.elim
theorem ja (hO:iP X.K X.mg ow gO) {Q:VK} {J:It} {H0:Hp} {σ:L2.St} {ρ0:List Addr} {G0:DH} {τ:DS} (ds:List D)
  (go:∀ i H ρ,i<ds.length→cC X.K H0 H ρ0 ρ→J.go i H) (stop:∀ i H ρ,ds.length≤i→cC X.K H0 H ρ0 ρ→J.stop i H)
  (qX:∀ i d H ρ x H',ds[i]?=some d→cC X.K H0 H ρ0 ρ→J.qX i H x H'→vc X.K X.mg H H' ρ∧Rep X.K X.mg ρ H' d x)
  (ab:Ab X.K X.mg σ H0 τ ρ0 G0) (ok:iM X.K X.mg EE H0 σ τ ρ0 (bU gO ks tt te G0.length ds τ (G0++[.lst []])) Q) :
  ∀ D,H0 D=none→∃ W:Nat→Nat→Hp→Prop,(∃ m,W 0 m (upd H0 D (.lst [])))∧∀ i m H,W i m H →
   (J.stop i H∧Q (.ref D) H)∨(J.go i H∧∀ x H',J.qX i H x H'→∃ vs,ow x H' vs∧liftT X.K X.mg (mj EE σ) tt (vs.map some++mask ks σ) H' λb H2=>if b=true then bJ X.K X.mg (mj EE σ) te (vs.map some++mask ks σ) H2 λv H3=>∃ ys,H3 D=some (.lst ys)∧ys.length<WO∧∃ m',m'<m∧W (i+1) m' (upd H3 D (.lst (ys++[v]))) else ∃ m',m'<m∧W (i+1) m' H2):=by
 intro D hD
 have f0:cC X.K H0 (upd H0 D (.lst [])) ρ0 (ρ0++[D]):=(cR hD ρ0).trans (cS ρ0 D)
 have Kw:Ab X.K X.mg σ (upd H0 D (.lst [])) τ (ρ0++[D]) (G0++[.lst []]):=ab.fut f0 (ab.hp.more hD .nil)
 have hn0:(ρ0++[D])[G0.length]?=some D:=by rw [← ab.hp.hl,aC]
 refine ⟨λi m H=>i≤ds.length∧m=ds.length - i∧∃ ρ G,Ab X.K X.mg σ H τ ρ G∧cC X.K H0 H ρ0 ρ∧ρ[G0.length]?=some D∧iM X.K X.mg EE H σ τ ρ (bU gO ks tt te G0.length (ds.drop i) τ G) Q,
  ⟨ds.length,XQ _,rfl,ρ0++[D],_,Kw,f0,hn0,by simpa using ok.fut f0⟩,?_⟩
 rintro i m H ⟨hi,rfl,ρ,G,ab,f,hn,ok⟩
 by_cases hlt:i<ds.length
 ·refine .inr ⟨go i H ρ hlt f,λx H' y=>?_⟩
  obtain ⟨⟨fN,hN⟩,rx⟩:=qX i ds[i] H ρ x H' (W2 hlt) f y
  replace ok:=iM.fut fN ok
  replace ab:Ab X.K X.mg σ H' τ ρ G:=ab.fut fN (hN _ ab.hp)
  replace f:=f.trans fN
  rw [YT hlt] at ok
  unfold bU at ok
  refine mJ hO (W:=λH3=>∃ m',m'<ds.length - i∧i+1≤ds.length∧m'=ds.length - (i+1)∧∃ ρ G,Ab X.K X.mg σ H3 τ ρ G∧cC X.K H0 H3 ρ0 ρ∧ρ[G0.length]?=some D∧iM X.K X.mg EE H3 σ τ ρ (bU gO ks tt te G0.length (ds.drop (i+1)) τ G) Q)
    ab rx hn ?_
  cases e:dh gO ks tt te G0.length ds[i] τ G with
  | stuck=>rw [e] at ok;exact ok
  | bH c G'=>rw [e] at ok;exact ok
  | ok _ G'=>
   rw [e] at ok
   exact λH3 ρ3 f3 nS=>⟨ds.length - (i+1),by nofun,hlt,rfl,ρ3,G',nS,f.trans f3,f3.get hn,ok.fut f3⟩
 ·have e:i=ds.length:=by nofun
  subst e
  refine .inl ⟨stop _ H ρ (WZ _) f,?_⟩
  rw [Zg (WZ _)] at ok
  exact ok _ H ρ .refl ab (by unfold Rep;exact ⟨D,rfl,hn⟩)
theorem Cq (hO:iP X.K X.mg ow gO) {Q:VK} {H0:Hp} {σ:L2.St} {ρ0:List Addr} {G0:DH} {τ:DS} {k fuel:Nat} {p:Addr} (hk:ρ0[k]?=some p)
  (ab:Ab X.K X.mg σ H0 τ ρ0 G0) (ok:iM X.K X.mg EE H0 σ τ ρ0 (nq gO ks tt te G0.length k fuel 0 τ (G0++[.lst []])) Q) :
  ∀ D,H0 D=none→∃ W:Nat→Nat→Hp→Prop,(∃ m,W 0 m (upd H0 D (.lst [])))∧∀ i m H,W i m H →
   ((En X.K p).stop i H∧Q (.ref D) H)∨((En X.K p).go i H∧∀ x H',(En X.K p).qX i H x H'→∃ vs,ow x H' vs∧liftT X.K X.mg (mj EE σ) tt (vs.map some++mask ks σ) H' λb H2=>if b=true then bJ X.K X.mg (mj EE σ) te (vs.map some++mask ks σ) H2 λv H3=>∃ ys,H3 D=some (.lst ys)∧ys.length<WO∧∃ m',m'<m∧W (i+1) m' (upd H3 D (.lst (ys++[v]))) else ∃ m',m'<m∧W (i+1) m' H2):=by
 intro D hD
 have f0:cC X.K H0 (upd H0 D (.lst [])) ρ0 (ρ0++[D]):=(cR hD ρ0).trans (cS ρ0 D)
 have Kw:Ab X.K X.mg σ (upd H0 D (.lst [])) τ (ρ0++[D]) (G0++[.lst []]):=ab.fut f0 (ab.hp.more hD .nil)
 have hn0:(ρ0++[D])[G0.length]?=some D:=by rw [← ab.hp.hl,aC]
 refine ⟨λi m H=>∃ ρ G,Ab X.K X.mg σ H τ ρ G∧cC X.K H0 H ρ0 ρ∧ρ[G0.length]?=some D∧iM X.K X.mg EE H σ τ ρ (nq gO ks tt te G0.length k m i τ G) Q,
  ⟨fuel,ρ0++[D],_,Kw,f0,hn0,ok.fut f0⟩,?_⟩
 rintro i m H ⟨ρ,G,ab,f,hn,ok⟩
 cases m with
 | zero=>exact ok.elim
 | succ m=>
  unfold nq at ok
  cases q:G[k]? with
  | none=>rw [q] at ok;exact ok.elim
  | some o=>
   cases o with
   | lst ds=>
    rw [q] at ok
    dsimp only at ok
    obtain ⟨p',xs,e1,e2,rs⟩:=ab.hp.lst q
    rw [f.get hk] at e1;cases e1
    cases qd:ds[i]? with
    | none=>
     rw [qd] at ok
     have hl:xs.length≤i:=by rw [← rs.length];exact XN.mp qd
     exact .inl ⟨⟨xs,.of e2,hl⟩,ok _ H ρ .refl ab (by unfold Rep;exact ⟨D,rfl,hn⟩)⟩
    | some d=>
     rw [qd] at ok
     dsimp only at ok
     obtain ⟨x0,ex,rx⟩:=rs.get qd
     refine .inr ⟨⟨xs,x0,.of e2,ex⟩,λx H' y=>?_⟩
     obtain ⟨rfl,y⟩:=y
     have e3:=y xs (.of e2)
     rw [ex] at e3;cases e3
     refine mJ hO (W:=λH3=>∃ m',m'<m+1∧∃ ρ G,Ab X.K X.mg σ H3 τ ρ G∧cC X.K H0 H3 ρ0 ρ∧ρ[G0.length]?=some D∧iM X.K X.mg EE H3 σ τ ρ (nq gO ks tt te G0.length k m' (i+1) τ G) Q)
       ab rx hn ?_
     cases e:dh gO ks tt te G0.length d τ G with
     | stuck=>rw [e] at ok;exact ok
     | bH c G'=>rw [e] at ok;exact ok
     | ok _ G'=>
      rw [e] at ok
      exact λH3 ρ3 f3 nS=>⟨m,YI _,ρ3,G',nS,f.trans f3,f3.get hn,ok.fut f3⟩
   | _=>first | (rw [q] at ok;exact ok.elim) | (rw [q] at aK;exact aK.elim) | (rw [q3] at hW;exact hW.elim) | (rw [q] at e;cases e;done) | (rw [g] at ok;exact ok.elim) | (rw [g] at q;cases q;done) | (rw [g] at h;cases h;done) | exact ok.elim
variable {scope:Scope} {elt iter a b:Expr} {ifs:List Expr} {px pos:Pos} {m:DS→M D}
theorem Am (hO:iP X.K X.mg ow gO) {σ:L2.St} {H:Hp} {Q:VK} (h:bJ X.K X.mg EE (dF gO ks m tt te) σ H Q) :
  rK (λσ H R=>bJ X.K X.mg EE m σ H λx H1=>(∃ p,x=.ref p∧(∃ xs,jY X.K H1 p xs)∧R (En X.K p) H1)∨(∃ p,x=.ref p∧(∃ xs,kC X.K H1 p xs)∧R (OB X.K p) H1)∨∃ z,x=.str z∧R (Fv z) H1) ks ow (liftT X.K X.mg (mj EE σ) tt) (bJ X.K X.mg (mj EE σ) te) σ H Q:=by
 obtain ⟨τ,ρ,G,ab,ok⟩:=i6 (k:=λτ d G=>match d with
  | .obj k=>match G[k]? with
   | some (.lst xs)=>nq gO ks tt te G.length k (xs.length+1) 0 τ (G++[.lst []])
   | _=>.stuck
  | .tup xs=>bU gO ks tt te G.length xs τ (G++[.lst []])
  | .con xs=>bU gO ks tt te G.length xs τ (G++[.lst []])
  | .str z=>bU gO ks tt te G.length (z.cps.toList.map λc=>.str ⟨#[c]⟩) τ (G++[.lst []])
  | _=>.stuck) h
 refine ⟨τ,ρ,G,ab,?_⟩
 cases e:m τ G with
 | stuck=>rw [e] at ok;exact ok
 | bH c G'=>rw [e] at ok;exact ok
 | ok d G'=>
  rw [e] at ok
  intro v H1 ρ1 f1 gn r1
  obtain ⟨τ2,ρ2,G2,d2,bV,r2,aK⟩:=ok v H1 ρ1 f1 gn r1
  cases d2<;>try exact aK.elim
  case obj n=>
   dsimp only at aK
   unfold Rep at r2
   obtain ⟨p,rfl,e1⟩:=r2
   cases q:G2[n]? with
   | none=>rw [q] at aK;exact aK.elim
   | some o=>
    cases o with
    | lst xs=>
     rw [q] at aK
     obtain ⟨p',vs,e2,h2,rs⟩:=bV.hp.lst q
     rw [e1] at e2;cases e2
     exact .inl ⟨p,rfl,⟨vs,.of h2⟩,Cq hO e1 bV aK⟩
    | _=>first | (rw [q] at ok;exact ok.elim) | (rw [q] at aK;exact aK.elim) | (rw [q3] at hW;exact hW.elim) | (rw [q] at e;cases e;done) | (rw [g] at ok;exact ok.elim) | (rw [g] at q;cases q;done) | (rw [g] at h;cases h;done) | exact ok.elim
  case tup xs=>
   unfold Rep at r2
   obtain ⟨p,vs,rfl,sq,rs⟩:=r2
   refine .inr (.inl ⟨p,rfl,⟨vs,sq⟩,ja hO xs (λi H' ρ' hi f=>?_) (λi H' ρ' hi f=>?_) (λi d' H' ρ' x MZ hd f y=>?_) bV aK⟩)
   ·rw [rs.length] at hi
    exact ⟨vs,vs[i],f.tup _ _ sq,W2 hi⟩
   ·exact ⟨vs,f.tup _ _ sq,by rw [← rs.length];exact hi⟩
   ·obtain ⟨rfl,y⟩:=y
    obtain ⟨w',ew,rw'⟩:=rs.get hd
    have:=y vs (f.tup _ _ sq)
    rw [ew] at this;cases this
    exact ⟨.refl,rw'.mono f⟩
  case con xs=>
   unfold Rep at r2
   obtain ⟨p,vs,rfl,sq,rs⟩:=r2
   refine .inl ⟨p,rfl,⟨vs,sq.seq⟩,ja hO xs (λi H' ρ' hi f=>?_) (λi H' ρ' hi f=>?_) (λi d' H' ρ' x MZ hd f y=>?_) bV aK⟩
   ·rw [rs.length] at hi
    exact ⟨vs,vs[i],(f.con _ _ sq).seq,W2 hi⟩
   ·exact ⟨vs,(f.con _ _ sq).seq,by rw [← rs.length];exact hi⟩
   ·obtain ⟨rfl,y⟩:=y
    obtain ⟨w',ew,rw'⟩:=rs.get hd
    have:=y vs (f.con _ _ sq).seq
    rw [ew] at this;cases this
    exact ⟨.refl,rw'.mono f⟩
  case str z=>
   unfold Rep at r2;subst r2
   refine .inr (.inr ⟨z,rfl,ja hO (z.cps.toList.map λc=>.str ⟨#[c]⟩) (λi H' ρ' hi f=>?_) (λi H' ρ' hi f=>?_) (λi d' H' ρ' x MZ hd f y=>?_) bV aK⟩)
   ·simpa [Fv] using hi
   ·simpa [Fv] using hi
   ·obtain ⟨rfl,c,hc,rfl⟩:=y
    rw [Xn] at hd
    have:z.cps.toList[i]?=some c:=by simpa using hc
    rw [this] at hd
    cases hd
    exact ⟨.refl,by unfold Rep;rfl⟩
noncomputable def jH (X:Cx) (scope:Scope) (xs:List Str) (ifs:List Expr) (elt:Expr) (tt:DS→M Bool) (te:DS→M D):Prop:=
 ∀ (cl:List (Str×Addr)) (C:Addr) (pins:List (Addr×Obj)) (s0:WT) (H0:Hp) (fp:List Addr) (E:V0→WT→Prop) (EE:cz),fM (lF X scope cl xs C pins s0 H0 fp E) EE→CT (lF X scope cl xs C pins s0 H0 fp E) ifs (liftT X.K X.mg EE tt)∧QE (lF X scope cl xs C pins s0 H0 fp E) EE elt te
noncomputable def bW:DS→M Bool:=λ_=>M.ret true
theorem An (h:∀ (cl:List (Str×Addr)) (C:Addr) (pins:List (Addr×Obj)) (s0:WT) (H0:Hp) (fp:List Addr) (E:V0→WT→Prop) (EE:cz),fM (lF X scope cl xs C pins s0 H0 fp E) EE→QE (lF X scope cl xs C pins s0 H0 fp E) EE elt te):jH X scope xs [] elt bW te:=
 λcl C pins s0 H0 fp E EE hx=>⟨λgx s σ H Q I zz=>by obtain ⟨τ,ρ,G,ab,ok⟩:=zz;exact Kq gx s σ H Q I (ok H ρ .refl ab),h cl C pins s0 H0 fp E EE hx⟩
theorem Ao {c:Expr} (h:∀ (cl:List (Str×Addr)) (C:Addr) (pins:List (Addr×Obj)) (s0:WT) (H0:Hp) (fp:List Addr) (E:V0→WT→Prop) (EE:cz),fM (lF X scope cl xs C pins s0 H0 fp E) EE→QT (lF X scope cl xs C pins s0 H0 fp E) EE c tt∧QE (lF X scope cl xs C pins s0 H0 fp E) EE elt te):jH X scope xs [c] elt tt te:=
 λcl C pins s0 H0 fp E EE hx=>⟨Kr (h cl C pins s0 H0 fp E EE hx).1,(h cl C pins s0 H0 fp E EE hx).2⟩
noncomputable def lG (X:Cx):Prop:=∃ gf gr L,X.stack=gf::gr∧X.env.frame=gf.frame∧gf.frame=some L
theorem FI (hx:fM X EE) (hst:lG X) (S:bf X.env.scope X.N scope xs ks) (how:Own X scope xs ks tg ow) (hO:iP X.K X.mg ow gO) (hc:X.calm=true) (ha:QE X EE iter m) (hb:jH X scope xs ifs elt tt te) (hs:∀ x,foldedSetIterable iter X.env x=pure x:=by intro _;rfl) :
  QE X EE (.ListComp elt [⟨tg,iter,ifs,0⟩] scope pos) (dF gO ks m tt te):=PE.mono (nT (tt:=λσ=>liftT X.K X.mg (mj EE σ) tt) (te:=λσ=>bJ X.K X.mg (mj EE σ) te) hx hst S how hc (PI.any ha) (λσ cl C pins s0 H0 fp E=>hb cl C pins s0 H0 fp E _) hs) λ_ _ _ h=>Am hO h
theorem ve (hO:iP X.K X.mg ow gO) {Q:VK} {H0:Hp} {σ:L2.St} {ρ0:List Addr} {G0:DH} {τ:DS} (lo:Int) (n:Nat) (ab:Ab X.K X.mg σ H0 τ ρ0 G0)
  (ok:iM X.K X.mg EE H0 σ τ ρ0 (bU gO ks tt te G0.length ((Xz n).map λ(k:Nat)=>.int (lo+(k:Int))) τ (G0++[.lst []])) Q) :
  ∀ D,H0 D=none→∃ W:Nat→Nat→Hp→Prop,(∃ m,W 0 m (upd H0 D (.lst [])))∧∀ i m H,W i m H →
   ((qY lo n).stop i H∧Q (.ref D) H)∨((qY lo n).go i H∧∀ x H',(qY lo n).qX i H x H'→∃ vs,ow x H' vs∧liftT X.K X.mg (mj EE σ) tt (vs.map some++mask ks σ) H' λb H2=>if b=true then bJ X.K X.mg (mj EE σ) te (vs.map some++mask ks σ) H2 λv H3=>∃ ys,H3 D=some (.lst ys)∧ys.length<WO∧∃ m',m'<m∧W (i+1) m' (upd H3 D (.lst (ys++[v]))) else ∃ m',m'<m∧W (i+1) m' H2):=
 ja hO (J:=qY lo n) _ (λi H ρ hi f=>by simpa [qY] using hi) (λi H ρ hi f=>by simpa [qY] using hi) (λi d H ρ x H' hd f y=>by
  obtain ⟨rfl,rfl⟩:=y
  rw [Xn] at hd
  cases q:(Xz n)[i]? with
  | none=>rw [q] at hd;cases hd
  | some k=>
   rw [q] at hd
   obtain ⟨hk,e⟩:=WS.mp q
   rw [abA] at e
   subst e
   cases hd
   exact ⟨.refl,by unfold Rep;rfl⟩) ab ok
variable {ma:DS→M (List D)}
theorem vg (hO:iP X.K X.mg ow gO) {σ:L2.St} {H:Hp} {Q:VK} (h:bJ X.K X.mg EE (cJ eV gO ks ma tt te) σ H Q):rK (HN (gU X.K X.mg EE ma)) ks ow (liftT X.K X.mg (mj EE σ) tt) (bJ X.K X.mg (mj EE σ) te) σ H Q:=by
 obtain ⟨τ,ρ,G,ab,ok⟩:=i7 (k:=λτ ds G=>match eV ds with | some xs=>bU gO ks tt te G.length xs τ (G++[.lst []]) | none=>.stuck) h
 refine ⟨τ,ρ,G,ab,?_⟩
 cases e:ma τ G with
 | stuck=>rw [e] at ok;exact ok
 | bH c G'=>rw [e] at ok;exact ok
 | ok ds G'=>
  rw [e] at ok
  intro vs H1 ρ1 f1 gn r1
  obtain ⟨τ2,ρ2,G2,d2,bV,r2,aK⟩:=ok vs H1 ρ1 f1 gn r1
  cases q:eV d2 with
  | none=>rw [q] at aK;exact aK.elim
  | some xs=>
   rw [q] at aK
   unfold eV at q
   split at q
   ·rename_i j
    split at q
    ·rename_i hj
     cases q
     obtain ⟨v,rfl,h1⟩:=ir r2
     unfold Rep at h1;subst h1
     exact ⟨j,rfl,hj.1,hj.2,ve hO 0 j.toNat bV aK⟩
    ·cases q
   ·cases q
theorem vh (hO:iP X.K X.mg ow gO) {σ:L2.St} {H:Hp} {Q:VK} (h:bJ X.K X.mg EE (cJ nI gO ks ma tt te) σ H Q):rK (HP (gU X.K X.mg EE ma)) ks ow (liftT X.K X.mg (mj EE σ) tt) (bJ X.K X.mg (mj EE σ) te) σ H Q:=by
 obtain ⟨τ,ρ,G,ab,ok⟩:=i7 (k:=λτ ds G=>match nI ds with | some xs=>bU gO ks tt te G.length xs τ (G++[.lst []]) | none=>.stuck) h
 refine ⟨τ,ρ,G,ab,?_⟩
 cases e:ma τ G with
 | stuck=>rw [e] at ok;exact ok
 | bH c G'=>rw [e] at ok;exact ok
 | ok ds G'=>
  rw [e] at ok
  intro vs H1 ρ1 f1 gn r1
  obtain ⟨τ2,ρ2,G2,d2,bV,r2,aK⟩:=ok vs H1 ρ1 f1 gn r1
  cases q:nI d2 with
  | none=>rw [q] at aK;exact aK.elim
  | some xs=>
   rw [q] at aK
   unfold nI at q
   split at q
   ·rename_i i j
    split at q
    ·rename_i hj
     cases q
     obtain ⟨v,w,rfl,h1,h2⟩:=yS r2
     unfold Rep at h1 h2;subst h1 h2
     exact ⟨i,j,rfl,hj,ve hO i (j - i).toNat bV aK⟩
    ·cases q
   ·cases q
theorem Cr {t:TE} (hl:∀ σ H Q,bJ X.K X.mg EE me σ H Q→t σ H Q) {Dd:Ends} {σ:L2.St} {H:Hp} (h:gg X.K X.mg EE (aN i me) Dd σ H):IW t (uL i) Dd σ H:=by
 obtain ⟨τ,ρ,G,ab,ok⟩:=h
 refine hl σ H (λv H1=>uL i v σ H1 Dd.nx) ⟨τ,ρ,G,ab,?_⟩
 dsimp only [aN,bN] at ok
 cases e:me τ G with
 | stuck=>rw [e] at ok;exact ok
 | bH c G'=>rw [e] at ok;exact λH' ρ' f aZ=>ok σ H' ρ' f aZ
 | ok d G'=>rw [e] at ok;exact λv H' ρ' f aZ r=>ok _ H' ρ' f (aZ.set r)
theorem Aq {p pc:Pos} (hx:fM X EE) (hst:lG X) (S:bf X.env.scope X.N scope xs ks) (how:Own X scope xs ks tg ow) (hO:iP X.K X.mg ow gO) (hc:X.calm=true) (hm:X.mg "range"=none) (ha:QA X EE [a] ma) (hb:jH X scope xs ifs elt tt te) (qD:Gl X "range":=by rfl) (Ky:Xh [a] X.env=[(false,eval a X.env)]:=by rfl)
  (hs:∀ x,foldedSetIterable (.Call (.Name "range" p) [a] [] pc) X.env x=pure x:=by intro _;rfl) :
  QE X EE (.ListComp elt [⟨tg,.Call (.Name "range" p) [a] [] pc,ifs,0⟩] scope pos) (cJ eV gO ks ma tt te):=PE.mono (nT (tt:=λσ=>liftT X.K X.mg (mj EE σ) tt) (te:=λσ=>bJ X.K X.mg (mj EE σ) te) hx hst S how hc (qZ qD hm ha Ky) (λσ cl C pins s0 H0 fp E=>hb cl C pins s0 H0 fp E _) hs) λ_ _ _ h=>vg hO h
theorem Ar {p pc:Pos} (hx:fM X EE) (hst:lG X) (S:bf X.env.scope X.N scope xs ks) (how:Own X scope xs ks tg ow) (hO:iP X.K X.mg ow gO) (hc:X.calm=true) (hm:X.mg "range"=none) (ha:QA X EE [a,b] ma) (hb:jH X scope xs ifs elt tt te) (qD:Gl X "range":=by rfl) (Ky:Xh [a,b] X.env=[(false,eval a X.env),(false,eval b X.env)]:=by rfl) (hs2:Xh [b] X.env=[(false,eval b X.env)]:=by rfl)
  (hs:∀ x,foldedSetIterable (.Call (.Name "range" p) [a,b] [] pc) X.env x=pure x:=by intro _;rfl) :
  QE X EE (.ListComp elt [⟨tg,.Call (.Name "range" p) [a,b] [] pc,ifs,0⟩] scope pos) (cJ nI gO ks ma tt te):=PE.mono (nT (tt:=λσ=>liftT X.K X.mg (mj EE σ) tt) (te:=λσ=>bJ X.K X.mg (mj EE σ) te) hx hst S how hc (zP qD hm ha Ky hs2) (λσ cl C pins s0 H0 fp E=>hb cl C pins s0 H0 fp E _) hs) λ_ _ _ h=>vh hO h
end
theorem FJ {k:Nat} (r:cZ k A):A.units+600<cLine:=by have:=r.un;nofun
theorem Nl {EE:cz} {f:Addr} {pos:Pos} (hm:X.mg x=some (.ref f)) (hg:Gl X x:=by rfl) (hd:(x==("__debug__":Str))=false:=by decide):QE X EE (.Name x pos) (eC (.fn x)):=
 E8 (yG hg hm (v:=.ref f) rfl hd) λ_ _=>by unfold Rep;exact ⟨f,rfl,hm⟩
noncomputable def bg:Expr→Bool
 | .Starred ..=>false
 | _=>true
noncomputable def plainT:Expr→Bool
 | .UnaryOp .Not _ _=>false
 | .BoolOp ..=>false
 | .IfExp ..=>false
 | .Compare ..=>false
 | _=>true
noncomputable def gX:Expr→Bool
 | .Set ..=>false
 | _=>true
noncomputable def mK:Expr→Bool
 | .ListComp ..=>false
 | .SetComp ..=>false
 | .DictComp ..=>false
 | _=>true
noncomputable def oS:Expr→Bool
 | .Call (.Name _ _) [] [] _=>false
 | _=>true
noncomputable def yV:Expr→Bool
 | .Slice ..=>false
 | _=>true
noncomputable def aq:List Expr→Bool
 | []=>true
 | e::es=>bg e&&aq es
theorem aO (h:bg e=true) (es:List Expr) (env:Env):Xh (e::es) env=(false,eval e env)::Xh es env:=by
 cases e<;>first | rfl | cases h
theorem As (h:plainT e=true) (env:Env) (whole:Sem V0):isTrue e env whole=(do let v ← whole;standAt e.pos;holding [v] (truthy v)):=by
 cases e<;>first | rfl | cases h | (rename_i op _ _;cases op<;>first | rfl | cases h)
theorem iw (h:gX e=true) (env:Env) (x:V0):foldedSetIterable e env x=pure x:=by
 cases e<;>first | rfl | cases h
theorem nU (h:mK e=true) (t:Option Expr) (l:Nat) (env:Env):swapsWith e t l env=pure false:=by
 cases e<;>first | rfl | cases h
theorem gD (h:oS e=true) (n:Str) (env:Env):attributeBase e n env (eval e env)=eval e env:=by
 unfold attributeBase
 split
 ·cases h
 ·rfl
theorem Nm (h:yV e=true):nP e:=λo i=>by
 cases e<;>first | rfl | cases h
theorem FL (h:gX e=true) (op:CmpOp):behindInMarks op e=false:=by
 cases e<;>first | rfl | cases h
theorem aY {env:Env} {pos:Pos}:∀ {es:List Expr},aq es=true→(backTo pos (Xh es env)).any (·.1)=false
 | [],_=>rfl
 | e::es,h=>by
  have h':bg e=true∧aq es=true:=by simpa [aq] using h
  rw [aO h'.1]
  have ih:=aY (env:=env) (pos:=pos) h'.2
  show (false||(backTo pos (Xh es env)).any (·.1))=false
  rw [ih];rfl
theorem rL {env:Env} {pos:Pos}:∀ {es:List Expr},aq es=true→(backTo pos (Xh es env)).all (λx=>!x.1)=true
 | [],_=>rfl
 | e::es,h=>by
  have h':bg e=true∧aq es=true:=by simpa [aq] using h
  rw [aO h'.1]
  have ih:=rL (env:=env) (pos:=pos) h'.2
  show (!false&&(backTo pos (Xh es env)).all (λx=>!x.1))=true
  rw [ih];rfl
theorem xR (h:aq es=true) (hl:es.length<30):((backTo pos (Xh es env)).all (λx=>!x.1)&&(backToKw pos (keywordEach [] env)).all (λx=>x.1.isSome)
   && decide (es.length+([]:List Keyword).length+(if ([]:List Keyword).isEmpty then 0 else 1)<30))=true:=by
 rw [rL h]
 simp only [Bool.true_and,X8,decide_eq_true_eq]
 exact ⟨rfl,by simpa using hl⟩
section
variable {X:Cx} {EE:cz} {a b c e o:Expr} {es:List Expr} {ma mb mc me mo:DS→M D} {pos p apos cpos:Pos} {m:DS→M (List D)} {ms mt:MS} {x:Str} {ks:List Bool} {tt:DS→M Bool} {te:DS→M D}
theorem FN {m:DS→M D} (ha:QE X EE e m) (hr:QA X EE es r) (h:bg e=true:=by rfl):QA X EE (e::es) (aa m r):=Fc ha hr (aO h _ _)
theorem Kz (i:Nat) (hv:Bx X.env.scope x) (hd:(x==("__debug__":Str))=false∧(x==("__classdict__":Str))=false) (hN:X.N[i]?=some x:=by rfl):QE X EE (.Name x pos) (af i):=JL i hN hv hd.1 hd.2
theorem Nn {f:Addr} (hm:X.mg x=some (.ref f)) (hg:Gl X x) (hd:(x==("__debug__":Str))=false∧(x==("__classdict__":Str))=false):QE X EE (.Name x pos) (eC (.fn x)):=Nl hm hg hd.1
theorem Ct (ha:QE X EE a ma) (hb:QE X EE b mb) (h:yV b=true:=by rfl):QE X EE (.Subscript a b pos) (ak aT ma mb):=B4 ha hb (Nm h)
theorem KA (ho:iK X (compareOp op) (rD X EE f)) (ha:QE X EE a ma) (hb:QE X EE b mb) (h:gX b=true:=by rfl):QT X EE (.Compare a [op] [b] pos) (fH (ak f ma mb)):=J5 ho ha hb (FL h _)
theorem KC (ha:QE X EE a ma) (h:plainT a=true:=by rfl):QT X EE a (iH kr ma):=JX ha (As h _)
theorem lH {id:String} {f:List D→M D} (hc:eF X (.builtin id) (Fz X EE f)) (hm:X.mg x=none) (hg:Gl X x) (hv:bootBuiltins x=some (.builtin id)) (ha:QA X EE (e::es) m) (hn:x≠"__name__":=by decide) (hdb:(x==("__debug__":Str))=false:=by decide) (h:aq (e::es)=true:=by rfl) :
  QE X EE (.Call (.Name x p) (e::es) [] pos) (aj f m):=by
 have h':bg e=true∧aq es=true:=by simpa [aq] using h
 exact BZ hc oK hm ha hg hv hn hdb (aO h'.1 _ _) (aY h'.2)
theorem rM {id:String} {f:List D→M D} (hc:eF X (.type id) (Fz X EE f)) (hm:X.mg x=none) (hg:Gl X x) (hv:bootBuiltins x=some (.type id)) (ha:QA X EE (e::es) m) (hn:x≠"__name__":=by decide) (hdb:(x==("__debug__":Str))=false:=by decide) (h:aq (e::es)=true:=by rfl) :
  QE X EE (.Call (.Name x p) (e::es) [] pos) (aj f m):=by
 have h':bg e=true∧aq es=true:=by simpa [aq] using h
 exact Ac hc oK hm ha hg hv hn hdb (aO h'.1 _ _) (aY h'.2)
theorem KD (hm:X.mg "len"=none) (hg:Gl X "len") (ha:QA X EE [e] m) (h:aq [e]=true:=by rfl):QE X EE (.Call (.Name "len" p) [e] [] pos) (aj cA m):=lH Ae hm hg PySem.boot_len ha (by decide) (by decide) h
theorem FO (hc:X.calm=true) (hm:X.mg "max"=none) (hg:Gl X "max") (ha:QA X EE [e,a] m) (h:aq [e,a]=true:=by rfl):QE X EE (.Call (.Name "max" p) [e,a] [] pos) (aj (gq λi j=>if j > i then j else i) m):=lH (Af hc) hm hg PyProof.Rows.boot_max ha (by decide) (by decide) h
theorem FP (hc:X.calm=true) (hm:X.mg "min"=none) (hg:Gl X "min") (ha:QA X EE [e,a] m) (h:aq [e,a]=true:=by rfl):QE X EE (.Call (.Name "min" p) [e,a] [] pos) (aj (gq λi j=>if j<i then j else i) m):=lH (Ag hc) hm hg PyProof.Rows.boot_min ha (by decide) (by decide) h
theorem KG (c:Ty) {pt:Pos} (hc:c≠.eO) (hm:X.mg "isinstance"=none) (hmt:X.mg x=none) (hg:Gl X "isinstance") (hgt:Gl X x) (ha:QE X EE a ma) (hb:bootBuiltins x=some (.type c.nm)) (hnt:x≠"__name__") (hdt:(x==("__debug__":Str))=false) (h:bg a=true:=by rfl) :
  QE X EE (.Call (.Name "isinstance" p) [a,.Name x pt] [] pos) (FA c ma):=Kl c hc hm hmt ha hb hg hgt hnt hdt (aO h _ _) (aO rfl _ _) (aY (es:=[.Name x pt]) rfl)
theorem FQ {CX:nN} {k:Nat} {f:Addr} (F:kj X.prog X.w X.K X.mg X.base CX k f fd ps (gC X.K X.mg n mf)) (hr:cZ k X.A) (hm:X.mg x=some (.ref f)) (hk:XX X.K (.ref f)=true) (hb:Binds X.K fd ps []) (hx:HU CX X EE) (hg:Gl X x)
  (hd:(x==("__debug__":Str))=false∧(x==("__classdict__":Str))=false) (ha:QA X EE (e::es) m) (h:aq (e::es)=true:=by rfl):QE X EE (.Call (.Name x p) (e::es) [] pos) (av n mf m):=by
 have h':bg e=true∧aq es=true:=by simpa [aq] using h
 exact Fx F hr hm hk hb hx ha hg hd.1 (aO h'.1 _ _) (aY h'.2)
theorem Au (ho:QE X EE o mo) (ha:QA X EE [e] m) (hb:oS o=true:=by rfl) (h:aq [e]=true:=by rfl) (hline:(apos.endLine==cpos.line)=true:=by rfl):QE X EE (.Call (.Attribute o "append" apos) [e] [] cpos) (bK "list" aS mo m):=by
 have h':bg e=true∧aq []=true:=by simpa [aq] using h
 exact Ah ho ha (gD hb _ _) (xR h (by simp)) hline (aO h'.1 _ _) (aY (es:=[]) rfl)
theorem KH (ho:QE X EE o mo) (hb:oS o=true:=by rfl) (hline:(apos.endLine==cpos.line)=true:=by rfl):QE X EE (.Call (.Attribute o "pop" apos) [] [] cpos) (bK "list" kN mo ah):=Kn ho (gD hb _ _) hline
theorem FT (he:QE X EE a ma) (h:mK a=true:=by rfl):QS X EE (.Expr a pos) (eU ma):=Fq he (nU h _ _ _)
theorem KI {pos':Pos} (hN:X.N.Nodup) (hx:Loc X.env.scope x) (he:QE X EE a ma) (hf:X.fn x=true∨X.env.scope.names.lookup x=some .local) (hi:X.N[i]?=some x:=by rfl) (h:mK a=true:=by rfl):QS X EE (.Assign [.Name x pos'] a pos) (aN i ma):=Kf hN he hi hx (nU h _ _ _) hf
theorem FU (hN:X.N.Nodup) (hx:Loc X.env.scope x) (hf:X.fn x=true∨X.env.scope.names.lookup x=some .local) (hi:X.N[i]?=some x:=by rfl):QG X (.Name x pos) (gN i):=Ft hN hi hx hf
theorem KJ (hp:PassesOwn (model X.prog X.w) X.A X.env X.xe) (hc:X.calm=true) (ha:QE X EE a ma) (hg:QG X tg g) (hb:uC X EE body ms) (h:gX a=true:=by rfl):QS X EE (.For tg a body [] pos) (gp g ma ms):=Kg hp hc ha hg hb (iw h _)
theorem Cu {pc:Pos} (hp:PassesOwn (model X.prog X.w) X.A X.env X.xe) (hc:X.calm=true) (hm:X.mg "range"=none) (qD:Gl X "range") (ha:QA X EE [a] m) (hg:QG X tg g) (hb:uC X EE body ms) (h:bg a=true:=by rfl) :
  QS X EE (.For tg (.Call (.Name "range" p) [a] [] pc) body [] pos) (fL eV g m ms):=Cd hp hc hm ha hg hb qD (aO h _ _) (iw rfl _)
variable {scope:Scope} {elt iter tg:Expr} {xs:List Str} {ow:V→Hp→List V→Prop} {gO:D→Option (List D)} {ifs:List Expr} {px:Pos}
theorem FW (hx:fM X EE) (hst:lG X) (S:bf X.env.scope X.N scope xs ks) (how:Own X scope xs ks tg ow) (hO:iP X.K X.mg ow gO) (hc:X.calm=true) (ha:QE X EE iter ma) (hb:jH X scope xs ifs elt tt te) (h:gX iter=true:=by rfl):QE X EE (.ListComp elt [⟨tg,iter,ifs,0⟩] scope pos) (dF gO ks ma tt te):=FI hx hst S how hO hc ha hb (iw h _)
theorem Av {pc:Pos} (hx:fM X EE) (hst:lG X) (S:bf X.env.scope X.N scope xs ks) (how:Own X scope xs ks tg ow) (hO:iP X.K X.mg ow gO) (hc:X.calm=true) (hm:X.mg "range"=none) (qD:Gl X "range") (ha:QA X EE [a] m) (hb:jH X scope xs ifs elt tt te) (h:bg a=true:=by rfl) :
  QE X EE (.ListComp elt [⟨tg,.Call (.Name "range" p) [a] [] pc,ifs,0⟩] scope pos) (cJ eV gO ks m tt te):=Aq hx hst S how hO hc hm ha hb qD (aO h _ _) (iw rfl _)
theorem Aw {pc:Pos} (hx:fM X EE) (hst:lG X) (S:bf X.env.scope X.N scope xs ks) (how:Own X scope xs ks tg ow) (hO:iP X.K X.mg ow gO) (hc:X.calm=true) (hm:X.mg "range"=none) (qD:Gl X "range") (ha:QA X EE [a,b] m) (hb:jH X scope xs ifs elt tt te) (h:bg a=true:=by rfl) (h2:bg b=true:=by rfl) :
  QE X EE (.ListComp elt [⟨tg,.Call (.Name "range" p) [a,b] [] pc,ifs,0⟩] scope pos) (cJ nI gO ks m tt te):=Ar hx hst S how hO hc hm ha hb qD (by rw [aO h,aO h2];rfl) (aO h2 _ _) (iw rfl _)
theorem Ax {l:Nat} (hb:(env.blockKind==.function)=true) (hl:env.scope.names.lookup y=some .local) (hp:(py.line==pos.line)=true) (hq:(scope.names.any λx=>x.1==y&&(x.2==.local||x.2==.cell))=false):swapsWith (.ListComp elt gens scope pos) (some (.Name y py)) l env=pure true:=by
 unfold swapsWith
 dsimp only
 show (pure (env.blockKind==.function&&env.kindOf y==some .local&&py.line==pos.line&&!(scope.names.any λx=>x.1==y&&(x.2==.local||x.2==.cell))):Sem Bool)=pure true
 have e:(env.kindOf y==some NameKind.local)=true:=by rw [show env.kindOf y=some NameKind.local from hl];rfl
 rw [hb,e,hp,hq];rfl
theorem KL (S:bf X.env.scope X.N scope xs ks) (h:x∈xs):Bx (lF X scope cl xs C pins s0 H0 fp E).env.scope x:=.inl (oQ (cl:=cl) (C:=C) S h)
theorem FY (S:bf X.env.scope X.N scope xs ks) (h:scope.names.lookup y=some .free):Bx (lF X scope cl xs C pins s0 H0 fp E).env.scope y:=.inr (mH (cl:=cl) (C:=C) S h)
theorem FZ (h:scope.names.lookup y=some .globalImplicit):Gl (lF X scope cl xs C pins s0 H0 fp E) y:=by
 show (compEnvC scope cl C X.env).kindOf y=some .globalImplicit
 have e:(compEnvC scope cl C X.env).kindOf y=(scope.names.lookup y).map (qJ X.env y):=dJ scope.names
 rw [e,h];rfl
end
section
open Builtin Builtin.Str
section
variable {X:Cx} {EE:cz}
noncomputable def mL:List D→M D
 | [d]=>λG=>match aA G d with
  | some (.lst xs)=>aP xs G
  | some (.tup xs)=>aP xs G
  | _=>.stuck
 | _=>M.stop
theorem Ay:eF X (.type "list") (Fz X EE mL):=by
 intro pins s σ0 H xs us Q I r zu
 obtain ⟨σ,τ,ρ,G,ds,ab,Ep,ok⟩:=zu
 match ds,ok with
 | [],ok=>exact ok.elim
 | _::_::_,ok=>exact ok.elim
 | [y],ok=>
  obtain ⟨yv,rfl,ry⟩:=ir Ep
  dsimp only [mL] at ok
  cases q:aA G y with
  | none=>rw [q] at ok;exact ok.elim
  | some sk=>
   rw [q] at ok
   cases sk with
   | str _=>exact ok.elim
   | tup ys=>
    obtain ⟨p,vs,rfl,sq,rs⟩:=fW ry q
    exact lB pins s σ0 H _ us Q I r ⟨p,vs,rfl,.inr sq,λl hl=>(mF ab rs ok).2 l hl⟩
   | lst ys=>
    obtain ⟨p,vs,rfl,sq,rs⟩:=ck (pins:=pins) (σ0:=σ0) (s:=s) ab.hp ry q
    exact lB pins s σ0 H _ us Q I r ⟨p,vs,rfl,.inl sq,λl hl=>(mF ab rs ok).2 l hl⟩
variable {x:Str} {p pos apos cpos:Pos} {e o:Expr} {es:List Expr} {m:DS→M (List D)} {mo:DS→M D}
theorem boot_tuple:bootBuiltins "tuple"=some (.type "tuple"):=by symm
theorem boot_list:bootBuiltins "list"=some (.type "list"):=by symm
theorem F0 (hm:X.mg "list"=none) (hg:Gl X "list") (ha:QA X EE [e] m) (h:aq [e]=true:=by rfl):QE X EE (.Call (.Name "list" p) [e] [] pos) (aj mL m):=rM Ay hm hg boot_list ha (by decide) (by decide) h
noncomputable def jb (i n:Nat) (k9:Str→Option (List D→M D)) (m:DS→M (List D)):DS→M D:=λτ G=>match τ[i]? with
 | some (some (.fn y))=>match k9 y with
  | some mf=>av n mf m τ G
  | none=>.stuck
 | _=>.stuck
theorem Cv {CX:nN} {n:Nat} {k9:Str→Option (List D→M D)} (hN:X.N[i]?=some x) (hv:Bx X.env.scope x) (hd:(x==("__debug__":Str))=false∧(x==("__classdict__":Str))=false)
  (hF:∀ y mf,k9 y=some mf→∃ k f fd ps,kj X.prog X.w X.K X.mg X.base CX k f fd ps (gC X.K X.mg n mf)∧cZ k X.A∧X.mg y=some (.ref f)∧XX X.K (.ref f)=true∧Binds X.K fd ps []) (hx:HU CX X EE)
  (ha:QA X EE (e::es) m) (h:aq (e::es)=true:=by rfl):QE X EE (.Call (.Name x p) (e::es) [] pos) (jb i n k9 m):=by
 have h':bg e=true∧aq es=true:=by simpa [aq] using h
 intro pins s σ H Q I hq
 obtain ⟨τ,ρ,G,ab,ok⟩:=hq
 unfold jb at ok
 cases q:τ[i]? with
 | none=>rw [q] at ok;exact ok.elim
 | some od=>
  cases od with
  | none=>rw [q] at ok;exact ok.elim
  | some d=>
   rw [q] at ok
   cases d<;>try exact ok.elim
   rename_i y
   dsimp only at ok
   cases qt:k9 y with
   | none=>rw [qt] at ok;exact ok.elim
   | some mf=>
    rw [qt] at ok
    obtain ⟨k,f,fd,ps,F,hr,hm,hk,hb⟩:=hF y mf qt
    obtain ⟨v,ev,rv⟩:=ab.st.2 i (.fn y) q
    unfold Rep at rv
    obtain ⟨a,rfl,ha'⟩:=rv
    rw [hm] at ha'
    cases ha'
    obtain ⟨τ1,ρ1,G1,gn,Bt⟩:=i7 (k:=λ_ ds=>if ds.length=n then mf ds else M.stop) ⟨τ,ρ,G,ab,ok⟩
    refine Xw (XH (xr hN hv hd.1 hd.2 pins s σ H (λv' H'=>v'=.ref f∧H'=H) I ⟨_,ev,rfl,rfl⟩) (λu s0 hu=>?_) λ_ _ z=>z)
    obtain ⟨v',H',I0,r0,rfl,rfl⟩:=hu
    cases r0
    refine aaq (h₀:=X.base) I0.ok.mod.Eu hk (cY (ha pos pins s0 σ H' _ I0 ⟨τ1,ρ1,G1,gn,Bt⟩) λus s1 ⟨vs,H1,I1,r,q⟩=>⟨I1.xo,?_⟩) (aO h'.1 _ _) (aY h'.2)
    obtain ⟨τ2,ρ2,G2,ds,bV,rs,aK⟩:=q
    by_cases hn:ds.length=n
    ·rw [if_pos hn] at aK
     exact tE F hr hb hx I1 r bV rs hn aK
    ·rw [if_neg hn] at aK
     exact aK.elim
end
end
section
open Builtin Builtin.Str
section
variable {X:Cx} {EE:cz}
noncomputable def TQ (f:D→M D) (m:DS→M D):DS→M D:=λτ=>(m τ).bind f
variable {o:Expr} {mo:DS→M D} {y z:Str} {j1 j2:Nat} {p1 p2 apos cpos:Pos}
end
end
noncomputable def KN (CX:nN) (X:Cx) (n:Nat):List (Str×(List D→M D))→Prop
 | []=>True
 | q::r=>(∃ k f fd ps,kj X.prog X.w X.K X.mg X.base CX k f fd ps (gC X.K X.mg n q.2)∧cZ k X.A∧X.mg q.1=some (.ref f)∧XX X.K (.ref f)=true∧Binds X.K fd ps [])∧KN CX X n r
theorem Np {CX:nN} {X:Cx} {n:Nat}:∀ {l:List (Str×(List D→M D))},KN CX X n l→∀ (y:Str) (mf:List D→M D),l.lookup y=some mf→∃ k f fd ps,kj X.prog X.w X.K X.mg X.base CX k f fd ps (gC X.K X.mg n mf)∧cZ k X.A∧X.mg y=some (.ref f)∧XX X.K (.ref f)=true∧Binds X.K fd ps []
 | [],_,_,_,h=>nomatch h
 | q::r,⟨h1,hr⟩,y,mf,h=>by
  obtain ⟨qn,qm⟩:=q
  rw [XS] at h
  cases e:y==qn with
  | true=>
   rw [e] at h
   cases h
   have:=eq_of_beq e
   subst this
   exact h1
  | false=>rw [e] at h;exact Np hr y mf h
theorem Qg (ha:QE X EE e m) (h:bg e=true) (hr:QA X EE es r):QA X EE (e::es) (aa m r):=FN ha hr h
theorem xS:typeLookup (.type "list_reverseiterator") (Y5 "__len__")=(pure none:Sem (Option V0)):=by
 rw [typeLookup_type,builtinLookup_eq_fast];rfl
theorem Cw:typeLookup (.type "list_reverseiterator") (Y5 "__length_hint__")=(pure (some (.builtin "list_reverseiterator.__length_hint__")):Sem (Option V0)):=by
 rw [typeLookup_type,builtinLookup_eq_fast];rfl
theorem Cy:isSubtype (.type "list_reverseiterator") (.type "list_reverseiterator")=(pure true:Sem Bool):=by
 rw [isSubtype_type];rfl
theorem Cz {M:Model} {i:Int} {Q:Bool→WT→Prop} (hr:s.heap.IsRevIter it l i) (h:Q false s):Xe M A (aae (.ref it)) Q E s:=by
 have ty:s.TypeIs (.ref it) "list_reverseiterator":=by
  obtain ⟨o,e,c,_⟩:=hr
  exact ⟨o,e,c⟩
 unfold aae
 refine Us (aa4 ty xS ?_)
 refine Us (aa4 ty Cw ?_)
 have e1:splitId "list_reverseiterator.__length_hint__"=some ("list_reverseiterator","__length_hint__"):=by symm
 dsimp only
 rw [e1]
 dsimp only
 refine Us (aaK ty Cy ?_)
 rw [if_neg (by decide)]
 split
 ·rw [if_neg (by decide)]
  exact WY h
 ·rename_i hs
  exact absurd (by symm) hs
theorem oU {prog:Xx} {w:XR} {R:Result→WT→Prop} (hh:A.handled=none) (hit:s.heap.IsRevIter it l ((items.size:Int) - 1)) (hl:s.heap.IsList l items) (hne:l≠it) (hz:items.size≤WO) (S:Addr) (res:V0) (c₀:Nat)
  (hS:s.heap.get? S=some {cls:=.type "list",data:=.seq #[] c₀}) (TR:S≠l)
  (hR:∀ (s':WT) (acc':Array V0) (c':Nat),Moved [S,it] (λa b=>b=a) s s'→s'.heap.get? S=some {cls:=.type "list",data:=.seq acc' c'}→ItemsOf (λi v=>items[items.size - 1 - i]?=some v) acc' items.size→R (.ok (.ret res)) s') :
  Xe (model prog w) A.in1 (Zn (.ref S) (.ref it) res) (λfin s'=>match fin with
   | .done f=>R (.ok f) s'
   | .again c'=>c'.quiet=true∧codeAny (model prog w) A c' R s') (λe s'=>R (.error e) s') s:=by
 have Nq:S≠it:=by
  rintro rfl
  obtain ⟨o,e,c,d⟩:=hit
  rw [hS] at e;cases e
  exact absurd (Value.type.inj c) (by decide)
 have ty:s.TypeIs (.ref it) "list_reverseiterator":=by
  obtain ⟨o,e,c,_⟩:=hit
  exact ⟨o,e,c⟩
 have Wk:=Walks.toS (Walks.listRev (prog:=prog) (w:=w) (A:=A.in1) (show A.in1.handled=none from hh) it l hne items)
 have key:=codeAny_extend_loopS Wk hz S (by simp [Nq,TR]) res items.size 0 (R:=R)
 unfold Zn
 refine Us (abK ty ?_)
 have h1:aaC (.ref S) (.ref it)=false:=by simp [aaC,Nq]
 rw [if_neg (by rw [h1];decide)]
 refine Us (Z6 hit ?_)
 refine Us (Z5 (Cz hit ?_))
 dsimp only
 split
 ·rename_i hs
  exact absurd hs (by symm)
 ·exact WY ⟨plainId_quiet F.plain_extend_loop _,key s #[] c₀ rfl (XQ _) ⟨XQ _,by simpa using hit,hl⟩ hS (ItemsOf.nil _) hR⟩
theorem qK {prog:Xx} {w:XR} {E:V0→WT→Prop} {Q:V0→WT→Prop} (hh:A.handled=none) (hit:s.heap.IsRevIter it l ((items.size:Int) - 1)) (hl:s.heap.IsList l items) (hne:l≠it) (hz:items.size≤WO)
  (hQ:∀ (h':Heap) (tk:Nat) (acc':Array V0) (c':Nat),(∀ b o,b≠it→s.heap.get? b=some o→h'.get? b=some o)→h'.get? s.heap.objs.size=some {cls:=.type "list",data:=.seq acc' c'}→ItemsOf (λi v=>items[items.size - 1 - i]?=some v) acc' items.size→Q (.ref s.heap.objs.size) {s with heap:=h',toks:=tk}) :
  Xe (model prog w) A (call (.type "list") [.ref it]) Q E s:=by
 have Qh:l<s.heap.objs.size:=by obtain ⟨o,e,_⟩:=hl;exact W3 e
 have TU:it<s.heap.objs.size:=by obtain ⟨o,e,_⟩:=hit;exact W3 e
 refine callType_codes (Q₁:=λv s1=>v=.ref s.heap.objs.size∧s1={s with heap:=s.heap.push {cls:=.type "list",data:=.seq #[]}}) F.called_list (F.typeCall_list_1 (.ref it)) F.entry_list_init (code_list_new (.ref it) ⟨rfl,rfl⟩) λobj s₁ h₁=>?_
 obtain ⟨rfl,rfl⟩:=h₁
 have hS:=W5 (o:={cls:=.type "list",data:=.seq #[]}) s.heap rfl
 refine ⟨⟨_,hS,rfl⟩,F.args_list_init_2 (.ref s.heap.objs.size) (.ref it),?_⟩
 have kp:∀ b o,s.heap.get? b=some o→(s.heap.push {cls:=.type "list",data:=.seq #[]}).get? b=some o:=λb o e=>WQ _ e
 unfold abt.«list.__init__»
 refine Us ?_
 unfold Builtin.List.listItems
 refine Us (Yv hS rfl (WY ?_))
 refine Us ?_
 unfold Builtin.List.listUpdate
 refine ab4 hS rfl ?_ (by simp [sizeLine_eq]) (by simp [sizeLine_eq])
 have TV:=Yp (aap λx=>#[]) hS rfl
 have uE:∀ b o,b≠s.heap.objs.size→(s.heap.push {cls:=.type "list",data:=.seq #[]}).get? b=some o→((s.heap.push {cls:=.type "list",data:=.seq #[]}).update s.heap.objs.size (aap λx=>#[])).get? b=some o:=λb o hb e=>(Yj _ _ (YE hb)).trans e
 refine Us (abm ?_)
 have up:∀ b o,s.heap.get? b=some o→((s.heap.push {cls:=.type "list",data:=.seq #[]}).update s.heap.objs.size (aap λx=>#[])).get? b=some o:=λb o e=>uE b o (Xa (W3 e)) (kp b o e)
 refine oU (l:=l) (items:=items) (show A.in1.handled=none from hh) ?_ ?_ hne hz s.heap.objs.size .none (if ((#[]:Array V0).size==(#[]:Array V0).size)=true then 0 else 0+1) ?_ (aaS Qh) ?_
 ·obtain ⟨o,e,r⟩:=hit
  exact ⟨o,up _ _ e,r⟩
 ·obtain ⟨o,e,r⟩:=hl
  exact ⟨o,up _ _ e,r⟩
 ·exact TV
 ·intro s' acc' c' hm hS' hacc
  rw [Moved.eq_with hm]
  refine ⟨rfl,hQ s'.heap s'.toks acc' c' (λb o hb e=>?_) hS' hacc⟩
  refine hm.heap b o ?_ (up b o e)
  simp [hb,Xa (W3 e)]
section
variable {X:Cx} {EE:cz} {a b c e o:Expr} {es:List Expr} {ma mb mo:DS→M D} {m:DS→M (List D)} {t:DS→M Bool} {ms:MS} {pos p p2 pos2 apos cpos:Pos}
noncomputable def fuel:Nat:=100000
noncomputable def fy (t:DS→M Bool) (ms:MS):Nat→MS
 | 0=>λ_ _=>.stuck
 | n+1=>λτ=>bN (t τ) (λc G=>if c=true then (match ms τ G with
   | .nx τ' G'=>fy t ms n τ' G'
   | .ct τ' G'=>fy t ms n τ' G'
   | .bk τ' G'=>.nx τ' G'
   | r=>r) else .nx τ G) λc G=>.xn c τ G
theorem E7.imp {r:Out Bool} {Q:Bool→Hp→Prop} (h:E7 X.K X.mg EE H σ τ ρ r Q) (i:∀ b H',Q b H'→Q' b H'):E7 X.K X.mg EE H σ τ ρ r Q':=by
 cases r with
 | stuck=>exact h
 | ok b G=>exact λH' ρ' f ab=>i b H' (h H' ρ' f ab)
 | bH c G=>exact h
theorem CA (hp:PassesOwn (model X.prog X.w) X.A X.env X.xe) (hc:QT X EE c t) (hb:uC X EE body ms):QS X EE (.While c body [] pos) (fy t ms n):=PS.mono (BD hp hc hb) λDd σ H h=>by
 obtain ⟨τ0,ρ0,G0,Kw,TX⟩:=h
 refine ⟨λm σ H=>∃ τ ρ G,Ab X.K X.mg σ H τ ρ G∧qH X.K X.mg EE H ρ Dd (fy t ms m τ G),⟨n,τ0,ρ0,G0,Kw,TX⟩,?_⟩
 rintro m σ H ⟨τ,ρ,G,ab,ok⟩
 cases m with
 | zero=>exact ok.elim
 | succ m=>
  obtain ⟨τ1,ρ1,G1,gn,Bt⟩:=BW (k:=λτ c G=>if c=true then (match ms τ G with
   | .nx τ' G'=>fy t ms m τ' G'
   | .ct τ' G'=>fy t ms m τ' G'
   | .bk τ' G'=>.nx τ' G'
   | r=>r) else .nx τ G) (show gg X.K X.mg EE (λτ=>bN (t τ) (λc G=>if c=true then (match ms τ G with
   | .nx τ' G'=>fy t ms m τ' G'
   | .ct τ' G'=>fy t ms m τ' G'
   | .bk τ' G'=>.nx τ' G'
   | r=>r) else .nx τ G) λc G=>.xn c τ G) Dd σ H from ⟨τ,ρ,G,ab,ok⟩)
  refine ⟨τ1,ρ1,G1,gn,Bt.imp λb H1 hq=>?_⟩
  obtain ⟨τ2,ρ2,G2,bV,aK⟩:=hq
  cases b with
  | false=>
   rw [if_neg XF] at aK ⊢
   exact aK σ H1 ρ2 .refl bV
  | true=>
   rw [if_pos rfl] at aK ⊢
   refine ⟨λσ' H'=>∃ τ ρ G,Ab X.K X.mg σ' H' τ ρ G∧qH X.K X.mg EE H' ρ Dd (fy t ms m τ G),λσ' H' w=>⟨m,YI _,w⟩,τ2,ρ2,G2,bV,?_⟩
   cases q:ms τ2 G2 with
   | stuck=>rw [q] at aK;exact aK
   | nx τ' G'=>rw [q] at aK;exact λσ' H' ρ' f aZ=>⟨τ',ρ',G',aZ,aK.fut f⟩
   | ct τ' G'=>rw [q] at aK;exact λσ' H' ρ' f aZ=>⟨τ',ρ',G',aZ,aK.fut f⟩
   | bk τ' G'=>rw [q] at aK;exact aK
   | rt d G'=>rw [q] at aK;exact aK
   | xn c τ' G'=>rw [q] at aK;exact aK
noncomputable def kF:List D→M D
 | [d]=>λG=>match aA G d with
  | some (.lst xs)=>aP xs.reverse G
  | _=>.stuck
 | _=>M.stop
theorem oV:bootBuiltins "reversed"=some (.type "reversed"):=by symm
theorem au.rev:∀ {ds:List D} {vs:List V},au K mg ρ H ds vs→au K mg ρ H ds.reverse vs.reverse
 | [],vs,h=>by unfold au at h;subst h;exact .nil
 | d::ds,vs,h=>by
  unfold au at h
  obtain ⟨v,r,rfl,h1,h2⟩:=h
  rw [XU,XU]
  exact (au.rev h2).append (.cons h1 .nil)
theorem Vals.app:∀ {xs ys:List V} {us vs:List V0},Vals xs us→Vals ys vs→Vals (xs++ys) (us++vs)
 | _,_,_,_,.nil,h=>h
 | _,_,_,_,.cons r t,h=>.cons r (Vals.app t h)
theorem Vals.rev:∀ {xs:List V} {us:List V0},Vals xs us→Vals xs.reverse us.reverse
 | _,_,.nil=>.nil
 | _,_,.cons r t=>by
  rw [XU,XU]
  exact Vals.app (Vals.rev t) (.cons r .nil)
theorem rN {its:List V0} {acc:Array V0} (h:ItemsOf (λi v=>its.toArray[its.toArray.size - 1 - i]?=some v) acc its.toArray.size):acc=its.reverse.toArray:=by
 obtain ⟨h1,h2⟩:=h
 have hs:its.toArray.size=its.length:=by simp
 rw [hs] at h1
 apply Array.ext_getElem?
 intro i
 by_cases hi:i<acc.size
 ·have e:=h2 i acc[i] (Zw hi)
  rw [Zw hi,← e]
  rw [ZX,ZX,aa9 (by nofun),hs]
 ·rw [ZP (by nofun),ZP (by simp;nofun)]
theorem xT (hc:X.calm=true) (hm1:X.mg "list"=none) (Qi:Gl X "list") (hm2:X.mg "reversed"=none) (Qj:Gl X "reversed") (ha:QA X EE [e] m) (h:aq [e]=true:=by rfl) :
  QE X EE (.Call (.Name "list" p) [.Call (.Name "reversed" p2) [e] [] pos2] [] pos) (aj kF m):=by
 have h':bg e=true∧aq []=true:=by simpa [aq] using h
 intro pins s σ H Q I hq
 have hq':=i7 (k:=λ_ ds=>kF ds) hq
 refine Xw (fq I Qi hm1 boot_list ?_ (by decide) (by decide))
 refine Xr ?_ (aO rfl _ _) (aY (es:=[]) rfl)
 rw [aO (e:=.Call (.Name "reversed" p2) [e] [] pos2) rfl]
 show Xe _ _ (spliced ((false,eval _ X.env)::backTo pos (Xh [] X.env))) _ _ s
 refine Yq ?_
 refine Xw (fq I Qj hm2 oV ?_ (by decide) (by decide))
 refine Xr (cY (ha pos2 pins s σ H _ I hq') λus s1 nQ=>?_) (aO h'.1 _ _) (aY (es:=[]) rfl)
 obtain ⟨vs,H1,I1,r1,τ,ρ,G,ds,ab,rs,ok⟩:=nQ
 match ds,ok with
 | [],ok=>exact ok.elim
 | _::_::_,ok=>exact ok.elim
 | [d],ok=>
  obtain ⟨x,rfl,rx⟩:=ir rs
  obtain ⟨u,rfl,ru⟩:=vals1 r1
  dsimp only [kF] at ok
  cases q:aA G d with
  | none=>rw [q] at ok;exact ok.elim
  | some sk=>
   rw [q] at ok
   cases sk with
   | tup zs=>exact ok.elim
   | str z=>exact ok.elim
   | lst zs=>
    dsimp only at ok
    obtain ⟨l,ys,rfl,sq,rv⟩:=ck (pins:=pins) (σ0:=σ) (s:=s1) ab.hp rx q
    cases ru
    obtain ⟨its,vv,pl,hz⟩:=I1.list sq
    have hlen:=vv.length
    have hl:=pl.isList
    have hlt:l<s1.heap.objs.size:=by obtain ⟨_,e,_⟩:=hl;exact W3 e
    refine call_reversed_list hl ?_
    refine ZL ?_
    refine ie (by first | exact I1.os.2 | exact XO _) <| qK (l:=l) (items:=its.toArray) (show X.A.handled=none from I.ok.hd hc) ⟨_,W5 _ rfl,rfl,rfl⟩ (hl.push _) (Xa hlt) (by simp;nofun) λh' tk acc' c' kp hS hacc ht=>?_
    have ea:=rN hacc
    subst ea
    obtain ⟨hlr,hn⟩:=mF ab rv.rev ok
    have hsz:(s1.heap.push (revObj l ((its.toArray.size:Int) - 1))).objs.size=s1.heap.objs.size+1:=XY ..
    refine ⟨.ref _,upd H1 _ (.lst ys.reverse),I1.laid (t':=tk) (λb o e=>kp b o (Xa (W3 e)) (WQ _ e)) ?_ ⟨hlr,its.reverse,c',Vals.rev vv,hS⟩,rfl,hn _ (I1.hok.fresh ?_)⟩
    ·show s1.heap.objs.size≤(s1.heap.push _).objs.size
     rw [hsz];nofun
    ·show s1.heap.objs.size≤(s1.heap.push _).objs.size
     rw [hsz];nofun
noncomputable def intsOf:List D→Option (List Int)
 | []=>some []
 | .int b::r=>(intsOf r).map (b::·)
 | _::_=>none
theorem oW {K:WV} {mg:Str→Option V0} {ρ:List Addr} {H:Hp}:∀ {ds:List D} {vs:List V} {us:List V0} {bs:List Int},au K mg ρ H ds vs→Vals vs us→intsOf ds=some bs→us.length=bs.length∧∀ (i:Nat) (v:V0),us[i]?=some v→∃ t,v=Value.int (bs.getD i 0) t
 | [],vs,us,bs,r,v,e=>by unfold au at r;subst r;cases v;cases e;exact ⟨rfl,λi v h=>by simp at h⟩
 | d::ds,vs,us,bs,r,v,e=>by
  unfold au at r
  obtain ⟨x,r',rfl,h1,h2⟩:=r
  cases v with
  | cons v1 v2=>
   cases d<;>try (cases e;done)
   rename_i b
   dsimp only [intsOf] at e
   cases q:intsOf ds with
   | none=>rw [q] at e;cases e
   | some bs'=>
    rw [q] at e;cases e
    unfold Rep at h1;subst h1
    obtain ⟨t,rfl⟩:=v1
    obtain ⟨hl,hi⟩:=oW h2 v2 q
    refine ⟨by simp [hl],λi v h=>?_⟩
    cases i with
    | zero=>simp at h;exact ⟨t,by simp [h]⟩
    | succ i=>obtain ⟨t',e'⟩:=hi i v (by simpa using h);exact ⟨t',by simpa using e'⟩
theorem preSum_eq (bs:List Int):∀ n,n≤bs.length→preSum (λi=>bs.getD i 0) n=(bs.take n).sum
 | 0,_=>by simp [preSum]
 | n+1,h=>by
  show preSum (λi=>bs.getD i 0) n+bs.getD n 0=_
  have:bs[n]?=some bs[n]:=W2 (by nofun)
  rw [preSum_eq bs n (by nofun),← List.take_append_getElem (show n<bs.length by nofun),List.sum_append,List.getD,this]
  rw [List.sum_singleton]
  rfl
noncomputable def tG:List D→M D
 | [d]=>λG=>match aA G d with
  | some (.lst xs)=>match intsOf xs with
   | some bs=>.ok (.int bs.sum) G
   | none=>.stuck
  | _=>.stuck
 | _=>M.stop
theorem Az (hc:X.calm=true):eF X (.builtin "sum") (Fz X EE tG):=by
 intro pins s σ0 H xs us Q I r zu
 obtain ⟨σ,τ,ρ,G,ds,ab,rs,ok⟩:=zu
 match ds,ok with
 | [],ok=>exact ok.elim
 | _::_::_,ok=>exact ok.elim
 | [d],ok=>
  obtain ⟨x,rfl,rx⟩:=ir rs
  obtain ⟨u,rfl,ru⟩:=vals1 r
  dsimp only [tG] at ok
  cases q:aA G d with
  | none=>rw [q] at ok;exact ok.elim
  | some sk=>
   rw [q] at ok
   cases sk with
   | tup zs=>exact ok.elim
   | str z=>exact ok.elim
   | lst zs=>
    dsimp only at ok
    cases qb:intsOf zs with
    | none=>rw [qb] at ok;exact ok.elim
    | some bs=>
     rw [qb] at ok
     obtain ⟨p,vs,rfl,sq,rv⟩:=ck (pins:=pins) (σ0:=σ0) (s:=s) ab.hp rx q
     cases ru
     obtain ⟨its,vv,pl,hz⟩:=I.list sq
     obtain ⟨hlen,hints⟩:=oW rv vv qb
     have hl:=pl.isList
     have hlt:p<s.heap.objs.size:=by obtain ⟨_,e,_⟩:=hl;exact W3 e
     refine ie I.os.2 (call_sum_walkG (aav hl ?_))
     refine ⟨s.heap.objs.size,[s.heap.objs.size,p],[s.heap.objs.size],its.toArray.size,_,_,λi=>bs.getD i 0,rfl,Walks.list (A:=X.A.in1) (I.ok.hd hc) _ p (Xa hlt) _,
      ⟨⟨_,W5 _ rfl,rfl,rfl⟩,hl.push _⟩,λb hb=>?_,λi v hP=>hints i v (by simpa using hP),λh' tk t' hk ht=>?_⟩
     ·show b<(s.heap.push _).objs.size
      rw [XY]
      rcases Xl.mp hb with rfl | hb
      ·exact YI _
      ·rw [Xj.mp hb];exact aaw hlt
     ·rw [show its.toArray.size=bs.length by simpa using hlen,preSum_eq bs _ (WZ _),List.take_length]
      exact ⟨.int _,H,I.kept (t':=tk) (xK hk),⟨_,rfl⟩,ok _ H ρ .refl ab (by unfold Rep;rfl)⟩
noncomputable def rO:List D→M D
 | [.int i]=>M.ret (.int i)
 | [.bl k]=>M.ret (.int (if k then 1 else 0))
 | _=>M.stop
theorem AA:eF X (.type "int") (Fz X EE rO):=by
 intro pins s σ0 H xs us Q I r zu
 obtain ⟨σ,τ,ρ,G,ds,ab,Ep,ok⟩:=zu
 match ds,ok with
 | [],ok=>exact ok.elim
 | d::_::_,ok=>cases d<;>exact ok.elim
 | [d],ok=>
  obtain ⟨x,rfl,rx⟩:=ir Ep
  cases d<;>try exact ok.elim
  ·rename_i k
   unfold Rep at rx;subst rx
   exact q8 pins s σ0 H _ us Q I r (.inr ⟨k,rfl,ok _ H ρ .refl ab (by unfold Rep;rfl)⟩)
  ·rename_i i
   unfold Rep at rx;subst rx
   exact q8 pins s σ0 H _ us Q I r (.inl ⟨i,rfl,ok _ H ρ .refl ab (by unfold Rep;rfl)⟩)
theorem boot_int:bootBuiltins "int"=some (.type "int"):=by symm
theorem KO (hm:X.mg "int"=none) (hg:Gl X "int") (ha:QA X EE [e] m) (h:aq [e]=true:=by rfl):QE X EE (.Call (.Name "int" p) [e] [] pos) (aj rO m):=rM AA hm hg boot_int ha (by decide) (by decide) h
theorem KP (hc:X.calm=true) (hm:X.mg "sum"=none) (hg:Gl X "sum") (ha:QA X EE [e] m) (h:aq [e]=true:=by rfl):QE X EE (.Call (.Name "sum" p) [e] [] pos) (aj tG m):=lH (Az hc) hm hg PyProof.Rows.boot_sum ha (by decide) (by decide) h
end
theorem nV (I:Inv X pins σ H s) (k:∀ b o,b∉ch→s.heap.get? b=some o→h'.get? b=some o) (hf:∀ b∈ch,kK X pins H b) (ht:0<t':=by first | exact XO _ | exact (Inv.os (by assumption)).2 | assumption | nofun):Inv X pins σ H {s with heap:=h',toks:=t'}:=by
 have Mc:∀ b u,H b=some u→b∉ch:=λb u e z=>by rw [(hf b z).1] at e;cases e
 refine I.step (g':=s.gens) (d':=s.drawn) (ch:=ch) (λb hb=>⟨(hf b hb).2.2.2.1,(hf b hb).2.1,(hf b hb).2.2.2.2.1,(hf b hb).2.2.2.2.2⟩) (λb o _ _ hc e _=>k b o hc e) (λb o _ _ hc e _=>⟨o.slots,k b o hc e⟩) (λ_ _ _ _ n=>n)
  (λb o hc e=>⟨o,k b o hc e⟩) (λ_ _ e=>e) (λ_ _ _ e=>e) (λb ps e=>⟨#[],by rw [e];simp⟩) (λm hm=>?_) (λb u e=>?_) I.bare
 ·obtain ⟨o,es,ep,ho,r⟩:=hm
  exact ⟨o,es,ep,k _ o (λz=>(hf _ z).2.1 rfl) ho,r⟩
 ·refine (I.hok b u e).stay (λc v hc q=>k c v ?_ q) (λ_ q=>q) λ_ _ q=>q
  rcases hc with z | z
  ·rw [z];exact Mc b u e
  ·exact Mc c _ z
noncomputable abbrev View:=DH→Nat→Option (Option D)
variable {vw:View}
noncomputable def JV (K:WV) (mg:Str→Option V0) (J:It) (vw:View) (H0:Hp) (ρ0:List Addr):Prop:=
 ∀ (i:Nat) (H:Hp) (ρ:List Addr) (G:DH),cC K H0 H ρ0 ρ→eS K mg H ρ G→(vw G i=some none→J.stop i H) ∧
  ∀ d,vw G i=some (some d)→J.go i H∧∀ x H',J.qX i H x H'→vc K mg H H' ρ∧Rep K mg ρ H' d x
noncomputable def nJ (g:kL) (body:MS) (vw:View):Nat→Nat→MS
 | 0,_=>λ_ _=>.stuck
 | f+1,i=>λτ G=>match vw G i with
  | none=>.stuck
  | some none=>.nx τ G
  | some (some d)=>match g d τ with
   | none=>.stuck
   | some τ1=>match body τ1 G with
    | .nx τ2 G2=>nJ g body vw f (i+1) τ2 G2
    | .ct τ2 G2=>nJ g body vw f (i+1) τ2 G2
    | .bk τ2 G2=>.nx τ2 G2
    | r=>r
noncomputable abbrev MI:=DS→M (Nat×View)
noncomputable def HY (K:WV) (mg:Str→Option V0) (EE:cz) (mi:MI):TI:=λσ H R=>∃ τ ρ G,Ab K mg σ H τ ρ G∧match mi τ G with
 | .stuck=>False
 | .bH c G'=>∀ H' ρ',cC K H H' ρ ρ'→Ab K mg σ H' τ ρ' G'→EE c σ H'
 | .ok (_,vw) G'=>∀ J H' ρ',cC K H H' ρ ρ'→Ab K mg σ H' τ ρ' G'→JV K mg J vw H' ρ'→R J H'
noncomputable def QI (X:Cx) (EE:cz) (tg iter:Expr) (mi:MI):Prop:=PI X tg iter (HY X.K X.mg EE mi)
section
variable {X:Cx} {EE:cz} {tg iter a b:Expr} {g:kL} {mi:MI} {ms:MS} {pos p pc:Pos} {m:DS→M (List D)}
theorem CB {body:MS} {Dd:Ends} {J:It} {σ0:L2.St} {G0:DH} {τ0:DS} {fuel:Nat} (jv:JV X.K X.mg J vw H0 ρ0)
  (ab:Ab X.K X.mg σ0 H0 τ0 ρ0 G0) (ok:qH X.K X.mg EE H0 ρ0 Dd (nJ g body vw fuel 0 τ0 G0)) :
  ∃ W:Nat→Nat→L2.St→Hp→Prop,(∃ m,W 0 m σ0 H0)∧∀ i m σ H,W i m σ H →
   (J.stop i H∧Dd.nx σ H)∨(J.go i H∧∃ N:L2.St→Hp→Prop,(∀ σ' H',N σ' H'→∃ m',m'<m∧W (i+1) m' σ' H')∧∀ x H',J.qX i H x H'→u6 X.K X.mg g x σ H' λσ2 H2=>gg X.K X.mg EE body {Dd with nx:=N,ct:=N,bk:=Dd.nx} σ2 H2):=by
 refine ⟨λi m σ H=>∃ τ ρ G,Ab X.K X.mg σ H τ ρ G∧cC X.K H0 H ρ0 ρ∧qH X.K X.mg EE H ρ Dd (nJ g body vw m i τ G),⟨fuel,τ0,ρ0,G0,ab,.refl,ok⟩,?_⟩
 rintro i m σ H ⟨τ,ρ,G,ab,f,ok⟩
 cases m with
 | zero=>exact ok.elim
 | succ m=>
  unfold nJ at ok
  obtain ⟨j1,j2⟩:=jv i H ρ G f ab.hp
  cases q:vw G i with
  | none=>rw [q] at ok;exact ok.elim
  | some od=>
   rw [q] at ok
   cases od with
   | none=>exact .inl ⟨j1 q,ok σ H ρ .refl ab⟩
   | some d=>
    dsimp only at ok
    obtain ⟨jg,jy⟩:=j2 d q
    refine .inr ⟨jg,λσ' H'=>∃ τ' ρ' G',Ab X.K X.mg σ' H' τ' ρ' G'∧cC X.K H0 H' ρ0 ρ'∧qH X.K X.mg EE H' ρ' Dd (nJ g body vw m (i+1) τ' G'),λσ' H' z=>⟨m,YI _,z⟩,λx H' y=>?_⟩
    obtain ⟨⟨fN,hN⟩,rx⟩:=jy x H' y
    replace ok:=qH.fut fN ok
    replace ab:Ab X.K X.mg σ H' τ ρ G:=ab.fut fN (hN _ ab.hp)
    replace f:=f.trans fN
    cases e:g d τ with
    | none=>rw [e] at ok;exact ok.elim
    | some τ1=>
     rw [e] at ok
     dsimp only at ok
     refine ⟨τ,ρ,G,d,τ1,ab,rx,e,λσ' aZ=>⟨τ1,ρ,G,aZ,?_⟩⟩
     cases eb:body τ1 G with
     | stuck=>rw [eb] at ok;exact ok
     | nx τ2 G2=>rw [eb] at ok;exact λσ2 H2 ρ2 f2 bV=>⟨τ2,ρ2,G2,bV,f.trans f2,ok.fut f2⟩
     | ct τ2 G2=>rw [eb] at ok;exact λσ2 H2 ρ2 f2 bV=>⟨τ2,ρ2,G2,bV,f.trans f2,ok.fut f2⟩
     | bk τ2 G2=>rw [eb] at ok;exact ok
     | rt d G2=>rw [eb] at ok;exact ok
     | xn c τ2 G2=>rw [eb] at ok;exact ok
noncomputable def lI (g:kL) (mi:MI) (body:MS):MS:=λτ=>bN (mi τ) (λx G=>nJ g body x.2 x.1 0 τ G) λc G=>.xn c τ G
theorem F1 (hp:PassesOwn (model X.prog X.w) X.A X.env X.xe) (hc:X.calm=true) (hi:QI X EE tg iter mi) (hg:QG X tg g) (hb:uC X EE body ms) (hs:gX iter=true:=by rfl) :
  QS X EE (.For tg iter body [] pos) (lI g mi ms):=PS.mono (xx hp hc hi hg hb (iw hs _)) λDd σ H h=>by
 obtain ⟨τ,ρ,G,ab,ok⟩:=h
 refine ⟨τ,ρ,G,ab,?_⟩
 dsimp only [lI,bN] at ok
 cases e:mi τ G with
 | stuck=>rw [e] at ok;exact ok
 | bH c G'=>rw [e] at ok;exact λH' ρ' f aZ=>ok σ H' ρ' f aZ
 | ok x G'=>rw [e] at ok;exact λJ H' ρ' f aZ jv=>CB jv aZ (ok.fut f)
noncomputable def iy (gO:D→Option (List D)) (ks:List Bool) (tt:DS→M Bool) (te:DS→M D) (n:Nat) (vw:View):Nat→Nat→DS→DH→Out D
 | 0,_,_,_=>.stuck
 | f+1,i,τ,G=>match vw G i with
  | none=>.stuck
  | some none=>.ok (.obj n) G
  | some (some d)=>match dh gO ks tt te n d τ G with
   | .ok _ G'=>iy gO ks tt te n vw f (i+1) τ G'
   | .bH c G'=>.bH c G'
   | .stuck=>.stuck
variable {gO:D→Option (List D)} {ow:V→Hp→List V→Prop} {xs:List Str} {ks:List Bool} {tt:DS→M Bool} {te:DS→M D}
theorem AB (hO:iP X.K X.mg ow gO) {Q:VK} {J:It} {vw:View} {H0:Hp} {σ:L2.St} {ρ0:List Addr} {G0:DH} {τ:DS} {fuel:Nat} (jv:JV X.K X.mg J vw H0 ρ0)
  (ab:Ab X.K X.mg σ H0 τ ρ0 G0) (ok:iM X.K X.mg EE H0 σ τ ρ0 (iy gO ks tt te G0.length vw fuel 0 τ (G0++[.lst []])) Q) :
  ∀ D,H0 D=none→∃ W:Nat→Nat→Hp→Prop,(∃ m,W 0 m (upd H0 D (.lst [])))∧∀ i m H,W i m H →
   (J.stop i H∧Q (.ref D) H)∨(J.go i H∧∀ x H',J.qX i H x H'→∃ vs,ow x H' vs∧liftT X.K X.mg (mj EE σ) tt (vs.map some++mask ks σ) H' λb H2=>if b=true then bJ X.K X.mg (mj EE σ) te (vs.map some++mask ks σ) H2 λv H3=>∃ ys,H3 D=some (.lst ys)∧ys.length<WO∧∃ m',m'<m∧W (i+1) m' (upd H3 D (.lst (ys++[v]))) else ∃ m',m'<m∧W (i+1) m' H2):=by
 intro D hD
 have f0:cC X.K H0 (upd H0 D (.lst [])) ρ0 (ρ0++[D]):=(cR hD ρ0).trans (cS ρ0 D)
 have Kw:Ab X.K X.mg σ (upd H0 D (.lst [])) τ (ρ0++[D]) (G0++[.lst []]):=ab.fut f0 (ab.hp.more hD .nil)
 have hn0:(ρ0++[D])[G0.length]?=some D:=by rw [← ab.hp.hl,aC]
 refine ⟨λi m H=>∃ ρ G,Ab X.K X.mg σ H τ ρ G∧cC X.K H0 H ρ0 ρ∧ρ[G0.length]?=some D∧iM X.K X.mg EE H σ τ ρ (iy gO ks tt te G0.length vw m i τ G) Q,
  ⟨fuel,ρ0++[D],_,Kw,f0,hn0,ok.fut f0⟩,?_⟩
 rintro i m H ⟨ρ,G,ab,f,hn,ok⟩
 cases m with
 | zero=>exact ok.elim
 | succ m=>
  unfold iy at ok
  obtain ⟨j1,j2⟩:=jv i H ρ G f ab.hp
  cases q:vw G i with
  | none=>rw [q] at ok;exact ok.elim
  | some od=>
   rw [q] at ok
   cases od with
   | none=>exact .inl ⟨j1 q,ok _ H ρ .refl ab (by unfold Rep;exact ⟨D,rfl,hn⟩)⟩
   | some d=>
    dsimp only at ok
    obtain ⟨jg,jy⟩:=j2 d q
    refine .inr ⟨jg,λx H' y=>?_⟩
    obtain ⟨⟨fN,hN⟩,rx⟩:=jy x H' y
    replace ok:=iM.fut fN ok
    replace ab:Ab X.K X.mg σ H' τ ρ G:=ab.fut fN (hN _ ab.hp)
    replace f:=f.trans fN
    refine mJ hO (W:=λH3=>∃ m',m'<m+1∧∃ ρ G,Ab X.K X.mg σ H3 τ ρ G∧cC X.K H0 H3 ρ0 ρ∧ρ[G0.length]?=some D∧iM X.K X.mg EE H3 σ τ ρ (iy gO ks tt te G0.length vw m' (i+1) τ G) Q)
      ab rx hn ?_
    cases e:dh gO ks tt te G0.length d τ G with
    | stuck=>rw [e] at ok;exact ok
    | bH c G'=>rw [e] at ok;exact ok
    | ok _ G'=>
     rw [e] at ok
     exact λH3 ρ3 f3 nS=>⟨m,YI _,ρ3,G',nS,f.trans f3,f3.get hn,ok.fut f3⟩
noncomputable def bZ (gO:D→Option (List D)) (ks:List Bool) (mi:MI) (tt:DS→M Bool) (te:DS→M D):DS→M D:=λτ=>(mi τ).bind λx G=>iy gO ks tt te G.length x.2 x.1 0 τ (G++[.lst []])
theorem oX (hO:iP X.K X.mg ow gO) {σ:L2.St} {H:Hp} {Q:VK} (h:bJ X.K X.mg EE (bZ gO ks mi tt te) σ H Q) :
  rK (HY X.K X.mg EE mi) ks ow (liftT X.K X.mg (mj EE σ) tt) (bJ X.K X.mg (mj EE σ) te) σ H Q:=by
 obtain ⟨τ,ρ,G,ab,ok⟩:=h
 refine ⟨τ,ρ,G,ab,?_⟩
 dsimp only [bZ,M.bind] at ok
 cases e:mi τ G with
 | stuck=>rw [e] at ok;exact ok
 | bH c G'=>rw [e] at ok;exact ok
 | ok x G'=>rw [e] at ok;exact λJ H' ρ' f aZ jv=>AB hO jv aZ (ok.fut f)
variable {scope:Scope} {elt:Expr} {ifs:List Expr}
theorem CC (hx:fM X EE) (hst:lG X) (S:bf X.env.scope X.N scope xs ks) (how:Own X scope xs ks tg ow) (hO:iP X.K X.mg ow gO) (hc:X.calm=true) (ha:QI X EE tg iter mi) (hb:jH X scope xs ifs elt tt te) (hs:gX iter=true:=by rfl) :
  QE X EE (.ListComp elt [⟨tg,iter,ifs,0⟩] scope pos) (bZ gO ks mi tt te):=PE.mono (nT (tt:=λσ=>liftT X.K X.mg (mj EE σ) tt) (te:=λσ=>bJ X.K X.mg (mj EE σ) te) hx hst S how hc ha (λσ cl C pins s0 H0 fp E=>hb cl C pins s0 H0 fp E _) (iw hs _)) λ_ _ _ h=>oX hO h
theorem CD (hx:fM X EE) (hst:lG X) (S:bf X.env.scope X.N scope xs ks) (how:Own X scope xs ks tg ow) (hO:iP X.K X.mg ow gO) (hc:X.calm=true) (hN:X.N.Nodup) (hl:X.env.scope.names.lookup y=some .local) (ha:QI X EE tg iter mi) (hb:jH X scope xs ifs elt tt te)
  (hsw:swapsWith (.ListComp elt [⟨tg,iter,ifs,0⟩] scope pos) (some (.Name y py)) spos.line X.env=pure true) (hy:X.N[i]?=some y:=by rfl) (hs:gX iter=true:=by rfl) :
  QS X EE (.Assign [.Name y py] (.ListComp elt [⟨tg,iter,ifs,0⟩] scope pos) spos) (aN i (bZ gO ks mi tt te)):=
 PS.mono (FH (tt:=λσ=>liftT X.K X.mg (mj EE σ) tt) (te:=λσ=>bJ X.K X.mg (mj EE σ) te) hx hst S how hc hN ha hy hl hsw (λσ cl C pins s0 H0 fp E=>hb cl C pins s0 H0 fp E _) (iw hs _)) λ_ _ _ h=>Cr (λ_ _ _ h=>oX hO h) h
noncomputable def gP (i j:Nat):kL:=λd τ=>match d with
 | .tup [x,y]=>some ((τ.set i (some x)).set j (some y))
 | _=>none
theorem F2 {j:Nat} {px py:Pos} {k:Nat} (hc:X.calm=true) (hN:X.N.Nodup) (hx:Loc X.env.scope x) (hy:Loc X.env.scope y) (hfx:X.fn x=true∨X.env.scope.names.lookup x=some .local) (TY:X.fn y=true∨X.env.scope.names.lookup y=some .local) (hi:X.N[i]?=some x:=by rfl) (hj:X.N[j]?=some y:=by rfl) :
  QG X (.Tuple [.Name x px,.Name y py] k pos) (gP i j):=by
 intro pins s σ H v u Q I r zu
 obtain ⟨τ,ρ,G,d,τ',ab,rd,e,q⟩:=zu
 refine IV (n:=2) hc (uM (sQ hN hi hx hfx) (uM (sQ hN hj hy TY) EF)) rfl rfl pins s σ H v u Q I r ?_
 cases d<;>try (cases e;done)
 rename_i ds
 match ds,e with
 | [d1,d2],e=>
  cases e
  unfold Rep at rd
  obtain ⟨a,vs,rfl,sq,rs⟩:=rd
  obtain ⟨v1,v2,rfl,r1,r2⟩:=yS rs
  exact ⟨a,[v1,v2],rfl,sq,rfl,v1,[v2],rfl,v2,[],rfl,rfl,q _ (Ab.set (Ab.set ab r1) r2)⟩
noncomputable def Qk (K:WV) (a:Addr):It:=
 ⟨λi H=>∃ xs x,jY K H a xs∧xs[i]?=some x,λi H y H'=>∃ x p,(∀ xs,jY K H a xs→xs[i]?=some x)∧H p=none∧y=.ref p∧H'=upd H p (.tup [.int i,x]),λi H=>∃ xs,jY K H a xs∧xs.length≤i⟩
theorem AD {k:Nat} {pt:Pos} (l e it:Addr) (hne:e≠it):Turn P w K (.Tuple es k pt) (Qk K l) [e,it] e (λi h=>∃ old,IsEnum h e it i old∧h.IsListIter it l i) where
 mem:=by simp
 obj:=λi h zz b hb=>by
  obtain ⟨old,st1,st2⟩:=zz
  rcases Xl.mp hb with rfl | hb
  ·exact ⟨_,st1,λv z=>by cases z⟩
  ·have e:b=it:=by simpa using hb
   subst e
   obtain ⟨o,e,c,d⟩:=st2
   exact ⟨o,e,λv z=>by rw [d] at z;cases z⟩
 keep:=λi h h' zz kp=>by obtain ⟨old,st1,st2⟩:=zz;exact ⟨old,kp e (by simp) _ st1,st2.at λo q=>kp it (by simp) o q⟩
 item:=by
  intro X hP hw hK hc i pins s σ H E I hf zu hg
  obtain ⟨old,st1,st2⟩:=zu
  subst hP hw hK
  obtain ⟨xs,x,hq,hx⟩:=hg
  obtain ⟨its,rv,p,hz⟩:=I.list hq
  obtain ⟨u,hu,ru⟩:=rv.get hx
  have Ql:e<s.heap.objs.size:=W3 st1
  have KQ:it<s.heap.objs.size:=by obtain ⟨o,q,_⟩:=st2;exact W3 q
  refine wpAny_pyNext_enum_item st1 st2 p.isList (x:=u) (by simpa using hu) hne λh' hO hL htup hsz kp=>?_
  refine ⟨.ref s.heap.objs.size,rfl,?_⟩
  have I1:Inv X pins σ (upd H s.heap.objs.size (.tup [.int i,x])) {s with heap:=s.heap.push {cls:=.type "tuple",data:=.seq #[.int i s.toks,u]}}:=
   I.laid (t':=s.toks) (λb o q=>WQ _ q) (WZ _) ⟨by simp [sizeLine_eq],[.int i s.toks,u],.cons ⟨_,rfl⟩ (.cons ru .nil),ZR _ _⟩
  have hfree:=I.hok.fresh (WZ s.heap.objs.size)
  have hf1:∀ b∈[e,it],kK X pins (upd H s.heap.objs.size (.tup [.int i,x])) b:=λb hb=>by
   have hlt:b≠s.heap.objs.size:=by
    rcases Xl.mp hb with rfl | hb
    ·exact Xa Ql
    ·rw [Xj.mp hb];exact Xa KQ
   exact ⟨by rw [az hlt];exact (hf b hb).1,(hf b hb).2⟩
  unfold letOwnedTupleGo
  refine Us (aai hO ?_)
  dsimp only
  rw [if_pos (by simp)]
  refine Us (aaY ?_)
  unfold updateField
  refine Us (aai hO ?_)
  dsimp only
  rw [if_pos (by simp)]
  refine wpAny_update hO ?_
  have uE:∀ b,b≠e→(h'.update e (YH λx=>x.setIfInBounds 0 Value.none)).get? b=h'.get? b:=λb hb=>Yj _ _ (YE hb)
  refine ⟨.ref s.heap.objs.size,_,nV (t':=s.toks+1) (s:={s with heap:=s.heap.push {cls:=.type "tuple",data:=.seq #[.int i s.toks,u]}}) (ch:=[e,it]) I1 (λb o hb q=>?_) hf1,rfl,⟨x,s.heap.objs.size,λys hy=>by rw [I.lq hy hq];exact hx,hfree,rfl,rfl⟩,⟨u,?_,?_⟩,λb hb=>(hf1 b hb).1⟩
  ·have hb1:b≠e:=λz=>hb (by simp [z])
   have hb2:b≠it:=λz=>hb (by simp [z])
   show (h'.update e _).get? b=some o
   rw [uE b hb1]
   by_cases HZ:b=s.heap.objs.size
   ·subst HZ
    have:=W5 (o:={cls:=.type "tuple",data:=.seq #[.int (i:Int) s.toks,u]}) s.heap rfl
    rw [this] at q;cases q
    exact htup
   ·have q':(s.heap.push {cls:=.type "tuple",data:=.seq #[.int (i:Int) s.toks,u]}).get? b=some o:=q
    refine kp b o hb1 hb2 ?_
    rwa [aax _ _ _ HZ] at q'
  ·show (h'.update e _).get? e=_
   rw [Yp _ hO rfl]
   rfl
  ·exact hL.at λo q=>(uE it (YE hne)).trans q
 done:=by
  intro X hP hw hK hc i pins s σ H E I hf zu hg
  obtain ⟨old,st1,st2⟩:=zu
  subst hP hw hK
  obtain ⟨xs,hq,hx⟩:=hg
  obtain ⟨its,rv,p,hz⟩:=I.list hq
  obtain ⟨f0,f1,f2,f3,f4,f5⟩:=hf it (by simp)
  have hl:=rv.length
  exact wpAny_pyNext_enum_end (I.ok.hd hc) st1 st2 p.isList (by simp;nofun) λh' eb=>⟨rfl,I.turned (t':=s.toks) (λb o hb e=>eb b o hb e) f0 f1 f3 f4 f5⟩
 self:=λ_ _ _ _ _ zz h=>by obtain ⟨old,st1,_⟩:=zz;exact ZS st1 h
noncomputable def iz (d:D):View:=λG i=>match aA G d with
 | some (.lst xs)=>some (xs[i]?.map λx=>.tup [.int i,x])
 | _=>none
noncomputable def vj (m:DS→M (List D)):MI:=λτ=>(m τ).bind λds=>match ds with
 | [d]=>λG=>match aA G d with
  | some (.lst xs)=>.ok (xs.length+1,iz d) G
  | _=>.stuck
 | _=>M.stop
theorem rP:bootBuiltins "enumerate"=some (.type "enumerate"):=by symm
theorem F3 {d:D} (r:Rep K mg ρ0 H0 d (.ref l)) (hd:∃ xs,aA G0 d=some (.lst xs)):JV K mg (Qk K l) (iz d) H0 ρ0:=by
 intro i H ρ G f hp
 have key:∀ zs,aA G d=some (.lst zs)→∃ xs,jY K H l xs∧au K mg ρ H zs xs:=λzs q=>by
  have r':=Rep.mono f d _ r
  cases d with
  | con ws=>
   cases q
   unfold Rep at r'
   obtain ⟨a,xs,e,sq,rs⟩:=r'
   cases e
   exact ⟨xs,sq.seq,rs⟩
  | obj n=>
   unfold aA at q
   dsimp only at q
   unfold Rep at r'
   obtain ⟨a,e,e1⟩:=r'
   cases e
   cases g:G[n]? with
   | none=>rw [g] at q;cases q
   | some o=>
    cases o with
    | lst ws=>
     rw [g] at q;cases q
     obtain ⟨a',xs,e2,h2,rs⟩:=hp.lst g
     rw [e1] at e2;cases e2
     exact ⟨xs,.of h2,rs⟩
    | _=>first | (rw [q] at ok;exact ok.elim) | (rw [q] at aK;exact aK.elim) | (rw [q] at e;cases e;done) | (rw [g] at ok;exact ok.elim) | (rw [g] at q;cases q;done) | (rw [g] at h;cases h;done) | (rw [g2] at ok;exact ok.elim) | (rw [g1,g2] at ok;exact ok.elim) | (rw [q1] at ok;exact ok.elim) | exact ok.elim
  | tup ws=>cases q
  | str z=>cases q
  | _=>cases q
 unfold iz
 cases q:aA G d with
 | none=>exact ⟨λe=>(by cases e),λx e=>(by cases e)⟩
 | some sk=>
  cases sk with
  | tup zs=>exact ⟨λe=>(by cases e),λx e=>(by cases e)⟩
  | str z=>exact ⟨λe=>(by cases e),λx e=>(by cases e)⟩
  | lst zs=>
   obtain ⟨xs,sq,rs⟩:=key zs q
   dsimp only
   constructor
   ·intro e
    cases qi:zs[i]? with
    | some z=>rw [qi] at e;cases e
    | none=>exact ⟨xs,sq,by rw [← rs.length];exact XN.mp qi⟩
   ·intro dd e
    cases qi:zs[i]? with
    | none=>rw [qi] at e;cases e
    | some z=>
     rw [qi] at e;cases e
     obtain ⟨v,ev,rv⟩:=rs.get qi
     refine ⟨⟨xs,v,sq,ev⟩,λy H' hy=>?_⟩
     obtain ⟨v',p,ev',hp0,rfl,rfl⟩:=hy
     have ev':=ev' xs sq
     rw [ev] at ev';cases ev'
     refine ⟨vc.new hp0,?_⟩
     unfold Rep
     refine ⟨p,[.int i,v],rfl,.of aM,.cons (by unfold Rep;rfl) (.cons (Rep.mono (cR hp0 ρ) _ _ rv) .nil)⟩
theorem F4 {k:Nat} {pt:Pos} (hm:X.mg "enumerate"=none) (qD:Gl X "enumerate") (ha:QA X EE [a] m) (h:aq [a]=true:=by rfl):QI X EE (.Tuple es k pt) (.Call (.Name "enumerate" p) [a] [] pc) (vj m):=by
 have h':bg a=true∧aq []=true:=by simpa [aq] using h
 intro pins s σ H R I hq
 obtain ⟨τ,ρ,G,ab,ok⟩:=hq
 dsimp only [vj,M.bind] at ok
 refine Xw (fq I qD hm rP ?_ (by decide) (by decide))
 have hA:gU X.K X.mg EE m σ H λvs H1=>∃ ρ1 G1 ds,Ab X.K X.mg σ H1 τ ρ1 G1∧cC X.K H H1 ρ ρ1∧au X.K X.mg ρ1 H1 ds vs∧m τ G=.ok ds G1:=by
  refine ⟨τ,ρ,G,ab,?_⟩
  cases e:m τ G with
  | stuck=>rw [e] at ok;exact ok
  | bH c G'=>rw [e] at ok;exact ok
  | ok ds G'=>exact λvs H' ρ' f aZ r=>⟨ρ',G',ds,aZ,f,r,rfl⟩
 refine Xr (cY (ha pc pins s σ H _ I hA) λus s1 nQ=>?_) (aO h'.1 _ _) (aY (es:=[]) rfl)
 obtain ⟨vs,H1,I1,r1,ρ1,G1,ds,gn,f1,rs,em⟩:=nQ
 rw [em] at ok
 dsimp only at ok
 match ds,rs,ok with
 | [],_,ok=>exact ok.elim
 | _::_::_,_,ok=>exact ok.elim
 | [d],rs,ok=>
  obtain ⟨x,rfl,rx⟩:=ir rs
  obtain ⟨u,rfl,ru⟩:=vals1 r1
  dsimp only at ok
  cases q:aA G1 d with
  | none=>rw [q] at ok;exact ok.elim
  | some sk=>
   rw [q] at ok
   cases sk with
   | tup zs=>exact ok.elim
   | str z=>exact ok.elim
   | lst zs=>
    dsimp only at ok
    obtain ⟨l,ys,rfl,sq,rv⟩:=ck (pins:=pins) (σ0:=σ) (s:=s1) gn.hp rx q
    cases ru
    obtain ⟨its,vv,pl,hz⟩:=I1.list sq
    refine call_enumerate_list pl.isList λh2 hE hL hsz kp=>?_
    refine ZS hE ?_
    have I2:Inv X pins σ H1 {s1 with heap:=h2}:=I1.kept (t':=s1.toks) kp
    refine ⟨s1.heap.objs.size+1,[s1.heap.objs.size+1,s1.heap.objs.size],_,Qk X.K l,H1,rfl,I2,AD l _ _ (abV _),⟨_,hE,hL⟩,λb hb=>?_,ok _ H1 ρ1 f1 gn (F3 rx ⟨zs,q⟩)⟩
    rcases Xl.mp hb with rfl | hb
    ·exact I1.nG (abn _) (I1.hok.fresh (abn _))
    ·rw [Xj.mp hb]
     exact I1.nG (WZ _) (I1.hok.fresh (WZ _))
end
theorem lz (h:n≤2000000):n≤WO:=by rw [sizeLine_eq];nofun
theorem oY (A:DH) (x:DO) (B:DH):(A++x::B)[A.length]?=some x:=by simp
theorem H8 (A:DH) (x y:DO) (B:DH):(A++x::y::B)[A.length+1]?=some y:=by
 rw [Xm (by nofun)];simp
theorem vm (A:DH) (x y:DO) (B:DH):(A++x::B).set A.length y=A++y::B:=by
 rw [aba _ _ (WZ _)];simp
theorem Qm (A:DH) (x y z:DO) (B:DH):(A++x::y::B).set (A.length+1) z=A++x::z::B:=by
 rw [aba _ _ (by nofun)];simp
theorem cN (g:Bool) (i j:Int) (G:DH):fG g (.int i) (.int j) G=.ok (.bl (g ^^ (i==j))) G:=by
 simp [fG,tw,jw,Yw,Ye,X4]
theorem lJ (g:Bool) (a b:Str) (G:DH) (ha:WW a=true) (hb:WW b=true):fG g (.str a) (.str b) G=.ok (.bl (g ^^ (a==b))) G:=by
 simp [fG,tw,jw,Yw,Ye,X4,ha,hb]
theorem nt (G:DH):∀ ws:List Str,bP (jw G deep) (ws.map D.str)=some (ws.map Z0)
 | []=>rfl
 | w::ws=>by
  have ih:=nt G ws
  simp only [WU,bP,ih]
  rfl
theorem vn (t:Str) (ws:List Str) (G:DH) (h:WW t=true) (hw:Yl (ws.map Z0)=true):HS (.str t) (ws.map D.str) G=some (ws.any (·==t)):=by
 have e1:jw G deep (.str t)=some (.str t):=rfl
 unfold HS
 rw [e1,nt]
 dsimp only
 have c1:(Z0 t).canLay0=true:=by simpa [Yw] using h
 have c3:min (YX (ws.map Z0)) (Z0 t).depth≤580:=by
  have:(Z0 t).depth≤580:=by simp [Ye]
  nofun
 rw [if_pos (by rw [c1,hw];simpa using c3)]
 simp only [List.any_map]
 congr 1
theorem good_add {a b:Str} (ha:WW a=true) (hb:WW b=true):WW (a++b)=true:=by
 have e:(a++b).cps=a.cps++b.cps:=rfl
 unfold WW at *
 rw [e,Array.all_append,ha,hb];rfl
theorem tH (a b:Str):(a++b).length=a.length+b.length:=by
 show (a.cps++b.cps).size=a.cps.size+b.cps.size
 simp
theorem lK {α:Type} {xs:List α} {i:Int} (h0:0≤i) (h1:i<xs.length):∃ v,iL xs i=some v∧xs[i.toNat]?=some v:=by
 have hi:i.toNat<xs.length:=by nofun
 refine ⟨xs[i.toNat],?_,W2 hi⟩
 have:=f6 (xs:=xs) (j:=i.toNat) (v:=xs[i.toNat]) (W2 hi)
 rwa [show ((i.toNat:Nat):Int)=i by nofun] at this
theorem KR (z:Str) (i:Int) (G:DH) (h0:0≤i) (h1:i<z.length) (hz:z.length≤1000) (hok:WW z=true):∃ s,aT (.str z) (.int i) G=.ok (.str s) G∧WW s=true∧s.length=1:=by
 have hs:z.length≤WO:=lz (by nofun)
 have hl:z.length=z.cps.toList.length:=by simp [Str.length]
 have hi:i.toNat<z.cps.toList.length:=by nofun
 obtain ⟨c,e,ec⟩:=lK (xs:=z.cps.toList) (i:=i) h0 (by nofun)
 refine ⟨⟨#[c]⟩,?_,?_,rfl⟩
 ·simp only [aT,aA,if_pos hs,e]
 ·have h2:z.cps.toList.all (·<0x110000)=true:=by simpa [WW] using hok
  have:=ZZ.mp h2 _ (XE ec)
  simpa [WW] using this
theorem iA (h0:0≤j) (h1:j<100000):eV [.int j]=some ((Xs 0 j.toNat).map λ(k:Nat)=>.int (0+(k:Int))):=by
 show (if -(2^62)≤j∧j<2^62 then some ((Xz j.toNat).map λ(k:Nat)=>D.int (0+(k:Int))) else none)=_
 rw [if_pos ⟨by nofun,by nofun⟩,List.range_eq_range']
noncomputable def Res.sq (r:Res) (k:MS):Res:=match r with
 | .nx τ G=>k τ G
 | r=>r
noncomputable def Out.cs (r:Out Bool) (a b:MS) (τ:DS):Res:=match r with
 | .stuck=>.stuck
 | .ok c G=>if c=true then a τ G else b τ G
 | .bH c G=>.xn c τ G
noncomputable def Out.st (r:Out D) (i:Nat) (τ:DS):Res:=match r with
 | .stuck=>.stuck
 | .ok d G=>.nx (τ.set i (some d)) G
 | .bH c G=>.xn c τ G
noncomputable def Out.xp (r:Out D) (τ:DS):Res:=match r with
 | .stuck=>.stuck
 | .ok d G=>.nx τ G
 | .bH c G=>.xn c τ G
noncomputable def Out.rn (r:Out D) (τ:DS):Res:=match r with
 | .stuck=>.stuck
 | .ok d G=>.rt d G
 | .bH c G=>.xn c τ G
noncomputable def Out.bd {α β:Type} (r:Out α) (k:α→M β):Out β:=match r with
 | .stuck=>.stuck
 | .ok a G=>k a G
 | .bH c G=>.bH c G
noncomputable def Out.sb {α:Type} (r:Out α) (τ:DS) (k:α→DH→Res):Res:=match r with
 | .stuck=>.stuck
 | .ok a G=>k a G
 | .bH c G=>.xn c τ G
noncomputable def Res.fn (r:Res):Out D:=match r with
 | .stuck=>.stuck
 | .nx _ G'=>.ok .eO G'
 | .rt d G'=>.ok d G'
 | .bk _ _=>.stuck
 | .ct _ _=>.stuck
 | .xn c _ G'=>.bH c G'
noncomputable def Res.lp (r:Res) (k:MS):Res:=match r with
 | .nx τ G=>k τ G
 | .ct τ G=>k τ G
 | .bk τ G=>.nx τ G
 | r=>r
noncomputable def Qn (m k:MS):MS:=λτ G=>(m τ G).lp k
section
variable {m k:MS} {t ta tb:DS→M Bool} {a b:MS} {τ:DS} {G:DH} {e ma mb mo:DS→M D} {i n:Nat} {d:D} {c:XD} {α β:Type} {ml:DS→M (List D)} {f:D→D→M D} {fl:List D→M D}
@[simp] theorem bq:aG m k τ G=(m τ G).sq k:=by
 unfold aG Res.sq
 cases m τ G<;>rfl
@[simp] theorem b9:(Res.nx τ G).sq k=k τ G:=W6 rfl rfl
@[simp] theorem vp:(Res.rt d G).sq k=.rt d G:=W6 rfl rfl
@[simp] theorem RN:Res.stuck.sq k=.stuck:=W6 rfl rfl
@[simp] theorem RO:(Res.bk τ G).sq k=.bk τ G:=W6 rfl rfl
@[simp] theorem RP:(Res.ct τ G).sq k=.ct τ G:=W6 rfl rfl
@[simp] theorem RQ:(Res.xn c τ G).sq k=.xn c τ G:=W6 rfl rfl
@[simp] theorem iQ:iO t a b τ G=(t τ G).cs a b τ:=by
 unfold iO bN Out.cs
 cases t τ G<;>rfl
@[simp] theorem qL:(Out.ok true G).cs a b τ=a τ G:=W6 rfl rfl
@[simp] theorem qM:(Out.ok false G).cs a b τ=b τ G:=W6 rfl rfl
@[simp] theorem TZ:(Out.bH c G).cs a b τ=.xn c τ G:=W6 rfl rfl
@[simp] theorem di:aN i e τ G=(e τ G).st i τ:=by
 unfold aN bN Out.st
 cases e τ G<;>rfl
@[simp] theorem fO:(Out.ok d G).st i τ=.nx (τ.set i (some d)) G:=W6 rfl rfl
@[simp] theorem T3:(Out.bH c G).st i τ=.xn c τ G:=W6 rfl rfl
@[simp] theorem f7:eU e τ G=(e τ G).xp τ:=by
 unfold eU bN Out.xp
 cases e τ G<;>rfl
@[simp] theorem jI:(Out.ok d G).xp τ=.nx τ G:=W6 rfl rfl
@[simp] theorem T4:(Out.bH c G).xp τ=.xn c τ G:=W6 rfl rfl
@[simp] theorem fY:cj e τ G=(e τ G).rn τ:=by
 unfold cj bN Out.rn
 cases e τ G<;>rfl
@[simp] theorem iR:(Out.ok d G).rn τ=.rt d G:=W6 rfl rfl
@[simp] theorem T5:(Out.bH c G).rn τ=.xn c τ G:=W6 rfl rfl
@[simp] theorem jc:bI τ G=.nx τ G:=W6 rfl rfl
@[simp] theorem OL:MX τ G=.rt .eO G:=W6 rfl rfl
@[simp] theorem ao {x:α} {q:α→M β}:(Out.ok x G).bd q=q x G:=W6 rfl rfl
@[simp] theorem T6 {q:α→M β}:(Out.bH c G).bd q=.bH c G:=W6 rfl rfl
@[simp] theorem T7 {q:α→M β}:(Out.stuck (α:=α)).bd q=.stuck:=W6 rfl rfl
@[simp] theorem ai {mm:M α} {q:α→M β}:M.bind mm q G=(mm G).bd q:=by
 unfold M.bind Out.bd
 cases mm G<;>rfl
@[simp] theorem aX {x:α}:M.ret x G=.ok x G:=W6 rfl rfl
@[simp] theorem KS:(M.stop (α:=α)) G=.stuck:=W6 rfl rfl
@[simp] theorem aQ:af i τ G=match τ[i]? with
 | some (some d)=>.ok d G
 | _=>.stuck:=W6 rfl rfl
@[simp] theorem eN:eC d τ G=.ok d G:=W6 rfl rfl
@[simp] theorem cg:ak f ma mb τ G=(ma τ G).bd λx=>(mb τ).bind λy=>f x y:=ai
@[simp] theorem bM:aj fl ml τ G=(ml τ G).bd fl:=ai
@[simp] theorem aL:ah τ G=.ok [] G:=W6 rfl rfl
@[simp] theorem aI:aa ma ml τ G=(ma τ G).bd λx=>(ml τ).bind λxs=>M.ret (x::xs):=ai
noncomputable def Nr:D→M Bool
 | .bl b=>M.ret b
 | _=>M.stop
@[simp] theorem gh:fH e τ G=(e τ G).bd Nr:=by
 unfold fH
 rw [ai]
 unfold Out.bd
 cases e τ G<;>try rfl
@[simp] theorem dM {b:Bool}:Nr (.bl b) G=.ok b G:=W6 rfl rfl
@[simp] theorem CF {q:D→M Bool}:iH q e τ G=(e τ G).bd q:=ai
@[simp] theorem F5:yR t τ G=(t τ G).bd λc=>M.ret (!c):=ai
@[simp] theorem KU:Fg ta tb τ G=(ta τ G).bd λc=>if c=true then M.ret true else tb τ:=ai
@[simp] theorem OM:jF ta tb τ G=(ta τ G).bd λc=>if c=true then tb τ else M.ret false:=ai
@[simp] theorem CG {y:Ty}:FA y e τ G=(e τ G).bd (qI y):=ai
@[simp] theorem cO {mf:List D→M D}:av n mf ml τ G=(ml τ G).bd λds=>if ds.length=n then mf ds else M.stop:=ai
@[simp] theorem dN {T:String} {g:D→List D→M D}:bK T g mo ml τ G=(mo τ G).bd λd G=>if cT T G d=true then (ml τ G).bd (g d) else .stuck:=by
 unfold bK
 rw [ai]
 unfold Out.bd
 cases mo τ G with
 | stuck=>rfl
 | bH c G=>rfl
 | ok d G'=>simp only [ai];rfl
@[simp] theorem RS:SY t ma mb τ G=(t τ G).bd λc=>if c=true then ma τ else mb τ:=ai
@[simp] theorem rQ {zM:List D→Option (List D)} {g:kL} {body:MS}:fL zM g ml body τ G=(ml τ G).sb τ λds G=>match zM ds with
  | some xs=>bC g body xs τ G
  | none=>.stuck:=by
 unfold fL bN Out.sb
 cases ml τ G<;>rfl
@[simp] theorem oZ {g:kL} {body:MS}:gp g e body τ G=(e τ G).sb τ λd G=>match d with
  | .obj n=>match G[n]? with
   | some (.lst xs)=>tB g body n (xs.length+1) 0 τ G
   | _=>.stuck
  | .tup xs=>bC g body xs τ G
  | .con xs=>bC g body xs τ G
  | .str z=>bC g body (z.cps.toList.map λc=>.str ⟨#[c]⟩) τ G
  | _=>.stuck:=by
 unfold gp bN Out.sb
 cases e τ G<;>rfl
@[simp] theorem F6 {g:kL} {mi:MI} {body:MS}:lI g mi body τ G=(mi τ G).sb τ λx G=>nJ g body x.2 x.1 0 τ G:=by
 unfold lI bN Out.sb
 cases mi τ G<;>rfl
@[simp] theorem rR {x:α} {q:α→DH→Res}:(Out.ok x G).sb τ q=q x G:=W6 rfl rfl
@[simp] theorem T8 {q:α→DH→Res}:(Out.bH c G).sb τ q=.xn c τ G:=W6 rfl rfl
@[simp] theorem jd {gO:D→Option (List D)} {ks:List Bool} {tt:DS→M Bool} {te:DS→M D}:dF gO ks e tt te τ G=(e τ G).bd λd G=>match d with
  | .obj k=>match G[k]? with
   | some (.lst xs)=>nq gO ks tt te G.length k (xs.length+1) 0 τ (G++[.lst []])
   | _=>.stuck
  | .tup xs=>bU gO ks tt te G.length xs τ (G++[.lst []])
  | .con xs=>bU gO ks tt te G.length xs τ (G++[.lst []])
  | .str z=>bU gO ks tt te G.length (z.cps.toList.map λc=>.str ⟨#[c]⟩) τ (G++[.lst []])
  | _=>.stuck:=ai
@[simp] theorem o5 {zM:List D→Option (List D)} {gO:D→Option (List D)} {ks:List Bool} {tt:DS→M Bool} {te:DS→M D}:cJ zM gO ks ml tt te τ G=(ml τ G).bd λds G=>match zM ds with
  | some xs=>bU gO ks tt te G.length xs τ (G++[.lst []])
  | none=>.stuck:=ai
@[simp] theorem jJ {gO:D→Option (List D)} {ks:List Bool} {mi:MI} {tt:DS→M Bool} {te:DS→M D}:bZ gO ks mi tt te τ G=(mi τ G).bd λx G=>iy gO ks tt te G.length x.2 x.1 0 τ (G++[.lst []]):=ai
@[simp] theorem fB {ds:List D}:cI n m ds G=(m (ds.map some++Xi (n - ds.length) none) G).fn:=by
 unfold cI Res.fn
 cases m (ds.map some++Xi (n - ds.length) none) G<;>rfl
@[simp] theorem RT:(Res.nx τ G).fn=.ok .eO G:=W6 rfl rfl
@[simp] theorem iS:(Res.rt d G).fn=.ok d G:=W6 rfl rfl
@[simp] theorem T9:(Res.xn c τ G).fn=.bH c G:=W6 rfl rfl
@[simp] theorem vq {lo hi:DS→M (Option Int)}:j5 e lo hi τ G=(e τ G).bd λd=>(lo τ).bind λl=>(hi τ).bind λh=>uD d l h:=ai
@[simp] theorem lM:cE τ G=.ok none G:=W6 rfl rfl
noncomputable def Ia:D→M (Option Int)
 | .int i=>M.ret (some i)
 | _=>M.stop
@[simp] theorem lN:bY e τ G=(e τ G).bd Ia:=by
 unfold bY
 rw [ai]
 unfold Out.bd
 cases e τ G<;>try rfl
@[simp] theorem lO {i:Int}:Ia (.int i) G=.ok (some i) G:=W6 rfl rfl
noncomputable def Nt:D→M D
 | .int i=>M.ret (.int (-i))
 | _=>M.stop
@[simp] theorem tK:gA e τ G=(e τ G).bd Nt:=by
 unfold gA
 rw [ai]
 unfold Out.bd
 cases e τ G<;>try rfl
@[simp] theorem tL {i:Int}:Nt (.int i) G=.ok (.int (-i)) G:=W6 rfl rfl
@[simp] theorem ON:vj ml τ G=(ml τ G).bd λds=>match ds with
 | [d]=>λG=>match aA G d with
  | some (.lst xs)=>.ok (xs.length+1,iz d) G
  | _=>.stuck
 | _=>M.stop:=ai
@[simp] theorem CH {k9:Str→Option (List D→M D)}:jb i n k9 ml τ G=match τ[i]? with
 | some (some (.fn y))=>match k9 y with
  | some mf=>av n mf ml τ G
  | none=>.stuck
 | _=>.stuck:=W6 rfl rfl
@[simp] theorem Ib:Qn m k τ G=(m τ G).lp k:=W6 rfl rfl
@[simp] theorem fP:(Res.nx τ G).lp k=k τ G:=W6 rfl rfl
@[simp] theorem RU:(Res.ct τ G).lp k=k τ G:=W6 rfl rfl
@[simp] theorem RV:(Res.bk τ G).lp k=.nx τ G:=W6 rfl rfl
@[simp] theorem RW:(Res.rt d G).lp k=.rt d G:=W6 rfl rfl
@[simp] theorem RX:(Res.xn c τ G).lp k=.xn c τ G:=W6 rfl rfl
@[simp] theorem lQ:fy t m (n+1) τ G=(t τ G).cs (Qn m (fy t m n)) bI τ:=by
 rw [fy]
 unfold bN Out.cs
 dsimp only
 cases t τ G with
 | stuck=>rfl
 | bH c G=>rfl
 | ok b G'=>
  cases b with
  | false=>rfl
  | true=>
   simp only [if_true]
   unfold Qn Res.lp
   cases m τ G'<;>rfl
theorem dO {body:MS}:bC g body [] τ G=.nx τ G:=W6 rfl rfl
theorem bE {body:MS} {x:D} {r:List D} {τ1:DS} (h:g x τ=some τ1):bC g body (x::r) τ G=(body τ1 G).lp (bC g body r):=by
 rw [bC,h]
 dsimp only
 unfold Res.lp
 cases body τ1 G<;>rfl
end
section
variable {m k mb me:MS} {τ:DS} {G:DH} {e:DS→M D} {c:XD} {x:Str} {ml:DS→M (List D)} {d:D}
@[simp] theorem Nu:Cj x ml τ G=(ml τ G).sb τ λds G=>if ds.length≤WO then .xn (.mk x ds) τ G else .stuck:=by
 unfold Cj bN Out.sb
 cases ml τ G<;>rfl
@[simp] theorem RY {f:D→M D}:TQ f e τ G=(e τ G).bd f:=ai
end
mutual
noncomputable def D.closed:D→Bool
 | .tup ds=>aD ds
 | .con ds=>aD ds
 | .obj _=>false
 | .xh _ _=>false
 | .ig _ _=>false
 | _=>true
noncomputable def aD:List D→Bool
 | []=>true
 | d::r=>d.closed&&aD r
end
noncomputable def lR (a b:DH):Bool:=@decide (a=b) (ZI _)
theorem mO (a:DH):lR a a=true:=@decide_eq_true _ (ZI _) rfl
theorem j8 (a b:DH) (h:lR a b=true):a=b:=@of_decide_eq_true _ (ZI _) h
section
variable {K:WV} {mg:Str→Option V0} {H H':Hp} {ρ ρ':List Addr} {G G':DH}
mutual
theorem o6:∀ (d:D) (v:V),d.closed=true→Rep K mg ρ H d v→Rep K mg ρ' H d v
 | .eO,v,c,h=>by unfold Rep at h ⊢;exact h
 | .bl b,v,c,h=>by unfold Rep at h ⊢;exact h
 | .int i,v,c,h=>by unfold Rep at h ⊢;exact h
 | .str x,v,c,h=>by unfold Rep at h ⊢;exact h
 | .tup ds,v,c,h=>by
  unfold Rep at h ⊢
  obtain ⟨a,xs,e,s,r⟩:=h
  exact ⟨a,xs,e,s,fF ds xs (by simpa [D.closed] using c) r⟩
 | .con ds,v,c,h=>by
  unfold Rep at h ⊢
  obtain ⟨a,xs,e,s,r⟩:=h
  exact ⟨a,xs,e,s,fF ds xs (by simpa [D.closed] using c) r⟩
 | .obj n,v,c,h=>by simp [D.closed] at c
 | .fn x,v,c,h=>by unfold Rep at h ⊢;exact h
 | .xh _ _,v,c,h=>by simp [D.closed] at c
 | .ig _ _,v,c,h=>by simp [D.closed] at c
theorem fF:∀ (ds:List D) (vs:List V),aD ds=true→au K mg ρ H ds vs→au K mg ρ' H ds vs
 | [],vs,c,h=>by unfold au at h ⊢;exact h
 | d::ds,vs,c,h=>by
  have c':d.closed=true∧aD ds=true:=by simpa [aD] using c
  unfold au at h ⊢
  obtain ⟨v,r,e,h1,h2⟩:=h
  exact ⟨v,r,e,o6 d v c'.1 h1,fF ds r c'.2 h2⟩
end
mutual
theorem Rep.back (p:∃ r,ρ'=ρ++r):∀ (d:D) (v0 v:V),Rep K mg ρ H d v0→Rep K mg ρ' H' d v→Rep K mg ρ H' d v
 | .eO,v0,v,h0,h=>by unfold Rep at h ⊢;exact h
 | .bl b,v0,v,h0,h=>by unfold Rep at h ⊢;exact h
 | .int i,v0,v,h0,h=>by unfold Rep at h ⊢;exact h
 | .str x,v0,v,h0,h=>by unfold Rep at h ⊢;exact h
 | .tup ds,v0,v,h0,h=>by
  unfold Rep at h0 h ⊢
  obtain ⟨a,xs,e,s,r⟩:=h
  obtain ⟨a0,vt,e0,s0,r0⟩:=h0
  exact ⟨a,xs,e,s,au.back p ds vt xs r0 r⟩
 | .con ds,v0,v,h0,h=>by
  unfold Rep at h0 h ⊢
  obtain ⟨a,xs,e,s,r⟩:=h
  obtain ⟨a0,vt,e0,s0,r0⟩:=h0
  exact ⟨a,xs,e,s,au.back p ds vt xs r0 r⟩
 | .obj n,v0,v,h0,h=>by
  unfold Rep at h0 h ⊢
  obtain ⟨a,e,q⟩:=h
  obtain ⟨a0,e0,q0⟩:=h0
  obtain ⟨r,rfl⟩:=p
  rw [W7 (WS.mp q0).1] at q
  exact ⟨a,e,q⟩
 | .fn x,v0,v,h0,h=>by unfold Rep at h ⊢;exact h
 | .xh c as,v0,v,h0,h=>by unfold Rep at h ⊢;exact h
 | .ig y ds,v0,v,h0,h=>by
  unfold Rep at h0 h ⊢
  obtain ⟨k,a,cs,xs,e,q0,q1,q2,r⟩:=h
  obtain ⟨_,_,_,vt,_,_,_,_,r0⟩:=h0
  exact ⟨k,a,cs,xs,e,q0,q1,q2,au.back p ds vt xs r0 r⟩
theorem au.back (p:∃ r,ρ'=ρ++r):∀ (ds:List D) (Qo vs:List V),au K mg ρ H ds Qo→au K mg ρ' H' ds vs→au K mg ρ H' ds vs
 | [],Qo,vs,h0,h=>by unfold au at h ⊢;exact h
 | d::ds,Qo,vs,h0,h=>by
  unfold au at h0 h ⊢
  obtain ⟨v,r,e,h1,h2⟩:=h
  obtain ⟨v0,r0,e0,Qa,Ua⟩:=h0
  exact ⟨v,r,e,Rep.back p d v0 v Qa h1,au.back p ds r0 r Ua h2⟩
end
theorem eS.cut (h:eS K mg H ρ G) (p:∃ r,ρ'=ρ++r) (h':eS K mg H' ρ' G') (e:G'.take G.length=G):eS K mg H' ρ G:=by
 refine ⟨h.hl,h.nd,λn o q=>?_⟩
 have hn:n<G.length:=(WS.mp q).1
 have q':G'[n]?=some o:=by
  rw [← e,List.getElem?_take] at q
  rw [if_pos hn] at q;exact q
 obtain ⟨a0,e0,r0⟩:=h.ob n o q
 obtain ⟨a,e1,r1⟩:=h'.ob n o q'
 have ea:a=a0:=by
  obtain ⟨r,rfl⟩:=p
  rw [W7 (by rw [h.hl];exact hn),e0] at e1
  exact (XJ e1).symm
 subst ea
 refine ⟨a,e0,?_⟩
 cases o with
 | dct kv=>
  obtain ⟨xs,e2,rs⟩:=r1
  obtain ⟨vt,_,KW⟩:=r0
  exact ⟨xs,e2,au.back p _ vt xs KW rs⟩
 | fE f kv=>
  obtain ⟨xs,e2,rs⟩:=r1
  obtain ⟨vt,_,KW⟩:=r0
  exact ⟨xs,e2,au.back p _ vt xs KW rs⟩
 | lst ds=>
  obtain ⟨xs,e2,rs⟩:=r1
  obtain ⟨vt,_,KW⟩:=r0
  exact ⟨xs,e2,au.back p ds vt xs KW rs⟩
 | _=>exact r1
theorem nW (e:H a=some (.lst xs)) (ρ:List Addr):cC K H (upd H a (.cV o (.lst xs))) ρ ρ:=by
 refine ⟨λb zs h=>?_,λb q u h=>by rw [az (dH h e (by intro z;cases z))];exact h,⟨[],by simp⟩,λb φ h=>by rw [az (dH h e (by intro z;cases z))];exact h⟩
 ·rw [rG] at h ⊢;rw [az (dH h e (by intro z;cases z))];exact h
theorem eS.cV (h:eS K mg H ρ G) (hn:ρ[n]?=some a) (e:H a=some (.lst xs)):eS K mg (upd H a (.cV o (.lst xs))) ρ (G.set n .dead):=by
 have f:cC K H (upd H a (.cV o (.lst xs))) ρ ρ:=nW e ρ
 refine ⟨by simp [h.hl],h.nd,λm ob q=>?_⟩
 by_cases hm:n=m
 ·subst hm
  rw [XW,if_pos rfl] at q
  split at q
  ·cases q
   exact ⟨a,hn,_,aM⟩
  ·cases q
 ·rw [XC hm] at q
  obtain ⟨b,e1,r'⟩:=h.ob m ob q
  have hb:b≠a:=by
   rintro rfl
   obtain ⟨h1,xj⟩:=WS.mp hn
   obtain ⟨h2,yO⟩:=WS.mp e1
   exact hm ((Yh h.nd).mp (xj.trans yO.symm))
  exact ⟨b,e1,r'.mono f λu q=>by rw [az hb];exact q⟩
end
section
variable {X:Cx} {EE:cz}
theorem yW (I:Inv X pins σ H s) (e:H a=some (.lst xs)):∃ o,Inv X pins σ (upd H a (.cV o (.lst xs))) s:=by
 obtain ⟨z,its,n,r,hg⟩:=I.hok a _ e
 refine ⟨_,I.un (H':=upd H a (.cV {cls:=.type "list",data:=.seq its.toArray n} (.lst xs))) (h':=s.heap) (t':=s.toks) ⟨λb o q _ _ _=>q,λb o q _ _ _=>⟨o.slots,q⟩,λb o q hn _=>?_,λb o q _=>⟨o,q⟩,λb ys q=>?_,λb o u q=>?_,λb ps q=>⟨#[],?_⟩⟩ λb u q=>?_⟩
 ·rw [az (by rintro rfl;rw [e] at hn;cases hn)];exact hn
 ·rw [az (dH q e (by intro z;cases z))];exact q
 ·rw [az (dH q e (by intro z;cases z))];exact q
 ·rw [az (dH q e (by intro z;cases z)),q];simp
 ·have ho:∀ c y,H c=some (.own y)→upd H a (.cV {cls:=.type "list",data:=.seq its.toArray n} (.lst xs)) c=some (.own y):=λc y w=>by rw [az (dH w e (by intro z;cases z))];exact w
  have ht:∀ c ys,H c=some (.tup ys)→upd H a (.cV {cls:=.type "list",data:=.seq its.toArray n} (.lst xs)) c=some (.tup ys):=λc ys w=>by rw [az (dH w e (by intro z;cases z))];exact w
  by_cases hb:b=a
  ·subst hb
   rw [aM] at q;cases q
   exact ⟨hg,(I.hok b _ e).stay (λ_ _ _ w=>w) (λc w=>ho c b w) ht⟩
  ·rw [az hb] at q
   exact (I.hok b u q).stay (λ_ _ _ w=>w) (λc w=>ho c b w) ht
noncomputable def xm (m:DS→M D):DS→M D:=λτ G=>match m τ G with
 | .ok (.obj n) G'=>match G'[n]? with
  | some (.lst ds)=>.ok (.con ds) (G'.set n .dead)
  | _=>.stuck
 | r=>r
noncomputable def eFn (m:DS→M D):DS→M D:=λτ G=>match m τ G with
 | .ok (.obj n) G'=>match G'[n]? with
  | some (.lst ds)=>if n=G.length∧G'.length=n+1∧lR (G'.take G.length) G=true∧aD ds=true then .ok (.con ds) G else .stuck
  | _=>.stuck
 | r=>r
theorem CI {Q Q':VK} {u:V0} (h:EP X pins σ Q' u s) (hq:∀ v H',Q' v H'→Q v H'∨∃ a xs,v=.ref a∧H' a=some (.lst xs)∧∀ o,Q v (upd H' a (.cV o (.lst xs)))):EP X pins σ Q u s:=by
 obtain ⟨v,H',I,r,q⟩:=h
 rcases hq v H' q with q | ⟨a,xs,rfl,e,q⟩
 ·exact ⟨v,H',I,r,q⟩
 ·obtain ⟨o,I'⟩:=yW I e
  exact ⟨_,_,I',r,q o⟩
theorem Nv (ha:QE X EE e m):QE X EE e (xm m):=by
 intro pins s σ H Q I zu
 obtain ⟨τ,ρ,G,ab,ok⟩:=zu
 dsimp only [xm] at ok
 cases q:m τ G with
 | stuck=>rw [q] at ok;exact ok.elim
 | bH c G'=>rw [q] at ok;exact ha pins s σ H Q I ⟨τ,ρ,G,ab,by rw [q];exact ok⟩
 | ok d G'=>
  rw [q] at ok
  by_cases hd:∃ n,d=.obj n
  ·obtain ⟨n,rfl⟩:=hd
   dsimp only at ok
   cases g:G'[n]? with
   | none=>rw [g] at ok;exact ok.elim
   | some o=>
    rw [g] at ok
    cases o with
    | lst ds=>
     refine cY (ha pins s σ H (λv H'=>∃ a xs,v=.ref a∧H' a=some (.lst xs)∧∀ o,Q v (upd H' a (.cV o (.lst xs)))) I ⟨τ,ρ,G,ab,?_⟩) λu s' h=>CI h λv H' q=>.inr q
     rw [q]
     intro v H' ρ' f aZ r
     unfold Rep at r
     obtain ⟨a,rfl,hn⟩:=r
     obtain ⟨a',xs,e1,e2,rs⟩:=aZ.hp.lst g
     rw [hn] at e1;cases e1
     refine ⟨a,xs,rfl,e2,λob=>?_⟩
     have f2:cC X.K H' (upd H' a (.cV ob (.lst xs))) ρ' ρ':=nW e2 ρ'
     refine ok _ _ ρ' (f.trans f2) ⟨aZ.st.mono f2,aZ.hp.cV hn e2⟩ ?_
     unfold Rep
     exact ⟨a,xs,rfl,.inl ⟨ob,aM⟩,rs.mono f2⟩
    | _=>exact ok.elim
  ·have ok':iM X.K X.mg EE H σ τ ρ (.ok d G') Q:=by
    cases d<;>first | exact ok | exact absurd ⟨_,rfl⟩ hd
   exact ha pins s σ H Q I ⟨τ,ρ,G,ab,by rw [q];exact ok'⟩
theorem KY (ha:QE X EE e m):QE X EE e (eFn m):=by
 intro pins s σ H Q I zu
 obtain ⟨τ,ρ,G,ab,ok⟩:=zu
 dsimp only [eFn] at ok
 cases q:m τ G with
 | stuck=>rw [q] at ok;exact ok.elim
 | bH c G'=>rw [q] at ok;exact ha pins s σ H Q I ⟨τ,ρ,G,ab,by rw [q];exact ok⟩
 | ok d G'=>
  rw [q] at ok
  by_cases hd:∃ n,d=.obj n
  ·obtain ⟨n,rfl⟩:=hd
   dsimp only at ok
   cases g:G'[n]? with
   | none=>rw [g] at ok;exact ok.elim
   | some o=>
    rw [g] at ok
    cases o with
    | lst ds=>
     dsimp only at ok
     by_cases hc:n=G.length∧G'.length=n+1∧lR (G'.take G.length) G=true∧aD ds=true
     ·rw [if_pos hc] at ok
      obtain ⟨hn0,hl,hb,hcl⟩:=hc
      refine cY (ha pins s σ H (λv H'=>∃ a xs,v=.ref a∧H' a=some (.lst xs)∧∀ o,Q v (upd H' a (.cV o (.lst xs)))) I ⟨τ,ρ,G,ab,?_⟩) λu s' h=>CI h λv H' q=>.inr q
      rw [q]
      intro v H' ρ' f aZ r
      unfold Rep at r
      obtain ⟨a,rfl,hn⟩:=r
      obtain ⟨a',xs,e1,e2,rs⟩:=aZ.hp.lst g
      rw [hn] at e1;cases e1
      refine ⟨a,xs,rfl,e2,λob=>?_⟩
      have f2:cC X.K H' (upd H' a (.cV ob (.lst xs))) ρ' ρ':=nW e2 ρ'
      have f3:cC X.K H (upd H' a (.cV ob (.lst xs))) ρ ρ:=⟨λb ys w=>f2.tup b ys (f.tup b ys w),λb o u w=>f2.cV b o u (f.cV b o u w),⟨[],by simp⟩,λb φ w=>f2.ext b φ (f.ext b φ w)⟩
      have hp2:=aZ.hp.cV (o:=ob) hn e2
      have o7:eS X.K X.mg (upd H' a (.cV ob (.lst xs))) ρ G:=ab.hp.cut f.pre hp2 (by
       rw [abu (by nofun)]
       exact j8 _ _ hb)
      refine ok _ _ ρ f3 ⟨ab.st.mono f3,o7⟩ ?_
      unfold Rep
      exact ⟨a,xs,rfl,.inl ⟨ob,aM⟩,fF ds xs hcl (rs.mono f2)⟩
     ·rw [if_neg hc] at ok;exact ok.elim
    | _=>exact ok.elim
  ·have ok':iM X.K X.mg EE H σ τ ρ (.ok d G') Q:=by
    cases d<;>first | exact ok | exact absurd ⟨_,rfl⟩ hd
   exact ha pins s σ H Q I ⟨τ,ρ,G,ab,by rw [q];exact ok'⟩
end
noncomputable def cF (m:List D→M D):List D→M D:=λds G=>match m ds G with
 | .ok d G'=>if lR (G'.take G.length) G=true∧d.closed=true then .ok d G else .stuck
 | .bH c G'=>if lR (G'.take G.length) G=true then .bH c G else .stuck
 | .stuck=>.stuck
noncomputable def o8 (m:List D→M D):List D→M D:=λds G=>match m ds G with
 | .ok (.obj n) G'=>match G'[n]? with
  | some (.lst xs)=>if lR (G'.take G.length) G=true∧G.length≤n∧aD xs=true then .ok (.obj G.length) (G++[.lst xs]) else .stuck
  | _=>.stuck
 | .bH c G'=>if lR (G'.take G.length) G=true then .bH c G else .stuck
 | _=>.stuck
section
variable {K:WV} {mg:Str→Option V0} {n:Nat} {m:List D→M D}
theorem lS (f:cC K H H' ρ ρ'):cC K H H' ρ ρ:=⟨f.tup,f.cV,⟨[],by simp⟩,f.ext⟩
theorem tM (vs:List V) (H:Hp) (Q:VK) (E:XK) (h:gC K mg n (cF m) vs H Q E):gC K mg n m vs H Q E:=by
 obtain ⟨ds,ρ,G,hl,hp,rs,ok⟩:=h
 refine ⟨ds,ρ,G,hl,hp,rs,?_⟩
 dsimp only [cF] at ok
 cases q:m ds G with
 | stuck=>rw [q] at ok;exact ok
 | ok d G'=>
  rw [q] at ok
  dsimp only at ok
  by_cases hc:lR (G'.take G.length) G=true∧d.closed=true
  ·rw [if_pos hc] at ok
   intro v H' ρ' f uF r
   exact ok v H' ρ (lS f) (hp.cut f.pre uF (j8 _ _ hc.1)) (o6 d v hc.2 r)
  ·rw [if_neg hc] at ok;exact ok.elim
 | bH c G'=>
  rw [q] at ok
  dsimp only at ok
  by_cases hc:lR (G'.take G.length) G=true
  ·rw [if_pos hc] at ok
   intro cls H' ρ' hcl f uF
   exact ok cls H' ρ hcl (lS f) (hp.cut f.pre uF (j8 _ _ hc))
  ·rw [if_neg hc] at ok;exact ok.elim
theorem CJ (vs:List V) (H:Hp) (Q:VK) (E:XK) (h:gC K mg n (o8 m) vs H Q E):gC K mg n m vs H Q E:=by
 obtain ⟨ds,ρ,G,hl,hp,rs,ok⟩:=h
 refine ⟨ds,ρ,G,hl,hp,rs,?_⟩
 dsimp only [o8] at ok
 cases q:m ds G with
 | stuck=>rw [q] at ok;exact ok
 | bH c G'=>
  rw [q] at ok
  dsimp only at ok
  by_cases hc:lR (G'.take G.length) G=true
  ·rw [if_pos hc] at ok
   intro cls H' ρ' hcl f uF
   exact ok cls H' ρ hcl (lS f) (hp.cut f.pre uF (j8 _ _ hc))
  ·rw [if_neg hc] at ok;exact ok.elim
 | ok d G'=>
  rw [q] at ok
  cases d<;>try exact ok.elim
  rename_i k
  dsimp only at ok
  cases g:G'[k]? with
  | none=>rw [g] at ok;exact ok.elim
  | some o=>
   rw [g] at ok
   cases o with
   | lst xs=>
    dsimp only at ok
    by_cases hc:lR (G'.take G.length) G=true∧G.length≤k∧aD xs=true
    ·rw [if_pos hc] at ok
     intro v H' ρ' f uF r
     unfold Rep at r
     obtain ⟨a,rfl,hn⟩:=r
     obtain ⟨a',ys,e1,e2,rs'⟩:=uF.lst g
     rw [hn] at e1;cases e1
     have hp2:=hp.cut f.pre uF (j8 _ _ hc.1)
     have hna:a∉ρ:=by
      intro hm
      obtain ⟨j,hj,ej⟩:=Yo hm
      obtain ⟨r,rfl⟩:=f.pre
      obtain ⟨h1,xj⟩:=WS.mp hn
      have hjl:j<(ρ++r).length:=by simp;nofun
      have:(ρ++r)[j]=(ρ++r)[k]:=by rw [xj,List.getElem_append_left hj,ej]
      have:=(Yh uF.nd).mp this
      have:=hp.hl
      nofun
     refine ok (.ref a) H' (ρ++[a]) ((lS f).trans (cS ρ a)) ?_ (by unfold Rep;exact ⟨a,rfl,by rw [← hp.hl];simp⟩)
     refine ⟨by simp [hp.hl],?_,λj ob e=>?_⟩
     ·rw [Y7]
      refine ⟨hp.nd,by simp,λx hx y hy=>?_⟩
      have e:y=a:=by simpa using hy
      subst e
      rintro rfl
      exact hna hx
     ·by_cases hj:j<G.length
      ·rw [W7 hj] at e
       obtain ⟨b,e3,r3⟩:=hp2.ob j ob e
       exact ⟨b,(cS (K:=K) (H:=H') ρ a).get e3,r3.mono (cS ρ a) λu q=>q⟩
      ·have hl2:j<(G++[DO.lst xs]).length:=(WS.mp e).1
       have hj':j=G.length:=by simp at hl2;nofun
       subst hj'
       rw [aC] at e
       cases e
       exact ⟨a,by rw [← hp.hl,aC],ys,e2,fF xs ys hc.2.2 rs'⟩
    ·rw [if_neg hc] at ok;exact ok.elim
   | _=>exact ok.elim
end
noncomputable def qY (K:WV) (a:Addr) (n:Nat):It:=
 ⟨λi H=>∃ xs x,jY K H a xs∧xs.length=n∧i<n∧xs[n - 1 - i]?=some x,λi H y H'=>H'=H∧∀ xs,jY K H a xs→xs[n - 1 - i]?=some y,λi H=>i=n⟩
theorem CK (a it:Addr) (n:Nat):Turn P w K tg (qY K a n) [it] it (λi h=>h.IsRevIter it a ((n:Int) - 1 - (i:Int))) where
 mem:=by simp
 obj:=λi h st b hb=>by
  have e:b=it:=by simpa using hb
  subst e
  obtain ⟨o,e,c,d⟩:=st
  exact ⟨o,e,λv z=>by rw [d] at z;cases z⟩
 keep:=λi h h' st k=>st.at λo e=>k it (by simp) o e
 item:=by
  intro X hP hw hK hc i pins s σ H E I hf st hg
  subst hP hw hK
  obtain ⟨xs,x,hq,hn,hi,hx⟩:=hg
  obtain ⟨its,rv,p,hz⟩:=I.list hq
  obtain ⟨u,hu,ru⟩:=rv.get hx
  obtain ⟨f0,f1,f2,f3,f4,f5⟩:=hf it (by simp)
  have e:(n:Int) - 1 - (i:Int)=((n - 1 - i:Nat):Int):=by nofun
  rw [e] at st
  refine wpAny_pyNext_rev_item st p.isList (x:=u) (by simpa using hu) λh' st' sb=>?_
  have I1:Inv X pins σ H {s with heap:=h'}:=I.turned (t':=s.toks) (λb o hb e=>(sb.2 b hb).trans e) f0 f1 f3 f4 f5
  have e2:((n - 1 - i:Nat):Int) - 1=(n:Int) - 1 - ((i+1:Nat):Int):=by nofun
  rw [e2] at st'
  obtain ⟨o,e,c,d⟩:=id st'
  exact ⟨u,rfl,oq (s:={s with heap:=h'}) e c d (by decide) ⟨x,H,I1,ru,⟨rfl,λys hy=>by rw [I.lq hy hq];exact hx⟩,st',λb hb=>(hf b hb).1⟩⟩
 done:=by
  intro X hP hw hK hc i pins s σ H E I hf st hg
  subst hP hw hK
  have hi:i=n:=hg
  subst hi
  obtain ⟨f0,f1,f2,f3,f4,f5⟩:=hf it (by simp)
  rw [show (i:Int) - 1 - (i:Int)=-1 by nofun] at st
  exact wpAny_pyNext_rev_end (I.ok.hd hc) st λh' eb=>⟨rfl,I.turned (t':=s.toks) (λb o hb e=>eb b o hb e) f0 f1 f3 f4 f5⟩
 self:=λ_ _ _ _ _ st h=>Z6 st h
noncomputable def xU (d:D) (n:Nat):View:=λG i=>match aA G d with
 | some (.lst xs)=>if xs.length=n then (if i=n then some none else if i<n then some xs[n - 1 - i]? else none) else none
 | _=>none
noncomputable def CL (m:DS→M (List D)):MI:=λτ=>(m τ).bind λds=>match ds with
 | [d]=>λG=>match aA G d with
  | some (.lst xs)=>.ok (xs.length+1,xU d xs.length) G
  | _=>.stuck
 | _=>M.stop
section
variable {X:Cx} {EE:cz} {tg iter a b:Expr} {g:kL} {mi:MI} {ms:MS} {pos p pc:Pos} {m:DS→M (List D)}
theorem CM {d:D} {ws:List D} (f:cC X.K H H' ρ ρ') (rx:Rep X.K X.mg ρ H d (.ref l)) (hp:eS X.K X.mg H' ρ' G') (q:aA G' d=some (.lst ws)):∃ xs,jY X.K H' l xs∧au X.K X.mg ρ' H' ws xs:=by
 have OO:=rx.mono f
 cases d with
 | con ds=>
  cases q
  unfold Rep at OO
  obtain ⟨a',xs,e,s,r⟩:=OO
  cases e
  exact ⟨xs,s.seq,r⟩
 | obj n=>
  unfold Rep at OO
  obtain ⟨a',e,r⟩:=OO
  cases e
  dsimp only [aA] at q
  cases g:G'[n]? with
  | none=>rw [g] at q;cases q
  | some o=>
   cases o with
   | lst ys=>
    rw [g] at q;cases q
    obtain ⟨a',xs,e1,e2,rs⟩:=hp.lst g
    rw [r] at e1;cases e1
    exact ⟨xs,.inl (.of e2),rs⟩
   | _=>rw [g] at q;cases q
 | _=>cases q
theorem KZ {d:D} (rx:Rep X.K X.mg ρ H d (.ref l)):JV X.K X.mg (qY X.K l n) (xU d n) H ρ:=by
 intro i H' ρ' G' f hp
 unfold xU
 cases q:aA G' d with
 | none=>exact ⟨λe=>(by cases e),λx e=>(by cases e)⟩
 | some sk=>
  cases sk with
  | tup zs=>exact ⟨λe=>(by cases e),λx e=>(by cases e)⟩
  | str z=>exact ⟨λe=>(by cases e),λx e=>(by cases e)⟩
  | lst zs=>
   dsimp only
   by_cases hn:zs.length=n
   ·rw [if_pos hn]
    by_cases hi:i=n
    ·rw [if_pos hi]
     exact ⟨λ_=>hi,λx e=>(by cases e)⟩
    ·rw [if_neg hi]
     by_cases hlt:i<n
     ·rw [if_pos hlt]
      obtain ⟨xs,sq,rs⟩:=CM f rx hp q
      refine ⟨λe=>?_,λx e=>?_⟩
      ·have:=XJ e
       rw [XN] at this
       nofun
      ·have e':=XJ e
       obtain ⟨v,hv,rv⟩:=rs.get e'
       refine ⟨⟨xs,v,sq,by rw [← rs.length];exact hn,hlt,hv⟩,λy H2 hy=>?_⟩
       obtain ⟨rfl,hy⟩:=hy
       have:=hy xs sq
       rw [hv] at this;cases this
       exact ⟨⟨.refl,λ_ h=>h⟩,rv⟩
     ·rw [if_neg hlt];exact ⟨λe=>(by cases e),λx e=>(by cases e)⟩
   ·rw [if_neg hn];exact ⟨λe=>(by cases e),λx e=>(by cases e)⟩
theorem K0 (hm:X.mg "reversed"=none) (qD:Gl X "reversed") (ha:QA X EE [a] m) (h:aq [a]=true:=by rfl):QI X EE tg (.Call (.Name "reversed" p) [a] [] pc) (CL m):=by
 have h':bg a=true∧aq []=true:=by simpa [aq] using h
 intro pins s σ H R I hq
 obtain ⟨τ,ρ,G,ab,ok⟩:=hq
 dsimp only [CL,M.bind] at ok
 refine Xw (fq I qD hm oV ?_ (by decide) (by decide))
 have hA:gU X.K X.mg EE m σ H λvs H1=>∃ ρ1 G1 ds,Ab X.K X.mg σ H1 τ ρ1 G1∧cC X.K H H1 ρ ρ1∧au X.K X.mg ρ1 H1 ds vs∧m τ G=.ok ds G1:=by
  refine ⟨τ,ρ,G,ab,?_⟩
  cases e:m τ G with
  | stuck=>rw [e] at ok;exact ok
  | bH c G'=>rw [e] at ok;exact ok
  | ok ds G'=>exact λvs H' ρ' f aZ r=>⟨ρ',G',ds,aZ,f,r,rfl⟩
 refine Xr (cY (ha pc pins s σ H _ I hA) λus s1 nQ=>?_) (aO h'.1 _ _) (aY (es:=[]) rfl)
 obtain ⟨vs,H1,I1,r1,ρ1,G1,ds,gn,f1,rs,em⟩:=nQ
 rw [em] at ok
 dsimp only at ok
 match ds,rs,ok with
 | [],_,ok=>exact ok.elim
 | _::_::_,_,ok=>exact ok.elim
 | [d],rs,ok=>
  obtain ⟨x,rfl,rx⟩:=ir rs
  obtain ⟨u,rfl,ru⟩:=vals1 r1
  dsimp only at ok
  cases q:aA G1 d with
  | none=>rw [q] at ok;exact ok.elim
  | some sk=>
   rw [q] at ok
   cases sk with
   | tup zs=>exact ok.elim
   | str z=>exact ok.elim
   | lst zs=>
    dsimp only at ok
    obtain ⟨l,ys,rfl,sq,rv⟩:=ck (pins:=pins) (σ0:=σ) (s:=s1) gn.hp rx q
    cases ru
    obtain ⟨its,vv,pl,hz⟩:=I1.list sq
    refine call_reversed_list pl.isList ?_
    have hst:(s1.heap.push (revObj l ((its.toArray.size:Int) - 1))).IsRevIter s1.heap.objs.size l ((its.toArray.size:Int) - 1):=⟨_,W5 _ rfl,rfl,rfl⟩
    refine Z6 (s:={s1 with heap:=s1.heap.push (revObj l ((its.toArray.size:Int) - 1))}) hst ?_
    have I2:Inv X pins σ H1 {s1 with heap:=s1.heap.push (revObj l ((its.toArray.size:Int) - 1))}:=I1.kept (t':=s1.toks) λb o e=>WQ _ e
    have hlen:its.toArray.size=zs.length:=by rw [Xg,← vv.length,rv.length]
    refine ⟨s1.heap.objs.size,[s1.heap.objs.size],_,qY X.K l zs.length,H1,rfl,I2,CK l _ _,?_,λb hb=>?_,ok _ H1 ρ1 f1 gn (KZ rx)⟩
    ·show (s1.heap.push (revObj l ((its.toArray.size:Int) - 1))).IsRevIter s1.heap.objs.size l ((zs.length:Int) - 1 - ((0:Nat):Int))
     rw [← hlen]
     simpa using hst
    ·rw [Xj.mp hb]
     exact I1.nG (WZ _) (I1.hok.fresh (WZ _))
end
noncomputable def Nx (d e:D):View:=λG i=>match aA G d,aA G e with
 | some (.lst xs),some (.lst ys)=>some (match xs[i]?,ys[i]? with
  | some x,some y=>some (.tup [x,y])
  | _,_=>none)
 | _,_=>none
noncomputable def Qp (m:DS→M (List D)):MI:=λτ=>(m τ).bind λds=>match ds with
 | [d,e]=>λG=>match aA G d,aA G e with
  | some (.lst xs),some (.lst ys)=>.ok (min xs.length ys.length+1,Nx d e) G
  | _,_=>.stuck
 | _=>M.stop
theorem boot_zip:bootBuiltins "zip"=some (.type "zip"):=by symm
section
open PyProof.Rows
section
variable {X:Cx} {EE:cz} {a b e:Expr} {ma mb:DS→M D} {pos:Pos}
theorem F7:iK X (binaryOp .Add) (λx y H Q=>∃ l b xs zs,x=.ref l∧y=.ref b∧jY X.K H l xs∧jY X.K H b zs∧xs.length+zs.length≤WO∧∀ p,H p=none→Q (.ref p) (upd H p (.lst (xs++zs)))):=by
 intro pins s σ H x y v u Q I rx ry h
 obtain ⟨l,b,xs,zs,rfl,rfl,hH,hB,hz,q⟩:=h
 cases rx
 cases ry
 obtain ⟨its,r,⟨o,n,e,c,dn,d⟩,hl⟩:=I.list hH
 obtain ⟨its2,r2,⟨o2,n2,e2,c2,Ny,d2⟩,hl2⟩:=I.list hB
 obtain ⟨cls,dd,data,sl⟩:=o
 obtain ⟨Jv,dd2,data2,sl2⟩:=o2
 simp only at c dn d c2 Ny d2
 subst c dn d c2 Ny d2
 have hlen:=r.length
 have hlen2:=r2.length
 have ea:its.toArray++its2.toArray=(its++its2).toArray:=by simp
 refine concat_meets ⟨_,e,rfl⟩ ⟨_,e2,rfl⟩ noFill_list_add seq_list_add PySem.F.slot_list_add PySem.F.entry_list_add (PySem.F.args_list_add_2 _ _) (list_addW l b its.toArray its2.toArray n n2 _ _ sl sl2 (by simp only [Xg];nofun)) ⟨e,e2,?_⟩
 rw [ea]
 exact ⟨.ref _,_,I.PN (t':=s.toks) (r.append r2) (by rw [W9];nofun),rfl,q _ I.fresh⟩
theorem F8:iK X (binaryOp .Add) (λx y H Q=>∃ a b ys,x=.ref a∧y=.ref b∧kC X.K H a []∧kC X.K H b ys∧Q (.ref b) H):=by
 intro pins s σ H x y v u Q I rx ry h
 obtain ⟨a,b,ys,rfl,rfl,ha,hb,q⟩:=h
 cases rx
 cases ry
 obtain ⟨its,r1,p1,_⟩:=I.tuple ha
 obtain ⟨its2,r2,p2,_⟩:=I.tuple hb
 have e0:its=[]:=by cases r1;rfl
 subst e0
 obtain ⟨⟨cls,dd,data,sl⟩,ho,hc,n,hd⟩:=id p1
 obtain ⟨⟨Jv,dd2,data2,sl2⟩,ho2,hc2,n2,hd2⟩:=id p2
 simp only at hc hd hc2 hd2
 subst hc hd hc2 hd2
 exact concat_meets ⟨_,ho,rfl⟩ ⟨_,ho2,rfl⟩ noFill_tuple_add seq_tuple_add ZN ZG (ZA _ _)
   (tuple_addW0 a b _ _ n n2 dd dd2 sl sl2 (by simp)) ⟨ho,ho2,⟨.ref b,H,I,rfl,q⟩⟩
noncomputable def mP (G:DH):D→Option (List D)
 | .con xs=>some xs
 | .obj n=>match G[n]? with
  | some (.lst xs)=>some xs
  | _=>none
 | _=>none
theorem o9 {d:D} {xs:List D} (h:mP G d=some xs):aA G d=some (.lst xs):=by
 cases d with
 | con ys=>cases h;rfl
 | obj n=>
  dsimp only [mP] at h
  dsimp only [aA]
  cases g:G[n]? with
  | none=>rw [g] at h;cases h
  | some o=>
   cases o with
   | lst ys=>rw [g] at h;cases h;rfl
   | _=>rw [g] at h;cases h
 | _=>cases h
noncomputable def aE (d e:D):M D:=λG=>match d,e with
 | .int i,.int j=>.ok (.int (i+j)) G
 | .str i,.str j=>if i.length+j.length≤WO then .ok (.str (i++j)) G else .stuck
 | .tup [],.tup ys=>.ok (.tup ys) G
 | .tup (x::xs),.tup ys=>bA (x::xs++ys) G
 | d,e=>match mP G d,mP G e with
  | some xs,some ys=>aP (xs++ys) G
  | _,_=>.stuck
theorem F9:iK X (binaryOp .Add) (rD X EE aE):=by
 intro pins s σ0 H x y v u Q I rx ry zu
 obtain ⟨σ,τ,ρ,G,d,e,ab,r1,r2,ok⟩:=zu
 have lists:∀ xs ys,mP G d=some xs→mP G e=some ys→iM X.K X.mg EE H σ τ ρ (aP (xs++ys) G) Q→Xe (model X.prog X.w) X.A (binaryOp .Add v u) (EP X pins σ0 Q) X.xe s:=λxs ys h1 h2 ok=>by
  obtain ⟨l,vs,rfl,s1,t1⟩:=ck (pins:=pins) (σ0:=σ0) (s:=s) ab.hp r1 (o9 h1)
  obtain ⟨l2,ws,rfl,s2,t2⟩:=ck (pins:=pins) (σ0:=σ0) (s:=s) ab.hp r2 (o9 h2)
  obtain ⟨hl,q1⟩:=mF ab (t1.append t2) ok
  rw [W9] at hl
  exact F7 pins s σ0 H _ _ v u Q I rx ry ⟨l,l2,vs,ws,rfl,rfl,s1,s2,hl,q1⟩
 have rest:(iM X.K X.mg EE H σ τ ρ (match mP G d,mP G e with
  | some xs,some ys=>aP (xs++ys) G
  | _,_=>.stuck) Q)→Xe (model X.prog X.w) X.A (binaryOp .Add v u) (EP X pins σ0 Q) X.xe s:=λok=>by
  cases h1:mP G d with
  | none=>rw [h1] at ok;exact ok.elim
  | some xs=>
   cases h2:mP G e with
   | none=>rw [h1,h2] at ok;exact ok.elim
   | some ys=>rw [h1,h2] at ok;exact lists xs ys h1 h2 ok
 cases d with
 | int i=>
  cases e with
  | int j=>
   unfold Rep at r1 r2;subst r1 r2
   exact Jc pins s σ0 H _ _ v u Q I rx ry ⟨i,j,rfl,rfl,ok _ H ρ .refl ab (by unfold Rep;rfl)⟩
  | _=>exact rest ok
 | str i=>
  cases e with
  | str j=>
   unfold Rep at r1 r2;subst r1 r2
   dsimp only [aE] at ok
   by_cases h:i.length+j.length≤WO
   ·rw [if_pos h] at ok
    exact xB pins s σ0 H _ _ v u Q I rx ry ⟨i,j,rfl,rfl,h,ok _ H ρ .refl ab (by unfold Rep;rfl)⟩
   ·rw [if_neg h] at ok;exact ok.elim
  | _=>exact rest ok
 | tup xs=>
  cases e with
  | tup ys=>
   have r2':=r2
   unfold Rep at r1 r2
   obtain ⟨p,vs,rfl,s1,t1⟩:=r1
   obtain ⟨q,ws,rfl,s2,t2⟩:=r2
   cases xs with
   | nil=>
    have hv:vs=[]:=by have:=t1.length;cases vs with | nil=>rfl | cons _ _=>simp at this
    subst hv
    exact F8 pins s σ0 H _ _ v u Q I rx ry ⟨p,q,ws,rfl,rfl,s1,s2,ok _ H ρ .refl ab r2'⟩
   | cons x xs=>
    have ok':iM X.K X.mg EE H σ τ ρ (bA (x::xs++ys) G) Q:=ok
    have Ub:=t1.append t2
    obtain ⟨hl,q1⟩:=tu ab Ub ok'
    rw [W9] at hl
    have hv:vs≠[]:=by
     intro z;subst z
     have:=t1.length
     simp at this
    refine ES pins s σ0 H _ _ v u Q I rx ry ⟨p,q,vs,ws,rfl,rfl,s1,s2,hv,hl,λz=>?_,λz p hp=>q1 p hp⟩
    subst z
    have hy:ys=[]:=by
     have:=t2.length
     cases ys with
     | nil=>rfl
     | cons _ _=>simp at this
    subst hy
    unfold bA at ok'
    split at ok'
    ·exact ok' _ H ρ .refl ab (by rw [Xv];unfold Rep;exact ⟨p,vs,rfl,s1,t1⟩)
    ·exact ok'.elim
  | _=>cases xs<;>exact rest ok
 | _=>exact rest (by cases e<;>exact ok)
theorem Ga (ha:QE X EE a ma) (hb:QE X EE b mb):QE X EE (.BinOp a .Add b pos) (ak aE ma mb):=jE F9 lE ha hb
theorem K1 {f:Flow} (h:SP X pins D' f s) (hb:D'.bk=Dd.bk) (hc:D'.ct=Dd.ct) (hr:D'.rt=Dd.rt)
  (hq:∀ σ H,D'.nx σ H→Dd.nx σ H∨∃ a xs,H a=some (.lst xs)∧∀ o,Dd.nx σ (upd H a (.cV o (.lst xs)))):SP X pins Dd f s:=by
 obtain ⟨nx,bk,ct,rt⟩:=D'
 subst hb hc hr
 cases f with
 | next=>
  obtain ⟨σ',H',I,q⟩:=h
  rcases hq σ' H' q with q | ⟨a,xs,e,q⟩
  ·exact ⟨σ',H',I,q⟩
  ·obtain ⟨o,I'⟩:=yW I e
   exact ⟨σ',_,I',q o⟩
 | _=>exact h
theorem Nz {st:Stmt} (hs:QS X EE st (aN i m)):QS X EE st (aN i (eFn m)):=by
 intro pins s σ H Dd I zu
 obtain ⟨τ,ρ,G,ab,ok⟩:=zu
 dsimp only [aN,bN,eFn] at ok
 cases q:m τ G with
 | stuck=>rw [q] at ok;exact ok.elim
 | bH c G'=>rw [q] at ok;exact hs pins s σ H Dd I ⟨τ,ρ,G,ab,by dsimp only [aN,bN];rw [q];exact ok⟩
 | ok d G'=>
  rw [q] at ok
  by_cases hd:∃ n,d=.obj n
  ·obtain ⟨n,rfl⟩:=hd
   dsimp only at ok
   cases g:G'[n]? with
   | none=>rw [g] at ok;exact ok.elim
   | some o=>
    rw [g] at ok
    cases o with
    | lst ds=>
     dsimp only at ok
     by_cases hc:n=G.length∧G'.length=n+1∧lR (G'.take G.length) G=true∧aD ds=true
     ·rw [if_pos hc] at ok
      obtain ⟨hn0,hl,hb,hcl⟩:=hc
      refine cY (hs pins s σ H {Dd with nx:=λσ' H'=>∃ a xs,H' a=some (.lst xs)∧∀ o,Dd.nx σ' (upd H' a (.cV o (.lst xs)))} I ⟨τ,ρ,G,ab,?_⟩) λu s' h=>K1 h rfl rfl rfl λσ' H' q=>.inr q
      dsimp only [aN,bN]
      rw [q]
      intro σ' H' ρ' f aZ
      obtain ⟨a,xs,e1,e2,rs⟩:=aZ.hp.lst g
      refine ⟨a,xs,e2,λob=>?_⟩
      have f2:cC X.K H' (upd H' a (.cV ob (.lst xs))) ρ' ρ':=nW e2 ρ'
      have f3:cC X.K H (upd H' a (.cV ob (.lst xs))) ρ ρ:=⟨λb ys w=>f2.tup b ys (f.tup b ys w),λb o u w=>f2.cV b o u (f.cV b o u w),⟨[],by simp⟩,λb φ w=>f2.ext b φ (f.ext b φ w)⟩
      have o7:eS X.K X.mg (upd H' a (.cV ob (.lst xs))) ρ G:=ab.hp.cut f.pre (aZ.hp.cV (o:=ob) e1 e2) (by
       rw [abu (by nofun)]
       exact j8 _ _ hb)
      refine ok σ' _ ρ f3 ⟨⟨by rw [aZ.st.1];simp,λj dj ej=>?_⟩,o7⟩
      by_cases hij:i=j
      ·subst hij
       by_cases hi:i<τ.length
       ·rw [XW,if_pos rfl,if_pos hi] at ej
        cases ej
        obtain ⟨vv,ev,rv⟩:=aZ.st.2 i (.obj n) (by rw [XW,if_pos rfl,if_pos hi])
        unfold Rep at rv
        obtain ⟨a',rfl,hn'⟩:=rv
        rw [e1] at hn';cases hn'
        refine ⟨_,ev,?_⟩
        unfold Rep
        exact ⟨a,xs,rfl,.inl ⟨ob,aM⟩,fF ds xs hcl (rs.mono f2)⟩
       ·rw [XW,if_pos rfl,if_neg hi] at ej;cases ej
      ·have VW:=ej
       rw [XC hij] at ej
       obtain ⟨v',ev',Uc⟩:=aZ.st.2 j dj (by rw [XC hij];exact ej)
       obtain ⟨v0,NB,Ud⟩:=ab.st.2 j dj ej
       exact ⟨v',ev',Rep.back f.pre dj v0 v' Ud (Uc.mono f2)⟩
     ·rw [if_neg hc] at ok;exact ok.elim
    | _=>exact ok.elim
  ·have ok':qH X.K X.mg EE H ρ Dd (.nx (τ.set i (some d)) G'):=by
    cases d<;>first | exact ok | exact absurd ⟨_,rfl⟩ hd
   exact hs pins s σ H Dd I ⟨τ,ρ,G,ab,by dsimp only [aN,bN];rw [q];exact ok'⟩
theorem xV (l:Addr) (items:Array V0) (n:Nat) (b:Addr) (items2:Array V0) (n2:Nat) (sl2:Array (Option V0)) (hc0:¬(!items.isEmpty&&Y8 (items.size+items2.size))=true) (hc1:items.size≤WO) (hs2:items.size+items2.size≤WO+1) :
  Meets (abt.«list.extend» ⟨[.ref l,.ref b],[]⟩) (λ_ R s=>s.heap.get? l=some {cls:=.type "list",dict:=none,data:=.seq items n,slots:=#[]}∧s.heap.get? b=some {cls:=.type "list",dict:=none,data:=.seq items2 n2,slots:=sl2}∧R (.ok (.ret Value.none)) {s with heap:=s.heap.update l (aap λx=>x++items2),toks:=s.toks}):=
 .of_wp λprog w A R s h=>by
  obtain ⟨hp,g,d,tk,os⟩:=s;obtain ⟨hl,hb,h⟩:=h;have f1:=AutoSeq1.idx_int;have f2:=AutoSeq1.sub_tuple_tuple;have f3:=AutoSeq1.sub_list_list;have f4:=AutoSeq1.sub_tuple_list;have f5:=AutoSeq1.sub_list_tuple;
  have hz':(items++items2).size≤WO+1:=by rw [Array.size_append];exact hs2
  wp_walk using (ab4 hl rfl (hz:=hc1) (_hz':=hz')),ab5 hl,ab5 hb;exact ⟨_,rfl,h⟩
theorem xW:Bs X "list.extend" (λx vs H Q=>∃ l b xs zs,x=.ref l∧vs=[.ref b]∧H l=some (.lst xs)∧jY X.K H b zs∧xs.length+zs.length≤WO∧Q .eO (upd H l (.lst (xs++zs)))):=by
 intro pins s σ H x vs v us Q I rx rv h
 obtain ⟨l,b,xs,zs,rfl,rfl,hH,hB,hz,q⟩:=h
 cases rx
 obtain ⟨u,rfl,ru⟩:=rv.one
 cases ru
 obtain ⟨z,its,n,r,hl,e⟩:=I.JC hH
 obtain ⟨its2,r2,⟨o2,n2,e2,c2,Ny,d2⟩,_⟩:=I.list hB
 obtain ⟨Jv,dd2,data2,sl2⟩:=o2
 simp only at c2 Ny d2
 subst c2 Ny d2
 have hl2:=r2.length
 have hsz:its.toArray.size+its2.toArray.size≤WO:=by rw [Xg,Xg];nofun
 have NC:¬ (!its.toArray.isEmpty&&Y8 (its.toArray.size+its2.toArray.size))=true:=by
  rw [BL hsz,Bool.and_false]
  exact XF
 refine call_meets abB ⟨_,e,rfl⟩ F.entry_list_extend (F.args_list_extend_2 _ _)
  (xV l its.toArray n b its2.toArray n2 sl2 NC (by rw [Xg];nofun) (by nofun)) ⟨e,e2,?_⟩
 refine ⟨.eO,_,I.JB (its':=its++its2) hH e (by simp) (r.append r2) ?_,rfl,q⟩
 rw [W9]
 nofun
noncomputable def vz:D→List D→M D
 | .obj n,[y]=>λG=>match G[n]?,mP G y with
  | some (.lst xs),some ys=>if xs.length+ys.length≤WO then .ok .eO (G.set n (.lst (xs++ys))) else .stuck
  | _,_=>.stuck
 | _,_=>M.stop
theorem Gb:Bs X "list.extend" (M3 X EE vz):=by
 intro pins s σ0 H x xs v us Q I rx M4 zu
 obtain ⟨σ,τ,ρ,G,d,ds,ab,rd,Ep,ok⟩:=zu
 cases d<;>try exact ok.elim
 rename_i n
 match ds,ok with
 | [],ok=>exact ok.elim
 | a::_::_,ok=>exact ok.elim
 | [y],ok=>
  obtain ⟨yv,rfl,ry⟩:=ir Ep
  unfold Rep at rd
  obtain ⟨p,rfl,e1⟩:=rd
  dsimp only [vz] at ok
  cases g:G[n]? with
  | none=>rw [g] at ok;exact ok.elim
  | some o=>
   cases g2:mP G y with
   | none=>rw [g,g2] at ok;cases o<;>exact ok.elim
   | some ys=>
    rw [g,g2] at ok
    cases o with
    | lst zs=>
     dsimp only at ok
     obtain ⟨p',vs,e3,hp,rs⟩:=ab.hp.lst g
     rw [e1] at e3;cases e3
     obtain ⟨p2,ws,rfl,s2,Gd⟩:=ck (pins:=pins) (σ0:=σ0) (s:=s) ab.hp ry (o9 g2)
     by_cases hz:zs.length+ys.length≤WO
     ·rw [if_pos hz] at ok
      exact xW pins s σ0 H _ _ v us Q I rx M4 ⟨p,p2,vs,ws,rfl,rfl,hp,s2,by rw [← rs.length,← Gd.length];exact hz,xM (xs:=zs) ab e1 hp (rs.append Gd) (λ_ _=>by unfold Rep;rfl) ok⟩
     ·rw [if_neg hz] at ok;exact ok.elim
    | _=>exact ok.elim
theorem Ge {o:Expr} {apos cpos:Pos} {m:DS→M (List D)} (ho:QE X EE o mo) (ha:QA X EE [e] m) (hb:oS o=true:=by rfl) (h:aq [e]=true:=by rfl) (hline:(apos.endLine==cpos.line)=true:=by rfl):QE X EE (.Call (.Attribute o "extend" apos) [e] [] cpos) (bK "list" vz mo m):=by
 have h':bg e=true∧aq []=true:=by simpa [aq] using h
 exact HV F.plainAttrs_list abB F.type_list_extend Gb ho ha (gD hb _ _) (xR h (by simp)) hline (aO h'.1 _ _) (aY (es:=[]) rfl)
end
end
section
open PyProof.Rows
noncomputable def K2 (lo st:Int) (n:Nat):It:=⟨λi _=>i<n,λi H x H'=>H'=H∧x=.int (lo+(i:Int)*st),λi _=>n≤i⟩
theorem vA (it:Addr) (lo c:Int) (n:Nat):Turn P w K tg (K2 lo c n) [it] it (λi h=>IsRangeIter h it (lo+(i:Nat)*c) ((n:Int) - (i:Nat)) c) where
 mem:=by simp
 obj:=λi h st b hb=>by
  have e:b=it:=by simpa using hb
  subst e
  exact ⟨_,st,λv z=>by
   have z':Data.fields _=Data.cell v:=z
   cases z'⟩
 keep:=λi h h' st k=>k it (by simp) _ st
 item:=by
  intro X hP hw hK hc i pins s σ H E I hf st hg
  subst hP hw hK
  obtain ⟨f0,f1,f2,f3,f4,f5⟩:=hf it (by simp)
  have W:=Walks.range (prog:=X.prog) (w:=X.w) (I.ok.hd hc) it lo c n
  refine ie I.os.2 <| W.item i s _ _ hg st λv h' tk hv st' kk ht=>?_
  obtain ⟨t,rfl⟩:=hv
  have I1:Inv X pins σ H {s with heap:=h',toks:=tk}:=I.turned (λb o hb e=>kk b o (by simpa using hb) e) f0 f1 f3 f4 f5
  exact ⟨_,rfl,oq (s:={s with heap:=h',toks:=tk}) (n:="range_iterator") st' rfl rfl (by decide) ⟨.int (lo+i*c),H,I1,⟨t,rfl⟩,⟨rfl,rfl⟩,st',λb hb=>(hf b hb).1⟩⟩
 done:=by
  intro X hP hw hK hc i pins s σ H E I hf st hg
  subst hP hw hK
  obtain ⟨f0,f1,f2,f3,f4,f5⟩:=hf it (by simp)
  exact aaT (I.ok.hd hc) st (by have:n≤i:=hg;nofun) λh' eb=>⟨rfl,I.turned (t':=s.toks) (λb o hb e=>eb b o hb e) f0 f1 f3 f4 f5⟩
 self:=λ_ _ _ _ _ st h=>aaU st h
noncomputable def lT (lo hi c:Int):Nat:=if lo<hi then ((hi - lo - 1) / c+1).toNat else 0
noncomputable def xX (lo c:Int) (n:Nat):View:=λ_ i=>some (if i<n then some (.int (lo+(i:Int)*c)) else none)
noncomputable def ints3:List D→Option (Int×Int×Int)
 | [.int lo,.int hi,.int c]=>some (lo,hi,c)
 | _=>none
theorem CN {c:Int} (h:ints3 ds=some (lo,hi,c)):ds=[.int lo,.int hi,.int c]:=by
 unfold ints3 at h
 split at h
 ·cases h;rfl
 ·cases h
noncomputable def rS (m:DS→M (List D)):MI:=λτ=>(m τ).bind λds=>match ints3 ds with
 | some (lo,hi,c)=>λG=>if -(2^30)≤lo∧lo<2^30∧-(2^30)≤hi∧hi<2^30∧0<c∧c<2^30 then .ok (lT lo hi c+1,xX lo c (lT lo hi c)) G else .stuck
 | none=>M.stop
section
variable {X:Cx} {EE:cz} {tg iter a b c:Expr} {pos p pc:Pos} {m:DS→M (List D)}
theorem K3 {c:Int}:JV X.K X.mg (K2 lo c n) (xX lo c n) H ρ:=by
 intro i H' ρ' G' f hp
 unfold xX
 by_cases h:i<n
 ·rw [if_pos h]
  refine ⟨λe=>(by cases e),λd e=>⟨h,λx H2 hy=>?_⟩⟩
  cases e
  obtain ⟨rfl,rfl⟩:=hy
  exact ⟨⟨.refl,λ_ h=>h⟩,by unfold Rep;rfl⟩
 ·rw [if_neg h]
  exact ⟨λ_=>abT h,λd e=>(by cases e)⟩
theorem K4 {c:Int} (h1:-(2^30)≤lo) (h2:lo<2^30) (h3:-(2^30)≤hi) (h4:hi<2^30) (h5:0<c) (h6:c<2^30):abv lo hi c=true:=by
 unfold abv
 have hs:Yy lo hi c=if lo<hi then (hi - lo - 1) / c+1 else 0:=by
  unfold Yy;rw [if_pos h5]
 rw [hs]
 have hd:0≤hi - lo - 1→(hi - lo - 1) / c≤hi - lo - 1:=λh=>Int.ediv_le_self _ h
 have hd2:0≤hi - lo - 1→0≤(hi - lo - 1) / c:=λh=>ab6 h (by nofun)
 have hm:(hi - lo - 1) / c*c≤hi - lo - 1:=Int.ediv_mul_le _ (by nofun)
 simp only [Builtin.Range.rangeFitsLong,X8,aaa,decide_eq_true_eq,beq_iff_eq,show c > 0 from h5,if_true]
 split<;>nofun
theorem Gf (hm:X.mg "range"=none) (qD:Gl X "range") (ha:QA X EE [a,b,c] m) (h:aq [a,b,c]=true:=by rfl):QI X EE tg (.Call (.Name "range" p) [a,b,c] [] pc) (rS m):=by
 have h':bg a=true∧aq [b,c]=true:=by simpa [aq] using h
 intro pins s σ H R I hq
 obtain ⟨τ,ρ,G,ab,ok⟩:=hq
 dsimp only [rS,M.bind] at ok
 refine Xw (fq I qD hm boot_range ?_ (by decide) (by decide))
 have hA:gU X.K X.mg EE m σ H λvs H1=>∃ ρ1 G1 ds,Ab X.K X.mg σ H1 τ ρ1 G1∧cC X.K H H1 ρ ρ1∧au X.K X.mg ρ1 H1 ds vs∧m τ G=.ok ds G1:=by
  refine ⟨τ,ρ,G,ab,?_⟩
  cases e:m τ G with
  | stuck=>rw [e] at ok;exact ok
  | bH c G'=>rw [e] at ok;exact ok
  | ok ds G'=>exact λvs H' ρ' f aZ r=>⟨ρ',G',ds,aZ,f,r,rfl⟩
 refine Xr (cY (ha pc pins s σ H _ I hA) λus s1 nQ=>?_) (aO h'.1 _ _) (aY h'.2)
 obtain ⟨vs,H1,I1,r1,ρ1,G1,ds,gn,f1,rs,em⟩:=nQ
 rw [em] at ok
 dsimp only at ok
 cases q:ints3 ds with
 | none=>rw [q] at ok;exact ok.elim
 | some x=>
  obtain ⟨lo,hi,c⟩:=x
  rw [q] at ok
  dsimp only at ok
  have e:=CN q
  subst e
  by_cases hc:-(2^30)≤lo∧lo<2^30∧-(2^30)≤hi∧hi<2^30∧0<c∧c<2^30
  ·rw [if_pos hc] at ok
   obtain ⟨h1,h2,h3,h4,h5,h6⟩:=hc
   simp only [au,Rep] at rs
   obtain ⟨v1,w1,rfl,rfl,v2,w2,rfl,rfl,v3,w3,rfl,rfl,rfl⟩:=rs
   cases r1 with
   | cons u1 r1=>
   cases r1 with
   | cons u2 r1=>
   cases r1 with
   | cons u3 r1=>
   cases r1
   obtain ⟨t1,rfl⟩:=u1
   obtain ⟨t2,rfl⟩:=u2
   obtain ⟨t3,rfl⟩:=u3
   refine call_range_3 (by nofun) ?_ (.inl (aaV (by nofun)))
   refine abz (s:={s1 with heap:=s1.heap.push {cls:=.type "range",data:=.fields #[.int lo t1,.int hi t2,.int c t3]},toks:=s1.toks}) (IsRange.new ..) (K4 h1 h2 h3 h4 h5 h6) ?_
   have I2:Inv X pins σ H1 {s1 with heap:=s1.heap.push {cls:=.type "range",data:=.fields #[.int lo t1,.int hi t2,.int c t3]},toks:=s1.toks}:=I1.kept λb o e=>WQ _ e
   refine ⟨_,[_],_,K2 lo c (lT lo hi c),H1,rfl,I2.kept (t':=s1.toks) λb o e=>WQ _ e,vA _ lo c (lT lo hi c),?_,λb hb=>?_,ok _ H1 ρ1 f1 gn K3⟩
   ·have e1:lo+((0:Nat):Int)*c=lo:=by simp
    have e2:((lT lo hi c:Nat):Int) - ((0:Nat):Int)=Yy lo hi c:=by
     unfold lT Yy
     rw [if_pos h5]
     split
     ·have:0≤(hi - lo - 1) / c:=ab6 (by nofun) (by nofun)
      nofun
     ·simp
    show IsRangeIter _ _ (lo+((0:Nat):Int)*c) (((lT lo hi c:Nat):Int) - ((0:Nat):Int)) c
    rw [e1,e2]
    exact W5 _ rfl
   ·rw [Xj.mp hb]
    exact I2.nG (WZ _) (I2.hok.fresh (WZ _))
  ·rw [if_neg hc] at ok;exact ok.elim
end
end
noncomputable def lU:D→Option Key
 | .int i=>some (Sum.inl i)
 | .str x=>some (Sum.inr x)
 | _=>none
noncomputable def fJ {κ:Type} [DecidableEq κ] (kvs:List (κ×D)) (k:κ):Option D:=(kvs.find? λkv=>decide (kv.1=k)).map (·.2)
noncomputable def fT {κ:Type} [DecidableEq κ] (kvs:List (κ×D)) (k:κ) (v:D):List (κ×D):=
 if (kvs.any λkv=>decide (kv.1=k))=true then kvs.map (λkv=>if kv.1=k then (kv.1,v) else kv) else kvs++[(k,v)]
section
variable {K:WV} {mg:Str→Option V0} {H:Hp} {ρ:List Addr} {G:DH}
theorem pe {κ:Type} [DecidableEq κ] (k:κ):∀ {kvs:List (κ×D)} {xs:List V},au K mg ρ H (kvs.map (·.2)) xs →
  (fJ kvs k=none∧ko ((kvs.map (·.1)).zip xs) k=none)∨∃ d v,fJ kvs k=some d∧ko ((kvs.map (·.1)).zip xs) k=some v∧Rep K mg ρ H d v
 | [],xs,r=>.inl ⟨rfl,rfl⟩
 | p::q,xs,r=>by
  unfold au at r
  obtain ⟨v,r',rfl,h1,h2⟩:=r
  by_cases e:p.1=k
  ·exact .inr ⟨p.2,v,by simp [fJ,e],by simp [ko,e],h1⟩
  ·have ih:=pe k h2
   have e1:fJ (p::q) k=fJ q k:=by simp [fJ,e]
   have e2:ko (((p::q).map (·.1)).zip (v::r')) k=ko ((q.map (·.1)).zip r') k:=lC (p:=(p.1,v)) e
   rw [e1,e2];exact ih
theorem yX {κ:Type} [DecidableEq κ] (k:κ):∀ {kvs:List (κ×D)} {xs:List V},kvs.length=xs.length→(((kvs.map (·.1)).zip xs).any λkv=>decide (kv.1=k))=(kvs.any λkv=>decide (kv.1=k))
 | [],xs,h=>by simp
 | p::q,[],h=>by simp at h
 | p::q,x::xs,h=>by
  have:=yX k (kvs:=q) (xs:=xs) (by simpa using h)
  simp [this]
theorem vB {κ:Type} [DecidableEq κ] (k:κ) {d:D} {v:V} (rv:Rep K mg ρ H d v):∀ {kvs:List (κ×D)} {xs:List V},au K mg ρ H (kvs.map (·.2)) xs →
  ∃ ys,(((kvs.map (·.1)).zip xs).map λkv=>if kv.1=k then (kv.1,v) else kv)=((kvs.map λkv=>if kv.1=k then (kv.1,d) else kv).map (·.1)).zip ys∧au K mg ρ H ((kvs.map λkv=>if kv.1=k then (kv.1,d) else kv).map (·.2)) ys
 | [],xs,r=>⟨[],by simp,by simpa using au.nil⟩
 | p::q,xs,r=>by
  unfold au at r
  obtain ⟨x,r',rfl,h1,h2⟩:=r
  obtain ⟨ys,e,rs⟩:=vB k rv h2
  by_cases hk:p.1=k
  ·refine ⟨v::ys,?_,?_⟩
   ·simp only [WU,YN,if_pos hk,e]
   ·simp only [WU,if_pos hk];exact .cons rv rs
  ·refine ⟨x::ys,?_,?_⟩
   ·simp only [WU,YN,if_neg hk,e]
   ·simp only [WU,if_neg hk];exact .cons h1 rs
theorem vC {α β:Type}:∀ {a:List α} {b:List β} (x:α) (y:β),a.length=b.length→(a++[x]).zip (b++[y])=a.zip b++[(x,y)]
 | [],[],x,y,_=>rfl
 | [],_::_,_,_,h=>by simp at h
 | _::_,[],_,_,h=>by simp at h
 | p::a,q::b,x,y,h=>by simp [vC (a:=a) (b:=b) x y (by simpa using h)]
theorem vD [DecidableEq κ] (k:κ) {d:D} {v:V} (rv:Rep K mg ρ H d v) {kvs:List (κ×D)} {xs:List V} (r:au K mg ρ H (kvs.map (·.2)) xs) :
  ∃ ys,putK ((kvs.map (·.1)).zip xs) k v=((fT kvs k d).map (·.1)).zip ys∧au K mg ρ H ((fT kvs k d).map (·.2)) ys:=by
 have hl:kvs.length=xs.length:=by simpa using r.length
 unfold putK fT
 rw [yX k hl]
 by_cases e:(kvs.any λkv=>decide (kv.1=k))=true
 ·rw [if_pos e,if_pos e];exact vB k rv r
 ·rw [if_neg e,if_neg e]
  refine ⟨xs++[v],?_,?_⟩
  ·rw [Xu,WU,Xk,vC _ _ (by simpa using hl)]
  ·rw [Xu];exact r.append (.cons rv .nil)
theorem eS.dct {kvs:List (Key×D)} (h:eS K mg H ρ G) (e:G[n]?=some (.dct kvs)):∃ a xs,ρ[n]?=some a∧H a=some (.dK ((kvs.map (·.1)).zip xs))∧au K mg ρ H (kvs.map (·.2)) xs:=by
 obtain ⟨a,e1,xs,e2,r⟩:=h.ob n _ e
 exact ⟨a,xs,e1,e2,r⟩
theorem pA {u w:List (Key×V)} (hp:H p=some (.dK u)) (ρ:List Addr):cC K H (upd H p (.dK w)) ρ ρ:=by
 refine ⟨λa zs h=>?_,λa q u h=>by rw [az (dH h hp (by intro z;cases z))];exact h,⟨[],by simp⟩,λa φ h=>by rw [az (dH h hp (by intro z;cases z))];exact h⟩
 ·rw [rG] at h ⊢;rw [az (dH h hp (by intro z;cases z))];exact h
theorem eS.ND (h:eS K mg H ρ G) (hp:H p=none):eS K mg (upd H p (.dK [])) (ρ++[p]) (G++[.dct []]):=by
 have f:cC K H (upd H p (.dK [])) ρ (ρ++[p]):=(cR hp ρ).trans (cS ρ p)
 refine ⟨by simp [h.hl],?_,λn ob e=>?_⟩
 ·rw [Y7]
  refine ⟨h.nd,by simp,λa ha b hb=>?_⟩
  have e:b=p:=by simpa using hb
  subst e
  rintro rfl
  exact h.not_mem hp ha
 ·by_cases hn:n<G.length
  ·rw [W7 hn] at e
   obtain ⟨a,e1,r'⟩:=h.ob n ob e
   exact ⟨a,f.get e1,r'.mono f λu q=>by rw [az (cy q hp)];exact q⟩
  ·have hl:n<(G++[DO.dct []]).length:=(WS.mp e).1
   have hn':n=G.length:=by simp at hl;nofun
   subst hn'
   rw [aC] at e
   cases e
   exact ⟨p,by rw [← h.hl,aC],[],aM,.nil⟩
theorem eS.putD {es:List (Key×D)} {u:List (Key×V)} {ys:List V} (h:eS K mg H ρ G) (hn:ρ[n]?=some a) (ha:H a=some (.dK u)) (r:au K mg ρ H (es.map (·.2)) ys) :
  eS K mg (upd H a (.dK ((es.map (·.1)).zip ys))) ρ (G.set n (.dct es)):=by
 have f:cC K H (upd H a (.dK ((es.map (·.1)).zip ys))) ρ ρ:=pA ha ρ
 refine ⟨by simp [h.hl],h.nd,λm ob e=>?_⟩
 by_cases hm:n=m
 ·subst hm
  rw [XW,if_pos rfl] at e
  split at e
  ·cases e
   exact ⟨a,hn,ys,aM,r.mono f⟩
  ·cases e
 ·rw [XC hm] at e
  obtain ⟨b,e1,r'⟩:=h.ob m ob e
  have hb:b≠a:=by
   rintro rfl
   obtain ⟨h1,xj⟩:=WS.mp hn
   obtain ⟨h2,yO⟩:=WS.mp e1
   exact hm ((Yh h.nd).mp (xj.trans yO.symm))
  exact ⟨b,e1,r'.mono f λu q=>by rw [az hb];exact q⟩
theorem tN {d:D} {k:Key} (r:Rep K mg ρ H d v) (e:lU d=some k):v=kV k:=by
 cases d<;>simp [lU] at e
 ·subst e;unfold Rep at r;exact r
 ·subst e;unfold Rep at r;exact r
end
section
variable {X:Cx} {EE:cz} {e f o i a:Expr} {pos apos cpos tpos:Pos} {mo me mf mv mi:DS→M D}
noncomputable def vE:DS→M D:=λ_ G=>.ok (.obj G.length) (G++[.dct []])
theorem Gg:QE X EE (.Dict [] [] pos) vE:=PE.mono BQ λσ H Q ⟨τ,ρ,G,ab,ok⟩=>λp hp=>by
 refine ok (.ref p) _ (ρ++[p]) ((cR hp ρ).trans (cS ρ p)) ⟨ab.st.mono ((cR hp ρ).trans (cS ρ p)),ab.hp.ND hp⟩ ?_
 unfold Rep
 exact ⟨p,rfl,by rw [← ab.hp.hl,aC]⟩
noncomputable def rT (G:DH):D→Bool
 | .obj n=>match G[n]? with
  | some (.dct _)=>true
  | _=>false
 | _=>false
noncomputable def yY (d k x:D):M D:=λG=>match d,lU k with
 | .obj n,some y=>match G[n]? with
  | some (.dct kvs)=>.ok ((fJ kvs y).getD x) G
  | _=>.stuck
 | _,_=>.stuck
noncomputable def iI (mo me mf:DS→M D):DS→M D:=λτ=>(mo τ).bind λd G=>if rT G d=true then ((me τ).bind λk=>(mf τ).bind λx=>yY d k x) G else .stuck
theorem CO {d:D} (h:rT G d=true):∃ n kvs,d=.obj n∧G[n]?=some (.dct kvs):=by
 cases d<;>simp [rT] at h
 rename_i n
 cases g:G[n]? with
 | none=>rw [g] at h;cases h
 | some ob=>
  cases ob with
  | lst _=>rw [g] at h;cases h
  | dct kvs=>exact ⟨n,kvs,rfl,g⟩
  | _=>rw [g] at h;cases h
theorem CP (hu:X.A.units+600<cLine) (ho:QE X EE o mo) (he:QE X EE e me) (hf:QE X EE f mf) (hb:oS o=true:=by rfl) (h:aq [e,f]=true:=by rfl) (hline:(apos.endLine==cpos.line)=true:=by rfl) :
  QE X EE (.Call (.Attribute o "get" apos) [e,f] [] cpos) (iI mo me mf):=by
 have h':bg e=true∧bg f=true:=by simpa [aq] using h
 refine PE.mono (BS (by nofun) ho he hf ⟨gD hb _ _,xR h (by simp),hline,by rw [aO h'.1,aO h'.2];rfl⟩) λσ H Q zz=>?_
 obtain ⟨τ,ρ,G,ab,ok⟩:=zz
 refine ⟨τ,ρ,G,ab,?_⟩
 dsimp only [iI,M.bind] at ok
 cases e1:mo τ G with
 | stuck=>rw [e1] at ok;exact ok
 | bH c G'=>rw [e1] at ok;exact ok
 | ok d G1=>
  rw [e1] at ok
  dsimp only at ok
  intro vd H1 ρ1 f1 gn r1
  by_cases hd:rT G1 d=true
  ·rw [if_pos hd] at ok
   obtain ⟨n,kvs,rfl,g1⟩:=CO hd
   unfold Rep at r1
   obtain ⟨p,rfl,ep⟩:=r1
   obtain ⟨p',xs,uI,eH,_⟩:=gn.hp.dct g1
   rw [ep] at uI;cases uI
   refine ⟨p,rfl,.inl ⟨_,.inl eH⟩,τ,ρ1,G1,gn,?_⟩
   cases e2:me τ G1 with
   | stuck=>rw [e2] at ok;exact ok
   | bH c G'=>rw [e2] at ok;exact λH' ρ' f aZ=>ok H' ρ' (f1.trans f) aZ
   | ok k G2=>
    rw [e2] at ok
    dsimp only at ok
    intro vk H2 ρ2 f2 bV r2
    refine ⟨τ,ρ2,G2,bV,?_⟩
    cases e3:mf τ G2 with
    | stuck=>rw [e3] at ok;exact ok
    | bH c G'=>rw [e3] at ok;exact λH' ρ' f aZ=>ok H' ρ' ((f1.trans f2).trans f) aZ
    | ok x G3=>
     rw [e3] at ok
     dsimp only [yY] at ok
     intro vx H3 ρ3 f3 nS r3
     cases ek:lU k with
     | none=>rw [ek] at ok;exact ok.elim
     | some y=>
      rw [ek] at ok
      dsimp only at ok
      cases g:G3[n]? with
      | none=>rw [g] at ok;exact ok.elim
      | some ob=>
       cases ob with
       | lst _=>rw [g] at ok;exact ok.elim
       | dct Ue=>
        rw [g] at ok
        dsimp only at ok
        obtain ⟨p3,VX,RZ,Ug,Uh⟩:=nS.hp.dct g
        rw [(f2.trans f3).get ep] at RZ;cases RZ
        have ev:=tN r2 ek
        subst ev
        refine ⟨_,uU.k Ug,?_⟩
        refine ok _ H3 ρ3 ((f1.trans f2).trans f3) nS ?_
        rcases pe y Uh with ⟨z1,z2⟩ | ⟨d,v,z1,z2,z3⟩
        ·rw [z1,z2];exact r3
        ·rw [z1,z2];exact z3
       | _=>rw [g] at ok;exact ok.elim
  ·rw [if_neg hd] at ok;exact ok.elim
noncomputable def rV (v d k:D):M D:=λG=>match d,lU k with
 | .obj n,some y=>match G[n]? with
  | some (.dct kvs)=>if kvs.length<WO then .ok .eO (G.set n (.dct (fT kvs y v))) else .stuck
  | _=>.stuck
 | _,_=>.stuck
noncomputable def ju (mv mo mi:DS→M D):MS:=λτ=>bN ((mv τ).bind λv=>(mo τ).bind λo=>(mi τ).bind λi=>rV v o i) (λ_ G=>.nx τ G) λc G=>.xn c τ G
theorem vF (hu:X.A.units+600<cLine) (hv:QE X EE a mv) (ho:QE X EE o mo) (hi:QE X EE i mi) (h:swapsWith a (some (.Subscript o i tpos)) pos.line X.env=pure false):QS X EE (.Assign [.Subscript o i tpos] a pos) (ju mv mo mi):=
 PS.mono (yN (by nofun) ho hi hv h) λDd σ H zz=>by
  obtain ⟨τ,ρ,G,ab,ok⟩:=zz
  refine ⟨τ,ρ,G,ab,?_⟩
  dsimp only [ju,bN,M.bind] at ok
  cases e1:mv τ G with
  | stuck=>rw [e1] at ok;exact ok
  | bH c G'=>rw [e1] at ok;exact λH' ρ' f aZ=>ok σ H' ρ' f aZ
  | ok v G1=>
   rw [e1] at ok
   intro vv H1 ρ1 f1 gn r1
   refine ⟨τ,ρ1,G1,gn,?_⟩
   dsimp only at ok
   cases e2:mo τ G1 with
   | stuck=>rw [e2] at ok;exact ok
   | bH c G'=>rw [e2] at ok;exact λH' ρ' f aZ=>ok σ H' ρ' (f1.trans f) aZ
   | ok ov G2=>
    rw [e2] at ok
    intro vo H2 ρ2 f2 bV r2
    refine ⟨τ,ρ2,G2,bV,?_⟩
    dsimp only at ok
    cases e3:mi τ G2 with
    | stuck=>rw [e3] at ok;exact ok
    | bH c G'=>rw [e3] at ok;exact λH' ρ' f aZ=>ok σ H' ρ' ((f1.trans f2).trans f) aZ
    | ok iv G3=>
     rw [e3] at ok
     intro vi H3 ρ3 f3 nS r3
     dsimp only [rV] at ok
     cases ov<;>try exact ok.elim
     rename_i n
     cases ek:lU iv with
     | none=>rw [ek] at ok;exact ok.elim
     | some y=>
      rw [ek] at ok
      have r2':=r2.mono f3
      unfold Rep at r2'
      obtain ⟨p,rfl,e4⟩:=r2'
      dsimp only at ok
      cases g:G3[n]? with
      | none=>rw [g] at ok;exact ok.elim
      | some ob=>
       cases ob with
       | lst _=>rw [g] at ok;exact ok.elim
       | dct kvs=>
        rw [g] at ok
        dsimp only at ok
        obtain ⟨p',xs,e5,hp,rs⟩:=nS.hp.dct g
        rw [e4] at e5;cases e5
        by_cases hl:kvs.length<WO
        ·rw [if_pos hl] at ok
         have ev:=tN r3 ek
         subst ev
         have rv:=r1.mono (f2.trans f3)
         obtain ⟨ys,ey,ry⟩:=vD y rv rs
         refine ⟨p,_,rfl,sY.k hp ?_,?_⟩
         ·have:=rs.length
          simp at this
          simp [← this];exact hl
         ·rw [ey]
          refine ok σ _ ρ3 (((f1.trans f2).trans f3).trans (pA hp ρ3)) ⟨nS.st.mono (pA hp ρ3),nS.hp.putD e4 hp ry⟩
        ·rw [if_neg hl] at ok;exact ok.elim
       | _=>rw [g] at ok;exact ok.elim
theorem Gh (hu:X.A.units+600<cLine) (hv:QE X EE a mv) (ho:QE X EE o mo) (hi:QE X EE i mi) (h:mK a=true:=by rfl):QS X EE (.Assign [.Subscript o i tpos] a pos) (ju mv mo mi):=vF hu hv ho hi (nU h _ _ _)
end
section
open PyProof.Rows
theorem vG {prog:Xx} {w:XR} {E:V0→WT→Prop} {Q:List V0→WT→Prop} (hh:A.handled=none) (hit:s.heap.IsRevIter it l ((items.size:Int) - 1)) (hl:s.heap.IsList l items) (hne:l≠it) (hz:items.size≤WO)
  (hQ:∀ s' acc,(∀ b o,b≠it→s.heap.get? b=some o→s'.heap.get? b=some o)→s'.gens=s.gens→s'.drawn=s.drawn→s'.os=s.os→ItemsOf (λi v=>items[items.size - 1 - i]?=some v) acc items.size→Q acc.toList s') :
  Xe (model prog w) A (collect (.ref it)) Q E s:=by
 have Qh:l<s.heap.objs.size:=by obtain ⟨o,e,_⟩:=hl;exact W3 e
 have TU:it<s.heap.objs.size:=by obtain ⟨o,e,_⟩:=hit;exact W3 e
 unfold collect
 refine Us (wpAny_runValue (codeAny_builtin F.entry_proto_collect ?_))
 rw [abo F.plain_proto_collect _]
 show Xe _ A.in1 (newList [] >>= λl=>again (.builtin "list.__iadd__" ⟨[l,.ref it],[]⟩)) _ _ s
 refine Us (XM ?_)
 refine WY ⟨plainId_quiet abO _,codeAny_builtin F.entry_list_iadd ?_⟩
 rw [abo abO _]
 show Xe _ A.in1 (Zn (.ref s.heap.objs.size) (.ref it) (.ref s.heap.objs.size)) _ _ _
 have up:∀ b o,s.heap.get? b=some o→(s.heap.push {cls:=.type "list",data:=.seq ([]:List V0).toArray}).get? b=some o:=λb o e=>WQ _ e
 have fin':∀ (s':WT) (acc':Array V0) (c':Nat),Moved [s.heap.objs.size,it] (λa b=>b=a) {s with heap:=s.heap.push {cls:=.type "list",data:=.seq ([]:List V0).toArray}} s'→s'.heap.get? s.heap.objs.size=some {cls:=.type "list",data:=.seq acc' c'} →
   ItemsOf (λi v=>items[items.size - 1 - i]?=some v) acc' items.size→Xe (model prog w) A (match Value.ref s.heap.objs.size with
   | Value.ref a=>do
    match (← load a).data with
     | Data.seq xs _=>pure xs.toList
     | _=>unsupported "internal:collect"
   | _=>unsupported "internal:collect") Q E s':=λs' acc' c' hm hS' hacc=>by
  show Xe _ A (load s.heap.objs.size >>= _) _ _ s'
  refine Us (aai hS' ?_)
  refine WY (hQ s' acc' (λb o hb e=>hm.heap b o ?_ (up b o e)) hm.gens hm.drawn hm.os hacc)
  simp [hb,Xa (W3 e)]
 refine XH (oU (A:=A) (R:=λr s'=>r=.ok (.ret (.ref s.heap.objs.size))∧∃ acc' c',Moved [s.heap.objs.size,it] (λa b=>b=a) {s with heap:=s.heap.push {cls:=.type "list",data:=.seq ([]:List V0).toArray}} s'∧s'.heap.get? s.heap.objs.size=some {cls:=.type "list",data:=.seq acc' c'} ∧
   ItemsOf (λi v=>items[items.size - 1 - i]?=some v) acc' items.size) (l:=l) (items:=items) (show A.handled=none from hh) ?_ ?_ hne hz s.heap.objs.size (.ref s.heap.objs.size) 0 ?_ (aaS Qh) ?_) (λfin s' h=>?_) (λe s' h=>?_)
 ·obtain ⟨o,e,r⟩:=hit
  exact ⟨o,up _ _ e,r⟩
 ·obtain ⟨o,e,r⟩:=hl
  exact ⟨o,up _ _ e,r⟩
 ·exact W5 _ rfl
 ·intro s' acc' c' hm hS' hacc
  exact ⟨rfl,acc',c',hm,hS',hacc⟩
 ·cases fin with
  | done f=>
   obtain ⟨e,acc',c',h1,h2,h3⟩:=h
   cases e
   exact fin' s' acc' c' h1 h2 h3
  | again c'=>exact ⟨h.1,codeAny_mono h.2 λr s'' hr=>by obtain ⟨rfl,acc',c',h1,h2,h3⟩:=hr;exact fin' s'' acc' c' h1 h2 h3⟩
 ·exact absurd h.1 (by simp)
theorem nK (it l:Addr) (items:Array V0) (hne:l≠it) (hz:items.size≤WO) :
  Meets (abt.«tuple.__new__» ⟨[.type "tuple",.ref it],[]⟩)
   (λA R s=>A.handled=none∧s.heap.IsRevIter it l ((items.size:Int) - 1)∧s.heap.IsList l items∧∀ (s':WT) (acc:Array V0),(∀ b o,b≠it→s.heap.get? b=some o→s'.heap.get? b=some o)→s'.gens=s.gens→s'.drawn=s.drawn→s'.os=s.os→ItemsOf (λi v=>items[items.size - 1 - i]?=some v) acc items.size →
    R (.ok (.ret (.ref s'.heap.objs.size))) {s' with heap:=s'.heap.push {cls:=.type "tuple",data:=.seq acc}}):=
 .of_wp λprog w A R s h=>by
  obtain ⟨hh,hit,hl,h⟩:=h
  have hsub:=sub_tuple_self
  have R0:=init_tuple_lookup
  have VY:=madeHere_tuple
  have hT:s.TypeIs (.ref it) "list_reverseiterator":=by
   obtain ⟨o,e,c,_⟩:=hit
   exact ⟨o,e,c⟩
  have Ui:A.in1.handled=none:=hh
  wp_walk using abK hT,vG Ui hit hl hne hz
  intro s' acc hk hg hd hos hacc
  show Xe _ _ (Yd acc.toList.toArray >>= λv=>ret v) _ _ _
  unfold Yd
  refine Us (XM ?_ (show acc.toList.toArray.size≤WO by simp only [Array.toArray_toList];rw [hacc.1];exact hz))
  refine WY ⟨_,rfl,?_⟩
  have e:acc.toList.toArray=acc:=by simp
  rw [e]
  exact h s' acc hk hg hd hos hacc
theorem pB {prog:Xx} {w:XR} {E:V0→WT→Prop} (hh:A.handled=none) (hit:s.heap.IsRevIter it l ((items.size:Int) - 1)) (hl:s.heap.IsList l items) (hne:l≠it) (hz:items.size≤WO)
  (hQ:∀ (h':Heap) (tk:Nat) (acc:Array V0),(∀ b o,b≠it→s.heap.get? b=some o→h'.get? b=some o)→ItemsOf (λi v=>items[items.size - 1 - i]?=some v) acc items.size→Q (.ref h'.objs.size) {s with heap:=h'.push {cls:=.type "tuple",data:=.seq acc},toks:=tk}) :
  Xe (model prog w) A (call (.type "tuple") [.ref it]) Q E s:=by
 refine callType_new F.called_tuple (by decide) (F.typeCall_tuple_1 _) (F.newCall_tuple_1 _) (λobj=>abp obj _) F.entry_tuple_new
  (nK it l items hne hz) ⟨hh,hit,hl,λs' acc hk hg hd hos hacc=>⟨⟨_,W5 _ rfl,rfl⟩,?_⟩⟩
 obtain ⟨h',g',d',tk',os'⟩:=s'
 have e1:g'=s.gens:=hg
 have e2:d'=s.drawn:=hd
 have e3:os'=s.os:=hos
 subst e1 e2 e3
 exact hQ h' tk' acc hk hacc
noncomputable def vH:List D→M D
 | [d]=>λG=>match aA G d with
  | some (.lst xs)=>bA xs.reverse G
  | _=>.stuck
 | _=>M.stop
section
variable {X:Cx} {EE:cz} {e:Expr} {m:DS→M (List D)} {p p2 pos pos2:Pos}
theorem vI (hc:X.calm=true) (hm1:X.mg "tuple"=none) (Qi:Gl X "tuple") (hm2:X.mg "reversed"=none) (Qj:Gl X "reversed") (ha:QA X EE [e] m) (h:aq [e]=true:=by rfl) :
  QE X EE (.Call (.Name "tuple" p) [.Call (.Name "reversed" p2) [e] [] pos2] [] pos) (aj vH m):=by
 have h':bg e=true∧aq []=true:=by simpa [aq] using h
 intro pins s σ H Q I hq
 have hq':=i7 (k:=λ_ ds=>vH ds) hq
 refine Xw (fq I Qi hm1 boot_tuple ?_ (by decide) (by decide))
 refine Xr ?_ (aO rfl _ _) (aY (es:=[]) rfl)
 rw [aO (e:=.Call (.Name "reversed" p2) [e] [] pos2) rfl]
 show Xe _ _ (spliced ((false,eval _ X.env)::backTo pos (Xh [] X.env))) _ _ s
 refine Yq ?_
 refine Xw (fq I Qj hm2 oV ?_ (by decide) (by decide))
 refine Xr (cY (ha pos2 pins s σ H _ I hq') λus s1 nQ=>?_) (aO h'.1 _ _) (aY (es:=[]) rfl)
 obtain ⟨vs,H1,I1,r1,τ,ρ,G,ds,ab,rs,ok⟩:=nQ
 match ds,ok with
 | [],ok=>exact ok.elim
 | _::_::_,ok=>exact ok.elim
 | [d],ok=>
  obtain ⟨x,rfl,rx⟩:=ir rs
  obtain ⟨u,rfl,ru⟩:=vals1 r1
  dsimp only [vH] at ok
  cases q:aA G d with
  | none=>rw [q] at ok;exact ok.elim
  | some sk=>
   rw [q] at ok
   cases sk with
   | tup zs=>exact ok.elim
   | str z=>exact ok.elim
   | lst zs=>
    dsimp only at ok
    obtain ⟨l,ys,rfl,sq,rv⟩:=ck (pins:=pins) (σ0:=σ) (s:=s1) ab.hp rx q
    cases ru
    obtain ⟨its,vv,pl,hz⟩:=I1.list sq
    have hlen:=vv.length
    have hl:=pl.isList
    have hlt:l<s1.heap.objs.size:=by obtain ⟨_,e,_⟩:=hl;exact W3 e
    refine call_reversed_list hl ?_
    refine ZL ?_
    refine ie I1.os.2 <| pB (l:=l) (items:=its.toArray) (show X.A.handled=none from I.ok.hd hc) ⟨_,W5 _ rfl,rfl,rfl⟩ (hl.push _) (Xa hlt) (by simp;nofun) λh' tk acc' kp hacc=>λht=>?_
    have ea:=rN hacc
    subst ea
    obtain ⟨hlr,hn⟩:=tu ab rv.rev ok
    have I2:Inv X pins σ H1 {s1 with heap:=h',toks:=tk}:=I1.kept (t':=tk) (λb o e=>kp b o (Xa (W3 e)) (WQ _ e))
    have I3:Inv X pins σ (upd H1 h'.objs.size (.tup ys.reverse)) {s1 with heap:=h'.push {cls:=.type "tuple",data:=.seq its.reverse.toArray},toks:=tk}:=
     I2.laid (t':=tk) (λb o e=>WQ _ e) (WZ _) (show dD X.prog X.w _ _ _ (.tup ys.reverse) from ⟨hlr,its.reverse,Vals.rev vv,acf _ _⟩)
    exact ⟨.ref h'.objs.size,_,I3,rfl,hn _ (I2.hok.fresh (WZ _))⟩
end
end
section
variable {prog:Xx} {w:XR} {A:Around} {E:V0→WT→Prop} {s:WT}
theorem jx {t:Addr} {x:V0} (hit:s.heap.IsTupleIter it t i)
  (ht:s.heap.IsTuple t items) (hx:items[i]?=some x)
  (hQ:∀ h',h'.IsTupleIter it t (i+1)→Y0 it s.heap h'→Q x {s with heap:=h'}) :
  Xe (model prog w) A (Yb (.ref it)) Q E s:=by
 obtain ⟨o,ho,hc,hd⟩:=id hit
 obtain ⟨ol,LQ,_,nl,hdl⟩:=ht
 unfold Yb
 refine Us (X6 (name:=Y5 "__next__") hit.typeIs YO
  (Yr YO hit.typeIs aaf ?_ (aab _)))
 show Xe _ _ (field (.ref it) 0 >>= _) _ _ s
 refine Us (XG ho hd (x:=.ref t) rfl ?_)
 show Xe _ _ (if (Value.ref t==Value.none)=true then _ else _) _ _ s
 rw [if_neg (show ¬ ((Value.ref t==Value.none)=true) from XF)]
 show Xe _ _ (field (.ref it) 1 >>= _) _ _ s
 refine Us (XG ho hd (x:=.int i 0) rfl ?_)
 show Xe _ _ (seqItems? (.ref t) >>= _) _ _ s
 refine Us (Yv LQ hdl ?_)
 simp only [Y4,hx]
 refine Us (Zq ho hd (by simp) (WY ⟨x,rfl,WY (hQ _ ?_ (Zx ..))⟩))
 exact ⟨_,Yp _ ho (ZW (YM hd _)),(abP ..).trans hc,by
  rw [YM hd];simp [rawInt]⟩
theorem jK {t:Addr} {Q:V0→WT→Prop} (hh:A.handled=none)
  (hit:s.heap.IsTupleIter it t i) (ht:s.heap.IsTuple t items) (hx:items[i]?=none)
  (hE:∀ h' e,abk it s.heap h'→(∃ o,h'.get? e=some o∧o.cls=.type "StopIteration")→E (.ref e) {s with heap:=h'}) :
  Xe (model prog w) A (Yb (.ref it)) Q E s:=by
 obtain ⟨o,ho,hc,hd⟩:=id hit
 obtain ⟨ol,LQ,_,nl,hdl⟩:=ht
 unfold Yb
 refine Us (X6 (name:=Y5 "__next__") hit.typeIs YO
  (Yr YO hit.typeIs aaf ?_ (aab _)))
 show Xe _ _ (field (.ref it) 0 >>= _) _ _ s
 refine Us (XG ho hd (x:=.ref t) rfl ?_)
 show Xe _ _ (if (Value.ref t==Value.none)=true then _ else _) _ _ s
 rw [if_neg (show ¬ ((Value.ref t==Value.none)=true) from XF)]
 show Xe _ _ (field (.ref it) 1 >>= _) _ _ s
 refine Us (XG ho hd (x:=.int i 0) rfl ?_)
 show Xe _ _ (seqItems? (.ref t) >>= _) _ _ s
 refine Us (Yv LQ hdl ?_)
 simp only [Y4,hx]
 refine Us (aaY (Us (Zq ho hd (by simp) ?_)))
 show Xe _ _ (newExc (.type "StopIteration") [] >>= _) _ _ _
 refine Us ?_
 simp only [newExc,newTuple]
 refine Us (XM ?_ (by size_fits))
 refine Us (m:=firstArgMember _ _) (wpAny_of_eq (a:=Value.none) (by first | rfl | (simp only [firstArgMember];rfl)) ?_)
 refine XM ?_ (by size_fits)
 simp only [raiseNew]
 refine Us (wpAny_handled ?_)
 first | rw [show A.in1.handled=none from hh] | rw [hh]
 refine Us (WY (ab3 ?_))
 exact hE _ _ (((Zx ..).extBut.push _).push _) ⟨_,W5 _ rfl,rfl⟩
end
theorem rW (hh:A.handled=none) (it l:Addr) (hne:l≠it) (items:Array V0) :
  Draws prog w A it [it,l] items.size (λi v=>items[i]?=some v) (λi h=>h.IsTupleIter it l i∧h.IsTuple l items) where
 live:=λ_ _ st=>let ⟨o,ho,_⟩:=st.1;⟨o,ho⟩
 frame:=λ_ _ _ st hk=>⟨st.1.at λo e=>hk it (by simp) o e,st.2.at λo e=>hk l (by simp) o e⟩
 item:=λi s Q E hi st hQ=>by
  refine jx st.1 st.2 (x:=items[i]) (by simp [hi]) λh' Gi hs'=>?_
  exact hQ _ h' s.toks (by simp [hi]) ⟨Gi,st.2.extBut hs'.extBut hne⟩ hs'
 done:=λs Q E st hE=>jK hh st.1 st.2 (by simp) hE
theorem vJ (l:Addr) (items:Array V0) (n:Nat) (dct:Option Addr) (sl:Array (Option V0)) :
  Meets (abt.«enumerate.__new__» ⟨[.type "enumerate",.ref l],[]⟩) (λ_ R s=>s.heap.get? l=some {cls:=.type "tuple",dict:=dct,data:=.seq items n,slots:=sl} ∧
   R (.ok (.ret (.ref (s.heap.push {cls:=.type "tuple_iterator",data:=.fields #[.ref l,.int 0 0]}).objs.size)))
    {s with heap:=(s.heap.push {cls:=.type "tuple_iterator",data:=.fields #[.ref l,.int 0 0]}).push {cls:=.type "enumerate",data:=.fields #[.none,.bool false,.ref s.heap.objs.size,rawInt 0,.none,.none]}}):=
 .of_wp λprog w A R s h=>by
  obtain ⟨hp,g,d,tk,os⟩:=s;obtain ⟨hl,h⟩:=h
  have hsub:=sub_enumerate
  have hL:Heap.IsTuple (Shared.heap ⟨hp,g,d,tk,os⟩) l items:=⟨_,hl,rfl,n,rfl⟩
  wp_walk using Y9 hl
  refine wpAny_stack_any λst=>WY ?_
  split
  ·rename_i c _ _ _ _ _
   cases (c==Value.type "enumerate")
   ·wp_walk using Y9 hl,Zh hL
    exact ⟨_,rfl,h⟩
   ·wp_walk using Y9 hl,Zh hL
    exact ⟨_,rfl,h⟩
  ·wp_walk using Y9 hl,Zh hL
   exact ⟨_,rfl,h⟩
theorem qN {prog:Xx} {w:XR} {A:Around} {E:V0→WT→Prop} (hL:s.heap.IsTuple l items)
  (h:∀ h',IsEnum h' (s.heap.objs.size+1) s.heap.objs.size 0 .none→h'.IsTupleIter s.heap.objs.size l 0→h'.objs.size=s.heap.objs.size+2 →
   (∀ b o,s.heap.get? b=some o→h'.get? b=some o)→Q (.ref (s.heap.objs.size+1)) {s with heap:=h'}) :
  Xe (model prog w) A (call (.type "enumerate") [.ref l]) Q E s:=by
 obtain ⟨⟨c,dct,dt,sl⟩,hl,hc,n,hd⟩:=hL
 replace hc:c=.type "tuple":=hc
 replace hd:dt=.seq items n:=hd
 subst hc hd
 refine callType_new F.called_enumerate (by decide) (F.typeCall_enumerate_1 _) (F.newCall_enumerate_1 _) (λobj=>abp obj _) F.entry_enumerate_new
  (vJ l items n dct sl) ⟨hl,?_⟩
 have hz:(s.heap.push {cls:=.type "tuple_iterator",data:=.fields #[.ref l,.int 0 0]}).objs.size=s.heap.objs.size+1:=XY ..
 show _∧_
 rw [hz]
 have he:IsEnum ((s.heap.push {cls:=.type "tuple_iterator",data:=.fields #[.ref l,.int 0 0]}).push
   {cls:=.type "enumerate",data:=.fields #[.none,.bool false,.ref s.heap.objs.size,rawInt 0,.none,.none]}) (s.heap.objs.size+1) s.heap.objs.size 0 .none:=by
  have:=W5 (s.heap.push {cls:=.type "tuple_iterator",data:=.fields #[.ref l,.int 0 0]})
   (o:={cls:=.type "enumerate",data:=.fields #[.none,.bool false,.ref s.heap.objs.size,rawInt 0,.none,.none]}) rfl
  rw [hz] at this;exact this
 refine ⟨⟨_,he,rfl⟩,h _ he ⟨_,WQ _ (W5 _ rfl),rfl,rfl⟩ (by rw [XY,hz]) λb o x=>WQ _ (WQ _ x)⟩
noncomputable def K5 (K:WV) (a:Addr):It:=
 ⟨λi H=>∃ xs x,kC K H a xs∧xs[i]?=some x,λi H y H'=>∃ x p,(∀ xs,kC K H a xs→xs[i]?=some x)∧H p=none∧y=.ref p∧H'=upd H p (.tup [.int i,x]),λi H=>∃ xs,kC K H a xs∧xs.length=i⟩
theorem xY {k:Nat} {pt:Pos} (l e it:Addr) (hne:e≠it) (hle:l≠e) (hli:l≠it):Turn P w K (.Tuple es k pt) (K5 K l) [e,it] e (λi h=>∃ old,IsEnum h e it i old∧h.IsTupleIter it l i) where
 mem:=by simp
 obj:=λi h zz b hb=>by
  obtain ⟨old,st1,st2⟩:=zz
  rcases Xl.mp hb with rfl | hb
  ·exact ⟨_,st1,λv z=>by cases z⟩
  ·have e:b=it:=by simpa using hb
   subst e
   obtain ⟨o,e,c,d⟩:=st2
   exact ⟨o,e,λv z=>by rw [d] at z;cases z⟩
 keep:=λi h h' zz kp=>by obtain ⟨old,st1,st2⟩:=zz;exact ⟨old,kp e (by simp) _ st1,st2.at λo q=>kp it (by simp) o q⟩
 item:=by
  intro X hP hw hK hc i pins s σ H E I hf zu hg
  obtain ⟨old,st1,st2⟩:=zu
  subst hP hw hK
  obtain ⟨xs,x,hq,hx⟩:=hg
  obtain ⟨its,rv,p,hz⟩:=I.tuple hq
  obtain ⟨u,hu,ru⟩:=rv.get hx
  have Ql:e<s.heap.objs.size:=W3 st1
  have KQ:it<s.heap.objs.size:=by obtain ⟨o,q,_⟩:=st2;exact W3 q
  have hlen:i<its.length:=(WS.mp hu).1
  refine wpAny_pyNext_enum_itemD (rW (show X.A.in1.handled=none from I.ok.hd hc) it l hli its.toArray) st1 ⟨st2,p⟩ (by simpa using hlen) hne (by simp [hne,YE hle]) λx' h' tk hx' hO hst htup hsz kp=>?_
  have Uj:x'=u:=by
   have e:its.toArray[i]?=some x':=hx'
   rw [ZX,hu] at e
   exact (XJ e).symm
  subst Uj
  have hL:=hst.1
  refine ⟨.ref s.heap.objs.size,rfl,?_⟩
  have I1:Inv X pins σ (upd H s.heap.objs.size (.tup [.int i,x])) {s with heap:=s.heap.push {cls:=.type "tuple",data:=.seq #[.int i tk,x']}}:=
   I.laid (t':=s.toks) (λb o q=>WQ _ q) (WZ _) ⟨by simp [sizeLine_eq],[.int i tk,x'],.cons ⟨_,rfl⟩ (.cons ru .nil),ZR _ _⟩
  have hfree:=I.hok.fresh (WZ s.heap.objs.size)
  have hf1:∀ b∈[e,it],kK X pins (upd H s.heap.objs.size (.tup [.int i,x])) b:=λb hb=>by
   have hlt:b≠s.heap.objs.size:=by
    rcases Xl.mp hb with rfl | hb
    ·exact Xa Ql
    ·rw [Xj.mp hb];exact Xa KQ
   exact ⟨by rw [az hlt];exact (hf b hb).1,(hf b hb).2⟩
  unfold letOwnedTupleGo
  refine Us (aai hO ?_)
  dsimp only
  rw [if_pos (by simp)]
  refine Us (aaY ?_)
  unfold updateField
  refine Us (aai hO ?_)
  dsimp only
  rw [if_pos (by simp)]
  refine wpAny_update hO ?_
  have uE:∀ b,b≠e→(h'.update e (YH λx=>x.setIfInBounds 0 Value.none)).get? b=h'.get? b:=λb hb=>Yj _ _ (YE hb)
  refine ⟨.ref s.heap.objs.size,_,nV (t':=tk+1) (s:={s with heap:=s.heap.push {cls:=.type "tuple",data:=.seq #[.int i tk,x']}}) (ch:=[e,it]) I1 (λb o hb q=>?_) hf1,rfl,⟨x,s.heap.objs.size,λys hy=>by rw [I.mq hy hq];exact hx,hfree,rfl,rfl⟩,⟨x',?_,?_⟩,λb hb=>(hf1 b hb).1⟩
  ·have hb1:b≠e:=λz=>hb (by simp [z])
   have hb2:b≠it:=λz=>hb (by simp [z])
   show (h'.update e _).get? b=some o
   rw [uE b hb1]
   by_cases HZ:b=s.heap.objs.size
   ·subst HZ
    have:=W5 (o:={cls:=.type "tuple",data:=.seq #[.int (i:Int) tk,x']}) s.heap rfl
    rw [this] at q;cases q
    exact htup
   ·have q':(s.heap.push {cls:=.type "tuple",data:=.seq #[.int (i:Int) tk,x']}).get? b=some o:=q
    refine kp b o hb1 hb2 ?_
    rwa [aax _ _ _ HZ] at q'
  ·show (h'.update e _).get? e=_
   rw [Yp _ hO rfl]
   rfl
  ·exact hL.at λo q=>(uE it (YE hne)).trans q
 done:=by
  intro X hP hw hK hc i pins s σ H E I hf zu hg
  obtain ⟨old,st1,st2⟩:=zu
  subst hP hw hK
  obtain ⟨xs,hq,hx⟩:=hg
  obtain ⟨its,rv,p,hz⟩:=I.tuple hq
  obtain ⟨f0,f1,f2,f3,f4,f5⟩:=hf it (by simp)
  have hl:=rv.length
  have hi:i=its.toArray.size:=by simp;nofun
  subst hi
  exact wpAny_pyNext_enum_endD (rW (show X.A.in1.handled=none from I.ok.hd hc) it l hli its.toArray) st1 ⟨st2,p⟩ λh' eb=>⟨rfl,I.turned (t':=s.toks) (λb o hb e=>eb b o hb e) f0 f1 f3 f4 f5⟩
 self:=λ_ _ _ _ _ zz h=>by obtain ⟨old,st1,_⟩:=zz;exact ZS st1 h
noncomputable def jL (xs:List D):View:=λ_ i=>if i≤xs.length then some (xs[i]?.map λx=>.tup [.int i,x]) else none
noncomputable def dP (m:DS→M (List D)):MI:=λτ=>(m τ).bind λds=>match ds with
 | [d]=>λG=>match aA G d with
  | some (.lst xs)=>.ok (xs.length+1,iz d) G
  | some (.tup xs)=>.ok (xs.length+1,jL xs) G
  | _=>.stuck
 | _=>M.stop
theorem CQ (Uk:rG H0 l vt) (KW:au K mg ρ0 H0 zs vt):JV K mg (K5 K l) (jL zs) H0 ρ0:=by
 intro i H ρ G f hp
 have sq:=rG.t (K:=K) (f.tup _ _ Uk)
 have rs:=KW.mono f
 unfold jL
 constructor
 ·intro e
  by_cases hi:i≤zs.length
  ·rw [if_pos hi] at e
   cases qi:zs[i]? with
   | some z=>rw [qi] at e;cases e
   | none=>
    have:=XN.mp qi
    exact ⟨vt,sq,by rw [← rs.length];nofun⟩
  ·rw [if_neg hi] at e;cases e
 ·intro dd e
  by_cases hi:i≤zs.length
  ·rw [if_pos hi] at e
   cases qi:zs[i]? with
   | none=>rw [qi] at e;cases e
   | some z=>
    rw [qi] at e;cases e
    obtain ⟨v,ev,rv⟩:=rs.get qi
    refine ⟨⟨vt,v,sq,ev⟩,λy H' hy=>?_⟩
    obtain ⟨v',p,ev',hp0,rfl,rfl⟩:=hy
    have ev':=ev' vt sq
    rw [ev] at ev';cases ev'
    refine ⟨vc.new hp0,?_⟩
    unfold Rep
    refine ⟨p,[.int i,v],rfl,.of aM,.cons (by unfold Rep;rfl) (.cons (Rep.mono (cR hp0 ρ) _ _ rv) .nil)⟩
  ·rw [if_neg hi] at e;cases e
section
variable {X:Cx} {EE:cz} {a:Expr} {p pc:Pos} {m:DS→M (List D)}
theorem CS {k:Nat} {pt:Pos} (hm:X.mg "enumerate"=none) (qD:Gl X "enumerate") (ha:QA X EE [a] m) (h:aq [a]=true:=by rfl):QI X EE (.Tuple es k pt) (.Call (.Name "enumerate" p) [a] [] pc) (dP m):=by
 have h':bg a=true∧aq []=true:=by simpa [aq] using h
 intro pins s σ H R I hq
 obtain ⟨τ,ρ,G,ab,ok⟩:=hq
 by_cases hT:∃ d G1 zs,m τ G=.ok [d] G1∧aA G1 d=some (.tup zs)
 ·obtain ⟨d,G1,zs,em,q⟩:=hT
  dsimp only [dP,M.bind] at ok
  rw [em] at ok
  dsimp only at ok
  rw [q] at ok
  dsimp only at ok
  refine Xw (fq I qD hm rP ?_ (by decide) (by decide))
  have hA:gU X.K X.mg EE m σ H λvs H1=>∃ ρ1,Ab X.K X.mg σ H1 τ ρ1 G1∧cC X.K H H1 ρ ρ1∧au X.K X.mg ρ1 H1 [d] vs:=by
   refine ⟨τ,ρ,G,ab,?_⟩
   rw [em]
   exact λvs H' ρ' f aZ r=>⟨ρ',aZ,f,r⟩
  refine Xr (cY (ha pc pins s σ H _ I hA) λus s1 nQ=>?_) (aO h'.1 _ _) (aY (es:=[]) rfl)
  obtain ⟨vs,H1,I1,r1,ρ1,gn,f1,rs⟩:=nQ
  obtain ⟨x,rfl,rx⟩:=ir rs
  obtain ⟨u,rfl,ru⟩:=vals1 r1
  obtain ⟨l,ys,rfl,sq,rv⟩:=oJ rx q
  cases ru
  obtain ⟨its,vv,pl,hz⟩:=I1.tuple sq.t
  have hlt:l<s1.heap.objs.size:=by obtain ⟨_,e,_⟩:=pl;exact W3 e
  refine qN pl λh2 hE hL hsz kp=>?_
  refine ZS hE ?_
  have I2:Inv X pins σ H1 {s1 with heap:=h2}:=I1.kept (t':=s1.toks) kp
  refine ⟨s1.heap.objs.size+1,[s1.heap.objs.size+1,s1.heap.objs.size],_,K5 X.K l,H1,rfl,I2,xY l _ _ (abV _) (Xa (aaw hlt)) (Xa hlt),⟨_,hE,hL⟩,λb hb=>?_,ok _ H1 ρ1 f1 gn (CQ sq rv)⟩
  rcases Xl.mp hb with rfl | hb
  ·exact I1.nG (abn _) (I1.hok.fresh (abn _))
  ·rw [Xj.mp hb]
   exact I1.nG (WZ _) (I1.hok.fresh (WZ _))
 ·refine F4 hm qD ha h pins s σ H R I ⟨τ,ρ,G,ab,?_⟩
  have e:vj m τ G=dP m τ G:=by
   dsimp only [dP,vj,M.bind]
   cases em:m τ G with
   | stuck=>rfl
   | bH c G'=>rfl
   | ok ds G'=>
    dsimp only
    match ds with
    | []=>rfl
    | _::_::_=>rfl
    | [d]=>
     dsimp only
     cases q:aA G' d with
     | none=>rfl
     | some sk=>
      cases sk with
      | lst _=>rfl
      | str _=>rfl
      | tup zs=>exact absurd ⟨d,G',zs,em,q⟩ hT
  rw [e];exact ok
end
noncomputable abbrev DN (s:Str):Prop:=(s==("__debug__":Str))=false∧(s==("__classdict__":Str))=false
noncomputable def Out.fw (r:Out D) (G:DH):Out D:=match r with
 | .ok (.obj n) G'=>match G'[n]? with
  | some (.lst ds)=>if n=G.length∧G'.length=n+1∧lR (G'.take G.length) G=true∧aD ds=true then .ok (.con ds) G else .stuck
  | _=>.stuck
 | r=>r
noncomputable def Out.fz (r:Out D):Out D:=match r with
 | .ok (.obj n) G'=>match G'[n]? with
  | some (.lst ds)=>.ok (.con ds) (G'.set n .dead)
  | _=>.stuck
 | r=>r
section
variable {τ:DS} {G G' A B R:DH} {e ma mb mc:DS→M D} {n i:Nat} {d:D} {c:XD} {ml:DS→M (List D)} {ds xs ys:List D} {m:List D→M D}
theorem bG:eFn e τ G=(e τ G).fw G:=W6 rfl rfl
@[simp] theorem NF:xm e τ G=(e τ G).fz:=W6 rfl rfl
@[simp] theorem CU:(Out.ok (.tup xs) G').fw G=.ok (.tup xs) G':=W6 rfl rfl
@[simp] theorem Qq:(Out.ok (.con xs) G').fw G=.ok (.con xs) G':=W6 rfl rfl
@[simp] theorem Qs {z:Str}:(Out.ok (.str z) G').fw G=.ok (.str z) G':=W6 rfl rfl
@[simp] theorem Qv {j:Int}:(Out.ok (.int j) G').fw G=.ok (.int j) G':=W6 rfl rfl
theorem dQ (h:aD ds=true):(Out.ok (.obj G.length) (G++[.lst ds])).fw G=.ok (.con ds) G:=by
 simp [Out.fw,h,mO]
theorem cU (hz:ds.length≤WO) (h:aD ds=true):(aP ds G).fw G=.ok (.con ds) G:=by
 rw [aP,if_pos hz,dQ h]
@[simp] theorem Ic:(Out.ok (.obj A.length) (A++.lst ds::B)).fz=.ok (.con ds) (A++.dead::B):=by
 simp [Out.fz,vm]
theorem fj {d:D} (h:m ds G=.ok d (G++R)) (hc:d.closed=true):cF m ds G=.ok d G:=by
 simp [cF,h,hc,mO]
theorem aR {d:D} (h:m ds G=.ok d G) (hc:d.closed=true):cF m ds G=.ok d G:=fj (R:=[]) (by simpa using h) hc
@[simp] theorem Qw:CL ml τ G=(ml τ G).bd λds=>match ds with
 | [d]=>λG=>match aA G d with
  | some (.lst xs)=>.ok (xs.length+1,xU d xs.length) G
  | _=>.stuck
 | _=>M.stop:=ai
@[simp] theorem Qx:Qp ml τ G=(ml τ G).bd λds=>match ds with
 | [d,e]=>λG=>match aA G d,aA G e with
  | some (.lst xs),some (.lst ys)=>.ok (min xs.length ys.length+1,Nx d e) G
  | _,_=>.stuck
 | _=>M.stop:=ai
@[simp] theorem pC:dP ml τ G=(ml τ G).bd λds=>match ds with
 | [d]=>λG=>match aA G d with
  | some (.lst xs)=>.ok (xs.length+1,iz d) G
  | some (.tup xs)=>.ok (xs.length+1,jL xs) G
  | _=>.stuck
 | _=>M.stop:=ai
@[simp] theorem OP:rS ml τ G=(ml τ G).bd λds=>match ints3 ds with
 | some (lo,hi,c)=>λG=>if -(2^30)≤lo∧lo<2^30∧-(2^30)≤hi∧hi<2^30∧0<c∧c<2^30 then .ok (lT lo hi c+1,xX lo c (lT lo hi c)) G else .stuck
 | none=>M.stop:=ai
@[simp] theorem Gj:vE τ G=.ok (.obj G.length) (G++[.dct []]):=W6 rfl rfl
@[simp] theorem CV:iI ma mb mc τ G=(ma τ G).bd λd G=>if rT G d=true then (mb τ G).bd (λk=>(mc τ).bind λx=>yY d k x) else .stuck:=by
 unfold iI
 rw [ai]
 unfold Out.bd
 cases ma τ G with
 | stuck=>rfl
 | bH c G=>rfl
 | ok d G'=>simp only [ai];rfl
@[simp] theorem Gk:ju ma mb mc τ G=((ma τ G).bd λv=>(mb τ).bind λo=>(mc τ).bind λi=>rV v o i).xp τ:=by
 unfold ju bN Out.xp
 rw [ai]
 cases ((ma τ G).bd λv=>(mb τ).bind λo=>(mc τ).bind λi=>rV v o i)<;>rfl
theorem lV {g:kL} {body:MS} {vw:View} (hv:∀ G i,i≤xs.length→vw G i=some xs[i]?):∀ (fuel i:Nat) (τ:DS) (G:DH),i≤xs.length→xs.length<fuel+i→nJ g body vw fuel i τ G=bC g body (xs.drop i) τ G
 | 0,i,τ,G,h1,h2=>by nofun
 | fuel+1,i,τ,G,h1,h2=>by
  rw [nJ]
  dsimp only
  rw [hv G i h1]
  by_cases hi:i<xs.length
  ·rw [W2 hi,YT hi,bC]
   dsimp only
   cases g xs[i] τ with
   | none=>rfl
   | some τ1=>
    dsimp only
    cases body τ1 G with
    | nx τ2 G2=>exact lV hv fuel (i+1) τ2 G2 (by nofun) (by nofun)
    | ct τ2 G2=>exact lV hv fuel (i+1) τ2 G2 (by nofun) (by nofun)
    | _=>rfl
  ·rw [Zl (by nofun),Zg (by nofun),bC]
theorem gQ {gO:D→Option (List D)} {ks:List Bool} {tt:DS→M Bool} {te:DS→M D} {vw:View} (hv:∀ G i,i≤xs.length→vw G i=some xs[i]?):∀ (fuel i:Nat) (τ:DS) (G:DH),i≤xs.length→xs.length<fuel+i→iy gO ks tt te n vw fuel i τ G=bU gO ks tt te n (xs.drop i) τ G
 | 0,i,τ,G,h1,h2=>by nofun
 | fuel+1,i,τ,G,h1,h2=>by
  rw [iy]
  rw [hv G i h1]
  by_cases hi:i<xs.length
  ·rw [W2 hi,YT hi,bU]
   dsimp only
   cases dh gO ks tt te n xs[i] τ G with
   | ok u G2=>exact gQ hv fuel (i+1) τ G2 (by nofun) (by nofun)
   | _=>rfl
  ·rw [Zl (by nofun),Zg (by nofun),bU]
theorem yZ {body:MS}:nJ g body (xU (.con xs) xs.length) (xs.length+1) 0 τ G=bC g body xs.reverse τ G:=by
 have:=lV (g:=g) (body:=body) (xs:=xs.reverse) (vw:=xU (.con xs) xs.length) (λG i h=>by
  simp only [Zy] at h
  simp only [xU,aA,if_true]
  by_cases hi:i=xs.length
  ·rw [if_pos hi,Zl (by simp;nofun)]
  ·rw [if_neg hi,if_pos (by nofun),aa9 (by nofun)]) (xs.length+1) 0 τ G (by simp) (by simp)
 simpa using this
theorem xZ:iy gO ks tt te n (jL xs) (xs.length+1) 0 τ G=bU gO ks tt te n (xs.mapIdx λi x=>.tup [.int i,x]) τ G:=by
 have:=gQ (n:=n) (gO:=gO) (ks:=ks) (tt:=tt) (te:=te) (xs:=xs.mapIdx λi x=>D.tup [.int i,x]) (vw:=jL xs) (λG i h=>by
  simp only [List.length_mapIdx] at h
  simp only [jL,if_pos h,Zs]) (xs.length+1) 0 τ G (by simp) (by simp)
 simpa using this
theorem CW {c:Int} {k:Nat}:iy gO ks tt te n (xX lo c k) (k+1) 0 τ G=bU gO ks tt te n ((Xz k).map λ(i:Nat)=>.int (lo+(i:Int)*c)) τ G:=by
 have:=gQ (n:=n) (gO:=gO) (ks:=ks) (tt:=tt) (te:=te) (xs:=(Xz k).map λ(i:Nat)=>D.int (lo+(i:Int)*c)) (vw:=xX lo c k) (λG i h=>by
  simp only [W8,List.length_range] at h
  simp only [xX,Xn]
  by_cases hi:i<k
  ·rw [if_pos hi,List.getElem?_range hi];rfl
  ·rw [if_neg hi,Zl (by simp;nofun)];rfl) (k+1) 0 τ G (by simp) (by simp)
 simpa using this
theorem pF {x v:D} (h1:gO x=some os) (h2:te (os.map some++mask ks τ) (G++[.lst acc])=.ok v (G++[.lst acc])) (hz:acc.length<WO) :
  dh gO ks bW te G.length x τ (G++[.lst acc])=.ok () (G++[.lst (acc++[v])]):=by
 simp only [dh,h1,bW,M.ret,h2,oY,if_pos hz,vm]
theorem bQ {gO:D→Option (List D)} {ks:List Bool} {te:DS→M D} {own:D→List D} {f:D→D}:∀ (xs acc:List D),acc.length+xs.length≤1000000→(∀ x∈xs,gO x=some (own x))→(∀ x∈xs,∀ acc,te ((own x).map some++mask ks τ) (G++[.lst acc])=.ok (f x) (G++[.lst acc])) →
  bU gO ks bW te G.length xs τ (G++[.lst acc])=.ok (.obj G.length) (G++[.lst (acc++xs.map f)])
 | [],acc,_,_,_=>by simp [bU]
 | x::xs,acc,hl,h1,h2=>by
  have hz:acc.length<WO:=W0 (by simp at hl;nofun) (lz (n:=1000001) (by nofun))
  rw [bU,pF (h1 x (by simp)) (h2 x (by simp) acc) hz]
  dsimp only
  rw [bQ xs (acc++[f x]) (by simp at hl ⊢;nofun) (λy hy=>h1 y (by simp [hy])) (λy hy=>h2 y (by simp [hy]))]
  simp
end
theorem gY:∀ {xs:List D},(∀ x∈xs,x.closed=true)→aD xs=true
 | [],_=>rfl
 | x::xs,h=>by rw [aD,h x (by simp),gY λy hy=>h y (by simp [hy])];rfl
theorem ay {α:Type} {f:α→D} {l:List α} (h:∀ x,(f x).closed=true):aD (l.map f)=true:=gY (by
 intro x hx
 obtain ⟨a,_,rfl⟩:=Xf.mp hx
 exact h a)
theorem aJ {xs:List D}:(D.con xs).closed=aD xs:=by rw [D.closed]
theorem fC {xs:List D}:(D.tup xs).closed=aD xs:=by rw [D.closed]
theorem bB {i:Int}:(D.int i).closed=true:=by rw [D.closed]<;>simp
theorem cB {i:Str}:(D.str i).closed=true:=by rw [D.closed]<;>simp
theorem bh:aD []=true:=rfl
theorem aH {x:D} {xs:List D}:aD (x::xs)=(x.closed&&aD xs):=by rw [aD]
theorem iB:∀ {xs ys:List D},aD (xs++ys)=(aD xs&&aD ys)
 | [],ys=>by simp [aD]
 | x::xs,ys=>by simp [aD,iB (xs:=xs),Bool.and_assoc]
mutual
noncomputable def D.pd:D→PyData
 | .bl b=>.bool b
 | .int i=>.int i
 | .str x=>.str x
 | .tup ds=>.tuple (nX ds)
 | .con ds=>.list (nX ds)
 | _=>.none
noncomputable def nX:List D→List PyData
 | []=>[]
 | d::r=>d.pd::nX r
end
mutual
noncomputable def D.plain:D→Bool
 | .tup ds=>bR ds
 | .con ds=>bR ds
 | .str x=>WW x
 | .obj _=>false
 | .xh _ _=>false
 | .ig _ _=>false
 | .fn _=>false
 | _=>true
noncomputable def bR:List D→Bool
 | []=>true
 | d::r=>d.plain&&bR r
end
mutual
noncomputable def D.dp:D→Nat
 | .tup ds=>pG ds+1
 | .con ds=>pG ds+1
 | _=>0
noncomputable def pG:List D→Nat
 | []=>0
 | d::r=>max d.dp (pG r)
end
mutual
theorem kP (G:DH):∀ (d:D) (n:Nat),d.plain=true→d.dp<n→jw G n d=some d.pd
 | .eO,n+1,_,_=>by simp [jw,D.pd]
 | .bl b,n+1,_,_=>by simp [jw,D.pd]
 | .int b,n+1,_,_=>by simp [jw,D.pd]
 | .str b,n+1,_,_=>by simp [jw,D.pd]
 | .tup ds,n+1,h,hn=>by
  rw [jw,nY G ds n (by simpa [D.plain] using h) (by rw [D.dp] at hn;nofun),D.pd];rfl
 | .con ds,n+1,h,hn=>by
  rw [jw,nY G ds n (by simpa [D.plain] using h) (by rw [D.dp] at hn;nofun),D.pd];rfl
 | .obj k,n+1,h,_=>by simp [D.plain] at h
 | .xh _ _,n+1,h,_=>by simp [D.plain] at h
 | .ig _ _,n+1,h,_=>by simp [D.plain] at h
 | .fn _,n+1,h,_=>by simp [D.plain] at h
theorem nY (G:DH):∀ (ds:List D) (n:Nat),bR ds=true→pG ds<n→bP (jw G n) ds=some (nX ds)
 | [],n,_,_=>by simp [bP,nX]
 | d::ds,n,h,hn=>by
  have h':d.plain=true∧bR ds=true:=by simpa [bR] using h
  rw [pG] at hn
  rw [bP,kP G d n h'.1 (by nofun),nY G ds n h'.2 (by nofun),nX]
end
mutual
theorem lay_of:∀ (d:D),d.plain=true→d.pd.canLay0=true
 | .eO,_=>by simp [D.pd,Yw]
 | .bl b,_=>by simp [D.pd,Yw]
 | .int b,_=>by simp [D.pd,Yw]
 | .str b,h=>by simpa [D.pd,Yw,D.plain] using h
 | .tup ds,h=>by
  rw [D.pd,Yw];exact tO ds (by simpa [D.plain] using h)
 | .con ds,h=>by
  rw [D.pd,Yw];exact tO ds (by simpa [D.plain] using h)
 | .obj k,h=>by simp [D.plain] at h
 | .xh _ _,h=>by simp [D.plain] at h
 | .ig _ _,h=>by simp [D.plain] at h
 | .fn _,h=>by simp [D.plain] at h
theorem tO:∀ (ds:List D),bR ds=true→Yl (nX ds)=true
 | [],_=>by simp [nX,Yl]
 | d::ds,h=>by
  have h':d.plain=true∧bR ds=true:=by simpa [bR] using h
  rw [nX,Yl,lay_of d h'.1,tO ds h'.2];rfl
end
mutual
theorem vK:∀ (d:D),d.pd.depth≤d.dp
 | .eO=>by simp [D.pd,Ye]
 | .bl b=>by simp [D.pd,Ye]
 | .int b=>by simp [D.pd,Ye]
 | .str b=>by simp [D.pd,Ye]
 | .tup ds=>by rw [D.pd,Ye,D.dp];exact abW (tP ds)
 | .con ds=>by rw [D.pd,Ye,D.dp];exact abW (tP ds)
 | .obj k=>by simp [D.pd,Ye]
 | .xh _ _=>by simp [D.pd,Ye]
 | .ig _ _=>by simp [D.pd,Ye]
 | .fn _=>by simp [D.pd,Ye]
theorem tP:∀ (ds:List D),YX (nX ds)≤pG ds
 | []=>by simp [nX,YX]
 | d::ds=>by
  rw [nX,YX,pG]
  have:=vK d
  have:=tP ds
  nofun
end
mutual
theorem pH:∀ (d:D),X4 d.pd d.pd=true
 | .eO=>by simp [D.pd,X4]
 | .bl b=>by simp [D.pd,X4]
 | .int b=>by simp [D.pd,X4]
 | .str b=>by simp [D.pd,X4]
 | .tup ds=>by rw [D.pd,X4];exact mQ ds
 | .con ds=>by rw [D.pd,X4];exact mQ ds
 | .obj k=>by simp [D.pd,X4]
 | .xh _ _=>by simp [D.pd,X4]
 | .ig _ _=>by simp [D.pd,X4]
 | .fn _=>by simp [D.pd,X4]
theorem mQ:∀ (ds:List D),Zj (nX ds) (nX ds)=true
 | []=>by simp [nX,Zj]
 | d::ds=>by rw [nX,Zj,pH d,mQ ds];rfl
end
theorem pI (g:Bool) (d:D) (G:DH) (h:d.plain=true) (hn:d.dp≤580):fG g d d G=.ok (.bl (g ^^ true)) G:=by
 have hd:=vK d
 unfold fG tw
 rw [kP G d deep h (by show d.dp<600;nofun)]
 dsimp only
 rw [if_pos (by rw [lay_of d h];simp;nofun),pH]
theorem Gm (g:Bool) (ds:List D) (k:Nat) (G:DH) (hk:G[k]?=some (.lst ds)) (h:bR ds=true) (hn:pG ds≤570):fG g (.obj k) (.con ds) G=.ok (.bl (g ^^ true)) G:=by
 have hd:=tP ds
 have e1:jw G deep (.obj k)=some (D.con ds).pd:=by
  show (match G[k]? with
   | some (.lst ds)=>(bP (jw G 599) ds).map PyData.list
   | _=>none)=_
  rw [hk]
  dsimp only
  rw [nY G ds 599 h (by nofun),D.pd];rfl
 have hp:(D.con ds).plain=true:=by rw [D.plain];exact h
 have VZ:(D.con ds).dp≤580:=by rw [D.dp];nofun
 have:=vK (.con ds)
 unfold fG tw
 rw [e1,kP G (.con ds) deep hp (by show (D.con ds).dp<600;nofun)]
 dsimp only
 rw [if_pos (by rw [lay_of _ hp];simp;nofun),pH]
theorem mR:∀ {xs:List D},(∀ x∈xs,x.plain=true)→bR xs=true
 | [],_=>rfl
 | x::xs,h=>by rw [bR,h x (by simp),mR λy hy=>h y (by simp [hy])];rfl
theorem x6 {n:Nat}:∀ {xs:List D},(∀ x∈xs,x.dp≤n)→pG xs≤n
 | [],_=>XQ _
 | x::xs,h=>by
  rw [pG]
  have:=h x (by simp)
  have:=x6 (xs:=xs) λy hy=>h y (by simp [hy])
  nofun
section
variable {prog:Xx} {w:XR} {A:Around} {E:V0→WT→Prop} {s:WT}
theorem pJ {d:Addr} {es:Array DictEntry} {e:DictEntry} {Q:Option V0→WT→Prop} (hit:s.heap.IsKeyIter it d i es.size ep)
  (ho:s.heap.get? d=some o) (hx:o.ExactDict) (hd:o.data=.dict es ep) (he:es[i]?=some e)
  (hQ:∀ h',h'.IsKeyIter it d (i+1) es.size ep→Y0 it s.heap h'→Q (some e.key) {s with heap:=h'}) :
  Xe (model prog w) A (pyNext (.ref it)) Q E s:=by
 obtain ⟨oi,LR,R3,hdi⟩:=id hit
 unfold pyNext
 refine Us (aaD (X6 (name:=Y5 "__next__") hit.typeIs Yg (Yr Yg hit.typeIs Z7 ?_ (Z1 _))))
 refine Us (Us (WY (WY ?_)))
 refine Us ?_
 refine Us (Us (Yx hit.typeIs (WY ?_)))
 refine Us (wpAny_fieldsOf LR hdi ?_)
 rw [show YB "dict_keyiterator"=false from by decide]
 show Xe _ _ (if (Value.ref d==Value.none)=true then _ else _) _ _ s
 rw [if_neg (show ¬ ((Value.ref d==Value.none)=true) from XF)]
 refine Us (WY ?_)
 refine Us (aay ho hd ?_)
 dsimp only
 rw [if_neg (by simp)]
 refine Us (WY ?_)
 refine Us (aa5 ho hd ?_)
 rw [if_neg (by simp)]
 refine WY ?_
 dsimp only
 rw [if_neg (by nofun),Y4,he]
 dsimp only
 refine Us (Us (Yx hit.typeIs (WY ?_)))
 refine Us (abb hit.typeIs ?_)
 rw [show YB "dict_keyiterator"=false from by decide]
 refine Us (Zq LR hdi (by simp) ?_)
 refine Us (Z5 ?_)
 simp only [Bool.false_eq_true,if_false]
 rw [if_neg (by decide)]
 have Gi:Heap.IsKeyIter (s.heap.update it (YH λx=>x.setIfInBounds (0+1) (rawInt (↑i+1)))) it d (i+1) es.size ep:=
  ⟨_,Yp _ LR (ZW (YM hdi _)),(abP ..).trans R3,by
   rw [YM hdi];simp [rawInt]⟩
 refine Us (abb Gi.typeIs ?_)
 rw [if_pos (by decide)]
 exact WY (WY ⟨_,rfl,WY (hQ _ Gi (Zx ..))⟩)
theorem qO {d:Addr} {es:Array DictEntry} {Q:Option V0→WT→Prop} (hh:A.handled=none) (hit:s.heap.IsKeyIter it d i es.size ep)
  (ho:s.heap.get? d=some o) (hx:o.ExactDict) (hd:o.data=.dict es ep) (he:es[i]?=none)
  (hQ:∀ h',abk it s.heap h'→Q none {s with heap:=h'}) :
  Xe (model prog w) A (pyNext (.ref it)) Q E s:=by
 obtain ⟨oi,LR,R3,hdi⟩:=id hit
 unfold pyNext
 refine Us (aaD (X6 (name:=Y5 "__next__") hit.typeIs Yg (Yr Yg hit.typeIs Z7 ?_ (Z1 _))))
 refine Us (Us (WY (WY ?_)))
 refine Us ?_
 refine Us (Us (Yx hit.typeIs (WY ?_)))
 refine Us (wpAny_fieldsOf LR hdi ?_)
 rw [show YB "dict_keyiterator"=false from by decide]
 show Xe _ _ (if (Value.ref d==Value.none)=true then _ else _) _ _ s
 rw [if_neg (show ¬ ((Value.ref d==Value.none)=true) from XF)]
 refine Us (WY ?_)
 refine Us (aay ho hd ?_)
 dsimp only
 rw [if_neg (by simp)]
 refine Us (WY ?_)
 refine Us (aa5 ho hd ?_)
 rw [if_neg (by simp)]
 refine WY ?_
 dsimp only
 rw [if_neg (by nofun),Y4,he]
 dsimp only
 refine Us (Us (Yx hit.typeIs (WY ?_)))
 rw [show YB "dict_keyiterator"=false from by decide]
 refine Us (Zq LR hdi (by simp) ?_)
 refine Us ?_
 simp only [newExc,newTuple]
 refine Us (XM ?_ (by size_fits))
 refine Us (m:=firstArgMember _ _) (wpAny_of_eq (a:=Value.none) (by first | rfl | (simp only [firstArgMember];rfl)) ?_)
 refine XM ?_ (by size_fits)
 simp only [raiseNew]
 refine Us (wpAny_handled ?_)
 first | rw [show A.in1.handled=none from hh] | rw [hh]
 refine Us (WY (ab3 ?_))
 refine Us (aaK (T:="StopIteration") (v:=.ref _) ?_ isSubtype_stop ?_)
 ·exact ⟨_,W5 _ rfl,rfl⟩
 rw [if_pos rfl]
 exact WY (hQ _ (((Zx ..).extBut.push _).push _))
theorem AE {d:Addr} {es:Array DictEntry} (hne:(d==sysModules)=false)
  (ho:s.heap.get? d=some o) (hx:o.ExactDict) (hd:o.data=.dict es ep)
  (hQ:Q (.ref s.heap.objs.size) {s with heap:=s.heap.push {cls:=.type "dict_keyiterator",data:=.fields #[.ref d,.int 0 0,.int es.size 0,.int ep 0]}}) :
  Xe (model prog w) A (pyIter (.ref d)) Q E s:=by
 have ht:s.TypeIs (.ref d) "dict":=⟨_,ho,hx.1⟩
 refine wpAny_pyIter_slot ht abX (Yr abX ht F.entry_dict_iter ?_ (F.args_dict_iter_1 _))
 refine Us (Us (wpAny_notOrdered_dict ht ?_))
 refine Us (WY (WY ?_))
 refine Us (WY ?_)
 refine Us (m:=abc _) ?_
 unfold abc
 rw [if_neg (by rw [hne];exact XF)]
 refine WY ?_
 refine Us (aay ho hd ?_)
 refine Us (aa5 ho hd ?_)
 refine Us (XM ?_ (by size_fits))
 exact WY ⟨_,rfl,"dict_keyiterator",_,⟨_,W5 _ rfl,rfl⟩,Yg.lookup,hQ⟩
end
noncomputable def nu (tp:Bool) (h:Heap) (it l:Addr) (i:Nat):Prop:=if tp=true then h.IsTupleIter it l i else h.IsListIter it l i
noncomputable def qE (tp:Bool) (h:Heap) (l:Addr) (xs:Array V0):Prop:=if tp=true then h.IsTuple l xs else h.IsList l xs
theorem nu.at (x:nu tp h it l i) (k:∀ o,h.get? it=some o→h'.get? it=some o):nu tp h' it l i:=by
 cases tp
 ·exact Heap.IsListIter.at (show h.IsListIter it l i from x) k
 ·exact Heap.IsTupleIter.at (show h.IsTupleIter it l i from x) k
theorem qE.at {xs:Array V0} (x:qE tp h l xs) (k:∀ o,h.get? l=some o→h'.get? l=some o):qE tp h' l xs:=by
 cases tp
 ·obtain ⟨o,e,r⟩:=(show h.IsList l xs from x)
  exact (⟨o,k o e,r⟩:h'.IsList l xs)
 ·exact Heap.IsTuple.at (show h.IsTuple l xs from x) k
theorem nu.get (x:nu tp h it l i):∃ o,h.get? it=some o∧∀ v,o.data≠.cell v:=by
 cases tp
 ·obtain ⟨o,e,c,d⟩:=(show h.IsListIter it l i from x)
  exact ⟨o,e,λv q=>by rw [d] at q;cases q⟩
 ·obtain ⟨o,e,c,d⟩:=(show h.IsTupleIter it l i from x)
  exact ⟨o,e,λv q=>by rw [d] at q;cases q⟩
section
variable {prog:Xx} {w:XR} {A:Around} {E:V0→WT→Prop} {s:WT}
theorem kQ {x:V0} (hit:nu tp s.heap it l i)
  (ht:qE tp s.heap l items) (hx:items[i]?=some x)
  (hQ:∀ h',nu tp h' it l (i+1)→Y0 it s.heap h'→Q x {s with heap:=h'}) :
  Xe (model prog w) A (Yb (.ref it)) Q E s:=by
 cases tp
 ·exact wpAny_nextOf_list_item (show s.heap.IsListIter it l i from hit) (show s.heap.IsList l items from ht) hx hQ
 ·exact jx (show s.heap.IsTupleIter it l i from hit) (show s.heap.IsTuple l items from ht) hx hQ
theorem AF {TI TO:Addr} {k:Nat} {a x y:V0} {xs:Array V0} (D:ZipApart z TI TO i1 i2 l1 l2) (hz:IsZip s.heap z TI TO Value.none) (hTI:IsPair s.heap TI (.ref i1) (.ref i2)) (hTO:IsPair s.heap TO a b)
  (h1:nu t1 s.heap i1 l1 k) (h2:nu t2 s.heap i2 l2 k) (p1:qE t1 s.heap l1 xs) (p2:qE t2 s.heap l2 ys) (hx:xs[k]?=some x) (hy:ys[k]?=some y)
  (hQ:∀ h',IsZip h' z TI TO (rawInt s.heap.objs.size)→IsPair h' TO x y→nu t1 h' i1 l1 (k+1)→nu t2 h' i2 l2 (k+1)→IsPair h' s.heap.objs.size x y→h'.objs.size=s.heap.objs.size+1 →
   (∀ c o,c≠z→c≠TO→c≠i1→c≠i2→s.heap.get? c=some o→h'.get? c=some o)→Q (.ref s.heap.objs.size) {s with heap:=h'}) :
  Xe (model prog w) A (abt.«zip.__next__» {pos:=[Value.ref z]}) (λfin s'=>∃ v,fin=Fin.done (Flow.ret v)∧Q v s') E s:=by
 unfold «Builtin».«zip.__next__»
 refine Us (WY ?_)
 dsimp only
 refine Us (XG hz rfl (x:=.bool false) rfl ?_)
 refine Us (XG hz rfl (x:=.ref TI) rfl ?_)
 refine Us (Yv hTI rfl ?_)
 dsimp only
 rw [if_neg (by simp)]
 refine Us ?_
 unfold ZC
 refine Us (XG hz rfl (x:=.none) rfl ?_)
 dsimp only
 refine WY ?_
 rw [if_pos rfl]
 refine Us (aaY ?_)
 refine Us (XG hz rfl (x:=.ref TO) rfl ?_)
 dsimp only
 refine Us (YQ hz (by simp) λQy z1 s1=>?_)
 have k1:∀ c o,c≠z→s.heap.get? c=some o→Qy.get? c=some o:=λc o hc q=>(s1.2 c hc).trans q
 refine Us ?_
 rw [show [Value.ref i1,Value.ref i2].zipIdx=[(.ref i1,0),(.ref i2,1)] from rfl,YZ]
 refine Us ?_
 dsimp only
 refine Us (aaE ?_)
 refine Us (kQ (h1.at λo q=>k1 _ _ D.i1z q) (p1.at λo q=>k1 _ _ D.l1z q) hx λh2' m1 s2=>WY ?_)
 have k2:∀ c o,c≠z→c≠i1→s.heap.get? c=some o→h2'.get? c=some o:=λc o hc hd q=>(s2.2 c hd).trans (k1 c o hc q)
 dsimp only
 have NG:IsPair h2' TO a b:=k2 _ _ D.TOz D.TOi1 hTO
 refine Us (Yv NG rfl ?_)
 dsimp only
 refine Us (Z8 NG λh3' e3 s3=>?_)
 refine Us (abm (WY ?_))
 have k3:∀ c o,c≠z→c≠i1→c≠TO→s.heap.get? c=some o→h3'.get? c=some o:=λc o hc hd he q=>(s3.2 c he).trans (k2 c o hc hd q)
 have Ul:IsPair h3' TO x b:=e3
 dsimp only
 rw [YZ]
 refine Us ?_
 dsimp only
 refine Us (aaE ?_)
 refine Us (kQ (h2.at λo q=>k3 _ _ D.i2z D.i12.symm D.TOi2.symm q) (p2.at λo q=>k3 _ _ D.l2z D.l2i1 D.l2TO q) hy λR4 m2 s4=>WY ?_)
 dsimp only
 have R5:IsPair R4 TO x b:=(s4.2 _ D.TOi2).trans Ul
 refine Us (Yv R5 rfl ?_)
 dsimp only
 refine Us (Z8 R5 λGn e5 s5=>?_)
 refine Us (abm (WY ?_))
 have k5:∀ c o,c≠z→c≠i1→c≠TO→c≠i2→s.heap.get? c=some o→Gn.get? c=some o:=λc o hc hd he hf q=>(s5.2 c he).trans ((s4.2 c hf).trans (k3 c o hc hd he q))
 have R6:IsPair Gn TO x y:=e5
 dsimp only
 rw [List.forIn_nil]
 refine WY ?_
 dsimp only
 refine Us (Yv R6 rfl ?_)
 dsimp only
 refine Us (abq ?_)
 refine Us ?_
 unfold Builtin.SmallTypes.ownedTupleHandOut
 dsimp only
 have hsz:Gn.objs.size=s.heap.objs.size:=by
  have a1:=s1.1;have a2:=s2.1;have a3:=s3.1;have a4:=s4.1;have a5:=s5.1
  dsimp only at a2 a3 a4 a5
  nofun
 have z5:=(s5.2 z D.TOz.symm).trans ((s4.2 z D.i2z.symm).trans ((s3.2 z D.TOz.symm).trans ((s2.2 z D.i1z.symm).trans z1)))
 have zn:z≠s.heap.objs.size:=Xa (W3 hz)
 rw [hsz]
 refine Us (YQ (WQ _ z5) (by simp) λV0 z6 s6=>?_)
 refine YQ z6 (by simp) λQz z7 s7=>?_
 refine WY ⟨_,rfl,?_⟩
 have k7:∀ c,c≠z→Qz.get? c=(Gn.push {cls:=.type "tuple",data:=.seq #[x,y]}).get? c:=λc hc=>(s7.2 c hc).trans (s6.2 c hc)
 have k8:∀ c o,c≠z→Gn.get? c=some o→Qz.get? c=some o:=λc o hc q=>(k7 c hc).trans (WQ _ q)
 refine hQ Qz z7 (k8 _ _ D.TOz R6) (m1.at λo q=>?_) (m2.at λo q=>?_) ?_ ?_ (λc o c1 c2 c3 c4 q=>k8 c o c1 (k5 c o c1 c3 c2 c4 q))
 ·exact k8 _ _ D.i1z ((s5.2 _ D.TOi1.symm).trans ((s4.2 _ D.i12).trans ((s3.2 _ D.TOi1.symm).trans q)))
 ·exact k8 _ _ D.i2z ((s5.2 _ D.TOi2.symm).trans q)
 ·refine (k7 _ zn.symm).trans ?_
  rw [← hsz];exact W5 _ rfl
 ·have a6:=s6.1;have a7:=s7.1
  have a8:=XY Gn {cls:=.type "tuple",data:=.seq #[x,y]}
  dsimp only at a6 a7
  nofun
end
section
variable {prog:Xx} {w:XR} {A:Around} {E:V0→WT→Prop} {s:WT}
theorem rX {Q:V0→WT→Prop} (hh:A.handled=none) (hit:nu tp s.heap it l i)
  (ht:qE tp s.heap l items) (hx:items[i]?=none)
  (hE:∀ h' e,abk it s.heap h'→(∃ o,h'.get? e=some o∧o.cls=.type "StopIteration")→E (.ref e) {s with heap:=h'}) :
  Xe (model prog w) A (Yb (.ref it)) Q E s:=by
 cases tp
 ·exact wpAny_nextOf_list_end hh (show s.heap.IsListIter it l i from hit) (show s.heap.IsList l items from ht) hx hE
 ·exact jK hh (show s.heap.IsTupleIter it l i from hit) (show s.heap.IsTuple l items from ht) hx hE
theorem CY {t1 t2:Bool} {TI TO:Addr} {k:Nat} {a:V0} {xs ys:Array V0} {Q:PySem.Fin→WT→Prop} (hh:A.handled=none) (D:ZipApart z TI TO i1 i2 l1 l2) (hz:IsZip s.heap z TI TO Value.none) (hTI:IsPair s.heap TI (.ref i1) (.ref i2)) (hTO:IsPair s.heap TO a b)
  (h1:nu t1 s.heap i1 l1 k) (h2:nu t2 s.heap i2 l2 k) (p1:qE t1 s.heap l1 xs) (p2:qE t2 s.heap l2 ys) (hx:xs[k]?=none∨ys[k]?=none)
  (hE:∀ h' e,(∀ c o,c≠z→c≠TO→c≠i1→c≠i2→s.heap.get? c=some o→h'.get? c=some o)→(∃ o,h'.get? e=some o∧o.cls=.type "StopIteration")→E (.ref e) {s with heap:=h'}) :
  Xe (model prog w) A (abt.«zip.__next__» {pos:=[Value.ref z]}) Q E s:=by
 unfold «Builtin».«zip.__next__»
 refine Us (WY ?_)
 dsimp only
 refine Us (XG hz rfl (x:=.bool false) rfl ?_)
 refine Us (XG hz rfl (x:=.ref TI) rfl ?_)
 refine Us (Yv hTI rfl ?_)
 dsimp only
 rw [if_neg (by simp)]
 refine Us ?_
 unfold ZC
 refine Us (XG hz rfl (x:=.none) rfl ?_)
 dsimp only
 refine WY ?_
 rw [if_pos rfl]
 refine Us (aaY ?_)
 refine Us (XG hz rfl (x:=.ref TO) rfl ?_)
 dsimp only
 refine Us (YQ hz (by simp) λQy z1 s1=>?_)
 have k1:∀ c o,c≠z→s.heap.get? c=some o→Qy.get? c=some o:=λc o hc q=>(s1.2 c hc).trans q
 refine Us ?_
 rw [show [Value.ref i1,Value.ref i2].zipIdx=[(.ref i1,0),(.ref i2,1)] from rfl,YZ]
 refine Us ?_
 dsimp only
 refine Us (aaE ?_)
 cases OQ:xs[k]? with
 | none=>
  refine Us (rX hh (h1.at λo q=>k1 _ _ D.i1z q) (p1.at λo q=>k1 _ _ D.l1z q) OQ λh2' e s2 he=>?_)
  obtain ⟨oe,ge,ce⟩:=he
  have z2:=s2 _ _ D.i1z.symm z1
  have QB:e≠z:=by
   rintro rfl
   rw [z2] at ge;cases ge;exact absurd (show Value.type "zip"=Value.type "StopIteration" from ce) (by decide)
  refine YQ z2 (by simp) λh3' z3 s3=>?_
  exact hE _ _ (λc o c1 c2 c3 c4 q=>(s3.2 c c1).trans (s2 _ _ c3 (k1 c o c1 q))) ⟨oe,(s3.2 e QB).trans ge,ce⟩
 | some x=>
 refine Us (kQ (h1.at λo q=>k1 _ _ D.i1z q) (p1.at λo q=>k1 _ _ D.l1z q) OQ λh2' m1 s2=>WY ?_)
 have hy:ys[k]?=none:=by
  rcases hx with hx | hx
  ·rw [OQ] at hx;cases hx
  ·exact hx
 have k2:∀ c o,c≠z→c≠i1→s.heap.get? c=some o→h2'.get? c=some o:=λc o hc hd q=>(s2.2 c hd).trans (k1 c o hc q)
 dsimp only
 have NG:IsPair h2' TO a b:=k2 _ _ D.TOz D.TOi1 hTO
 refine Us (Yv NG rfl ?_)
 dsimp only
 refine Us (Z8 NG λh3' e3 s3=>?_)
 refine Us (abm (WY ?_))
 have k3:∀ c o,c≠z→c≠i1→c≠TO→s.heap.get? c=some o→h3'.get? c=some o:=λc o hc hd he q=>(s3.2 c he).trans (k2 c o hc hd q)
 dsimp only
 rw [YZ]
 refine Us ?_
 dsimp only
 refine Us (aaE ?_)
 refine Us (rX hh (h2.at λo q=>k3 _ _ D.i2z D.i12.symm D.TOi2.symm q) (p2.at λo q=>k3 _ _ D.l2z D.l2i1 D.l2TO q) hy λR4 e s4 he=>?_)
 obtain ⟨oe,ge,ce⟩:=he
 have z4:=s4 _ _ D.i2z.symm ((s3.2 z D.TOz.symm).trans ((s2.2 z D.i1z.symm).trans z1))
 have QB:e≠z:=by
  rintro rfl
  rw [z4] at ge;cases ge;exact absurd (show Value.type "zip"=Value.type "StopIteration" from ce) (by decide)
 refine YQ z4 (by simp) λGn z5 s5=>?_
 exact hE _ _ (λc o c1 c2 c3 c4 q=>(s5.2 c c1).trans (s4 _ _ c4 (k3 c o c1 c3 c2 q))) ⟨oe,(s5.2 e QB).trans ge,ce⟩
end
section
variable {prog:Xx} {w:XR} {A:Around} {E:V0→WT→Prop} {s:WT}
theorem qP {TI TO:Addr} {k:Nat} {a x y:V0} {xs:Array V0} {Q:Option V0→WT→Prop} (D:ZipApart z TI TO i1 i2 l1 l2) (hz:IsZip s.heap z TI TO Value.none) (hTI:IsPair s.heap TI (.ref i1) (.ref i2)) (hTO:IsPair s.heap TO a b)
  (h1:nu t1 s.heap i1 l1 k) (h2:nu t2 s.heap i2 l2 k) (p1:qE t1 s.heap l1 xs) (p2:qE t2 s.heap l2 ys) (hx:xs[k]?=some x) (hy:ys[k]?=some y)
  (hQ:∀ h',IsZip h' z TI TO (rawInt s.heap.objs.size)→IsPair h' TO x y→nu t1 h' i1 l1 (k+1)→nu t2 h' i2 l2 (k+1)→IsPair h' s.heap.objs.size x y→h'.objs.size=s.heap.objs.size+1 →
   (∀ c o,c≠z→c≠TO→c≠i1→c≠i2→s.heap.get? c=some o→h'.get? c=some o)→Q (some (.ref s.heap.objs.size)) {s with heap:=h'}) :
  Xe (model prog w) A (pyNext (.ref z)) Q E s:=by
 have ht:s.TypeIs (.ref z) "zip":=⟨_,hz,rfl⟩
 unfold pyNext
 refine Us (aaD (X6 (name:=Y5 "__next__") ht aac (Yr aac ht abY ?_ (abQ _))))
 exact AF D hz hTI hTO h1 h2 p1 p2 hx hy λh' a1 a2 a3 a4 a5 a6 a7=>WY (hQ h' a1 a2 a3 a4 a5 a6 a7)
theorem tQ {TI TO:Addr} {k:Nat} {a:V0} {xs:Array V0} {Q:Option V0→WT→Prop} (hh:A.handled=none) (D:ZipApart z TI TO i1 i2 l1 l2) (hz:IsZip s.heap z TI TO Value.none) (hTI:IsPair s.heap TI (.ref i1) (.ref i2)) (hTO:IsPair s.heap TO a b)
  (h1:nu t1 s.heap i1 l1 k) (h2:nu t2 s.heap i2 l2 k) (p1:qE t1 s.heap l1 xs) (p2:qE t2 s.heap l2 ys) (hx:xs[k]?=none∨ys[k]?=none)
  (hQ:∀ h',(∀ c o,c≠z→c≠TO→c≠i1→c≠i2→s.heap.get? c=some o→h'.get? c=some o)→Q none {s with heap:=h'}) :
  Xe (model prog w) A (pyNext (.ref z)) Q E s:=by
 have ht:s.TypeIs (.ref z) "zip":=⟨_,hz,rfl⟩
 unfold pyNext
 refine Us (aaD (X6 (name:=Y5 "__next__") ht aac (Yr aac ht abY ?_ (abQ _))))
 refine CY hh D hz hTI hTO h1 h2 p1 p2 hx λh' e hk he=>?_
 refine Us (aaK (T:="StopIteration") (v:=.ref e) he isSubtype_stop ?_)
 rw [if_pos rfl]
 exact WY (hQ _ hk)
noncomputable def LS (tp:Bool) (l:Addr):Obj:={cls:=.type (if tp=true then "tuple_iterator" else "list_iterator"),data:=.fields #[.ref l,.int 0 0]}
theorem Ie {xs:Array V0} (h:qE tp s.heap l xs) (hQ:Q (.ref s.heap.objs.size) {s with heap:=s.heap.push (LS tp l)}):Xe (model prog w) A (pyIter (.ref l)) Q E s:=by
 cases tp
 ·exact aav (show s.heap.IsList l xs from h) hQ
 ·exact Zh (show s.heap.IsTuple l xs from h) hQ
end
noncomputable abbrev LU (t1:Bool) (h:Heap) (l1:Addr):Heap:=h.push (LS t1 l1)
noncomputable abbrev K6 (t1 t2:Bool) (h:Heap) (l1 l2:Addr):Heap:=(LU t1 h l1).push (LS t2 l2)
noncomputable abbrev K7 (t1 t2:Bool) (h:Heap) (l1 l2:Addr):Heap:=(K6 t1 t2 h l1 l2).push {cls:=.type "tuple",data:=.seq #[.ref h.objs.size,.ref (LU t1 h l1).objs.size]}
noncomputable abbrev LV (t1 t2:Bool) (h:Heap) (l1 l2:Addr):Heap:=(K7 t1 t2 h l1 l2).push {cls:=.type "tuple",data:=.seq #[.none,.none]}
noncomputable abbrev OR (t1 t2:Bool) (h:Heap) (l1 l2:Addr):Heap:=(LV t1 t2 h l1 l2).push {cls:=.type "zip",data:=.fields #[.none,.bool false,.bool false,.ref (K6 t1 t2 h l1 l2).objs.size,.ref (K7 t1 t2 h l1 l2).objs.size]}
theorem x8 (t1 t2:Bool) (l1 l2:Addr) (xs ys:Array V0) :
  Meets (abt.«zip.__new__» ⟨[.type "zip",.ref l1,.ref l2],[]⟩) (λ_ R s=>qE t1 s.heap l1 xs∧qE t2 s.heap l2 ys ∧
   R (.ok (.ret (.ref (LV t1 t2 s.heap l1 l2).objs.size))) {s with heap:=OR t1 t2 s.heap l1 l2}):=
 .of_wp λprog w A R s h=>by
  obtain ⟨h1,h2,h⟩:=h
  have hsub:=sub_zip
  have h2':qE t2 (s.heap.push (LS t1 l1)) l2 ys:=h2.at λo q=>WQ _ q
  unfold «Builtin».«zip.__new__»
  refine Us ?_
  unfold Builtin.SmallTypes.newClass
  dsimp only
  refine Us (WY ?_)
  rw [if_neg (by decide),hsub]
  refine Us (WY ?_)
  rw [if_neg (by decide)]
  refine WY ?_
  dsimp only
  rw [if_neg (by simp)]
  refine Us ?_
  unfold Builtin.SmallTypes.iterAll
  dsimp only
  refine Us ?_
  rw [YZ]
  refine Us (Us (Z5 (Ie h1 (WY ?_))))
  dsimp only
  rw [YZ]
  refine Us (Us (Z5 (Ie h2' (WY ?_))))
  dsimp only
  rw [List.forIn_nil]
  refine WY (WY ?_)
  refine Us (abq ?_ (by simp [sizeLine_eq]))
  refine Us (abq ?_ (by simp [sizeLine_eq]))
  refine Us ?_
  unfold Builtin.SmallTypes.newRecord
  dsimp only
  exact XM (WY ⟨_,rfl,h⟩) (by simp [sizeOk,sizeLine_eq,Builtin.SmallTypes.ownedTupleFields])
theorem AG {prog:Xx} {w:XR} {A:Around} {E:V0→WT→Prop} {xs:Array V0} (h1:qE t1 s.heap l1 xs) (h2:qE t2 s.heap l2 ys)
  (h:∀ h',IsZip h' (s.heap.objs.size+4) (s.heap.objs.size+2) (s.heap.objs.size+3) .none→IsPair h' (s.heap.objs.size+2) (.ref s.heap.objs.size) (.ref (s.heap.objs.size+1))→IsPair h' (s.heap.objs.size+3) .none .none →
   nu t1 h' s.heap.objs.size l1 0→nu t2 h' (s.heap.objs.size+1) l2 0→h'.objs.size=s.heap.objs.size+5→(∀ c o,s.heap.get? c=some o→h'.get? c=some o)→Q (.ref (s.heap.objs.size+4)) {s with heap:=h'}) :
  Xe (model prog w) A (call (.type "zip") [.ref l1,.ref l2]) Q E s:=by
 refine callType_new F.called_zip (by decide) (F.typeCall_zip_2 _ _) (F.newCall_zip_2 _ _) (λobj=>F.args_object_init_3 obj _ _) F.entry_zip_new
  (x8 t1 t2 l1 l2 xs ys) ⟨h1,h2,?_⟩
 have n1:(LU t1 s.heap l1).objs.size=s.heap.objs.size+1:=XY ..
 have n2:(K6 t1 t2 s.heap l1 l2).objs.size=s.heap.objs.size+2:=by rw [K6,XY,n1]
 have n3:(K7 t1 t2 s.heap l1 l2).objs.size=s.heap.objs.size+3:=by rw [K7,XY,n2]
 have n4:(LV t1 t2 s.heap l1 l2).objs.size=s.heap.objs.size+4:=by rw [LV,XY,n3]
 have n5:(OR t1 t2 s.heap l1 l2).objs.size=s.heap.objs.size+5:=by rw [OR,XY,n4]
 have gz:=W5 (LV t1 t2 s.heap l1 l2) (o:={cls:=.type "zip",data:=.fields #[.none,.bool false,.bool false,.ref (K6 t1 t2 s.heap l1 l2).objs.size,.ref (K7 t1 t2 s.heap l1 l2).objs.size]}) rfl
 have gO:=W5 (K7 t1 t2 s.heap l1 l2) (o:={cls:=.type "tuple",data:=.seq #[.none,.none]}) rfl
 have gI:=W5 (K6 t1 t2 s.heap l1 l2) (o:={cls:=.type "tuple",data:=.seq #[.ref s.heap.objs.size,.ref (LU t1 s.heap l1).objs.size]}) rfl
 have g2:nu t2 (K6 t1 t2 s.heap l1 l2) (s.heap.objs.size+1) l2 0:=by
  have:=W5 (LU t1 s.heap l1) (o:=LS t2 l2) rfl
  rw [n1] at this
  cases t2<;>exact ⟨_,this,rfl,rfl⟩
 have g1:nu t1 (LU t1 s.heap l1) s.heap.objs.size l1 0:=by
  have:=W5 s.heap (o:=LS t1 l1) rfl
  cases t1<;>exact ⟨_,this,rfl,rfl⟩
 replace gz:IsZip (OR t1 t2 s.heap l1 l2) (s.heap.objs.size+4) (s.heap.objs.size+2) (s.heap.objs.size+3) .none:=by rw [IsZip,← n4,← n2,← n3];exact gz
 replace gO:IsPair (LV t1 t2 s.heap l1 l2) (s.heap.objs.size+3) .none .none:=by rw [IsPair,← n3];exact gO
 replace gI:IsPair (K7 t1 t2 s.heap l1 l2) (s.heap.objs.size+2) (.ref s.heap.objs.size) (.ref (s.heap.objs.size+1)):=by rw [IsPair,← n2,← n1];exact gI
 have kp:∀ {h:Heap} {o':Obj} {c:Addr} {o:Obj},h.get? c=some o→(h.push o').get? c=some o:=λq=>WQ _ q
 refine ⟨?_,?_⟩
 ·rw [n4];exact ⟨_,gz,rfl⟩
 ·rw [n4]
  exact h _ gz (kp (kp gI)) (kp gO) (g1.at λo q=>kp (kp (kp (kp q)))) (g2.at λo q=>kp (kp (kp q))) n5 λc o q=>kp (kp (kp (kp (kp q))))
noncomputable def CZ (t:Bool) (K:WV) (H:Hp) (a:Addr) (xs:List V):Prop:=if t=true then kC K H a xs else jY K H a xs
section
variable {X:Cx} {pins:List (Addr×Obj)} {σ:L2.St} {H:Hp} {s:WT} {a:Addr} {xs ys:List V} {t:Bool}
theorem _root_.L2.Inv.AH (I:Inv X pins σ H s) (h:CZ t X.K H a xs):∃ its:List V0,Vals xs its∧qE t s.heap a its.toArray:=by
 cases t
 ·obtain ⟨its,r,p,_⟩:=I.list (show jY X.K H a xs from h)
  exact ⟨its,r,p.isList⟩
 ·obtain ⟨its,r,p,_⟩:=I.tuple (show kC X.K H a xs from h)
  exact ⟨its,r,p⟩
theorem _root_.L2.Inv.vL (I:Inv X pins σ H s) (h:CZ t X.K H a xs) (h':CZ t X.K H a ys):xs=ys:=by
 cases t
 ·exact I.lq (show jY X.K H a xs from h) (show jY X.K H a ys from h')
 ·exact I.mq (show kC X.K H a xs from h) (show kC X.K H a ys from h')
theorem qE.lt (p:qE t h a its):a<h.objs.size:=by
 cases t
 ·obtain ⟨o,e,_⟩:=(show h.IsList a its from p);exact W3 e
 ·obtain ⟨o,e,_⟩:=(show h.IsTuple a its from p);exact W3 e
end
noncomputable def K8 (K:WV) (t1 t2:Bool) (a b:Addr):It:=
 ⟨λi H=>∃ xs ys x y,CZ t1 K H a xs∧CZ t2 K H b ys∧xs[i]?=some x∧ys[i]?=some y,λi H v H'=>∃ x y p,(∀ xs,CZ t1 K H a xs→xs[i]?=some x)∧(∀ ys,CZ t2 K H b ys→ys[i]?=some y)∧H p=none∧v=.ref p∧H'=upd H p (.tup [x,y]),λi H=>∃ xs ys,CZ t1 K H a xs∧CZ t2 K H b ys∧(xs.length≤i∨ys.length≤i)⟩
theorem AI {k:Nat} {pt:Pos} (t1 t2:Bool) (l1 l2 z TI TO i1 i2:Addr) (D:ZipApart z TI TO i1 i2 l1 l2):Turn P w K (.Tuple es k pt) (K8 K t1 t2 l1 l2) [z,TI,TO,i1,i2] z
  (λi h=>IsZip h z TI TO .none∧IsPair h TI (.ref i1) (.ref i2)∧(∃ a b,IsPair h TO a b)∧nu t1 h i1 l1 i∧nu t2 h i2 l2 i) where
 mem:=by simp
 obj:=λi h zz c hc=>by
  obtain ⟨hz,hTI,⟨a,b,hTO⟩,h1,h2⟩:=zz
  simp only [Xl,Z3,or_false] at hc
  rcases hc with rfl | rfl | rfl | rfl | rfl
  ·exact ⟨_,hz,λv e=>by cases e⟩
  ·exact ⟨_,hTI,λv e=>by cases e⟩
  ·exact ⟨_,hTO,λv e=>by cases e⟩
  ·exact h1.get
  ·exact h2.get
 keep:=λi h h' zz kp=>by obtain ⟨hz,hTI,⟨a,b,hTO⟩,h1,h2⟩:=zz;exact ⟨kp z (by simp) _ hz,kp TI (by simp) _ hTI,⟨a,b,kp TO (by simp) _ hTO⟩,h1.at λo q=>kp i1 (by simp) o q,h2.at λo q=>kp i2 (by simp) o q⟩
 item:=by
  intro X hP hw hK hc i pins s σ H E I hf zu hg
  obtain ⟨hz,hTI,⟨a,b,hTO⟩,h1,h2⟩:=zu
  subst hP hw hK
  obtain ⟨xs,ys,x,y,hq1,hq2,hx,hy⟩:=hg
  obtain ⟨QC,NH,p1⟩:=I.AH hq1
  obtain ⟨its2,Gp,p2⟩:=I.AH hq2
  obtain ⟨u1,hu1,Um⟩:=NH.get hx
  obtain ⟨u2,Uo,QF⟩:=Gp.get hy
  have lt:∀ {c o},s.heap.get? c=some o→c≠s.heap.objs.size:=λe=>Xa (W3 e)
  have QH:i1≠s.heap.objs.size:=by obtain ⟨o,q,_⟩:=h1.get;exact lt q
  have QJ:i2≠s.heap.objs.size:=by obtain ⟨o,q,_⟩:=h2.get;exact lt q
  refine qP D hz hTI hTO h1 h2 p1 p2 (x:=u1) (y:=u2) (by simpa using hu1) (by simpa using Uo) λh' a1 a2 a3 a4 a5 a6 hk=>?_
  refine ⟨.ref s.heap.objs.size,rfl,?_⟩
  have I1:Inv X pins σ (upd H s.heap.objs.size (.tup [x,y])) {s with heap:=s.heap.push {cls:=.type "tuple",data:=.seq #[u1,u2]}}:=
   I.laid (t':=s.toks) (λb o q=>WQ _ q) (WZ _) ⟨by simp [sizeLine_eq],[u1,u2],.cons Um (.cons QF .nil),ZR _ _⟩
  have hfree:=I.hok.fresh (WZ s.heap.objs.size)
  have hne:∀ c∈[z,TI,TO,i1,i2],c≠s.heap.objs.size:=λc hc=>by
   simp only [Xl,Z3,or_false] at hc
   rcases hc with rfl | rfl | rfl | rfl | rfl
   ·exact lt hz
   ·exact lt hTI
   ·exact lt hTO
   ·exact QH
   ·exact QJ
  have hf1:∀ c∈[z,TI,TO,i1,i2],kK X pins (upd H s.heap.objs.size (.tup [x,y])) c:=λc hc=>⟨by rw [az (hne c hc)];exact (hf c hc).1,(hf c hc).2⟩
  refine wpAny_letOwnedTupleGo_zip (s:={s with heap:=h'}) a1 λh2' hz' hs'=>?_
  have QK:IsPair h' TI (.ref i1) (.ref i2):=hk _ _ D.TIz D.TITO D.TIi1 D.TIi2 hTI
  refine ⟨.ref s.heap.objs.size,_,nV (t':=s.toks) (s:={s with heap:=s.heap.push {cls:=.type "tuple",data:=.seq #[u1,u2]}}) (ch:=[z,TI,TO,i1,i2]) I1 (λc o hc q=>?_) hf1,rfl,⟨x,y,s.heap.objs.size,λzs hz=>by rw [I.vL hz hq1];exact hx,λzs hz=>by rw [I.vL hz hq2];exact hy,hfree,rfl,rfl⟩,⟨hz',hs'.extBut _ _ D.TIz QK,⟨_,_,hs'.extBut _ _ D.TOz a2⟩,a3.at λo q=>hs'.extBut _ _ D.i1z q,a4.at λo q=>hs'.extBut _ _ D.i2z q⟩,λc hc=>(hf1 c hc).1⟩
  have c1:c≠z:=λq=>hc (by simp [q])
  have c2:c≠TO:=λq=>hc (by simp [q])
  have c3:c≠i1:=λq=>hc (by simp [q])
  have c4:c≠i2:=λq=>hc (by simp [q])
  refine hs'.extBut _ _ c1 ?_
  by_cases hcs:c=s.heap.objs.size
  ·subst hcs
   have:=W5 (o:={cls:=.type "tuple",data:=.seq #[u1,u2]}) s.heap rfl
   rw [this] at q;cases q
   exact a5
  ·have q':(s.heap.push {cls:=.type "tuple",data:=.seq #[u1,u2]}).get? c=some o:=q
   refine hk c o c1 c2 c3 c4 ?_
   rwa [aax _ _ _ hcs] at q'
 done:=by
  intro X hP hw hK hc i pins s σ H E I hf zu hg
  obtain ⟨hz,hTI,⟨a,b,hTO⟩,h1,h2⟩:=zu
  subst hP hw hK
  obtain ⟨xs,ys,hq1,hq2,hx⟩:=hg
  obtain ⟨QC,NH,p1⟩:=I.AH hq1
  obtain ⟨its2,Gp,p2⟩:=I.AH hq2
  have hl1:=NH.length
  have hl2:=Gp.length
  refine tQ (I.ok.hd hc) D hz hTI hTO h1 h2 p1 p2 (by
   rcases hx with hx | hx
   ·left;simp;nofun
   ·right;simp;nofun) λh' hk=>⟨rfl,nV (t':=s.toks) (ch:=[z,TI,TO,i1,i2]) I (λc o hc q=>hk c o (λe=>hc (by simp [e])) (λe=>hc (by simp [e])) (λe=>hc (by simp [e])) (λe=>hc (by simp [e])) q) hf⟩
 self:=λ_ _ _ _ _ zz h=>by obtain ⟨hz,_⟩:=zz;exact abZ hz h
noncomputable def cG (G:DH) (d:D):Option (Bool×List D):=match aA G d with
 | some (.lst xs)=>some (false,xs)
 | some (.tup xs)=>some (true,xs)
 | _=>none
noncomputable def lW (d e:D):View:=λG i=>match cG G d,cG G e with
 | some (_,xs),some (_,ys)=>some (match xs[i]?,ys[i]? with
  | some x,some y=>some (.tup [x,y])
  | _,_=>none)
 | _,_=>none
noncomputable def iT (m:DS→M (List D)):MI:=λτ=>(m τ).bind λds=>match ds with
 | [d,e]=>λG=>match cG G d,cG G e with
  | some (_,xs),some (_,ys)=>.ok (min xs.length ys.length+1,lW d e) G
  | _,_=>.stuck
 | _=>M.stop
section
variable {X:Cx} {EE:cz} {tg iter a b:Expr} {g:kL} {mi:MI} {ms:MS} {pos p pc:Pos} {m:DS→M (List D)}
theorem vM {pins:List (Addr×Obj)} {σ0:L2.St} {s:WT} {d:D} {x:V} {t:Bool} (h:eS X.K X.mg H ρ G) (r:Rep X.K X.mg ρ H d x) (e:cG G d=some (t,ds)) :
  ∃ p xs,x=.ref p∧CZ t X.K H p xs∧au X.K X.mg ρ H ds xs:=by
 unfold cG at e
 cases q:aA G d with
 | none=>rw [q] at e;cases e
 | some k=>
  rw [q] at e
  cases k with
  | lst zs=>
   cases e
   obtain ⟨p,xs,h1,h2,h3⟩:=ck (pins:=pins) (σ0:=σ0) (s:=s) h r q
   exact ⟨p,xs,h1,h2,h3⟩
  | tup zs=>
   cases e
   obtain ⟨p,xs,h1,h2,h3⟩:=fW r q
   exact ⟨p,xs,h1,h2,h3⟩
  | str z=>cases e
theorem y9 {d:D} {x:V} {t:Bool} (r:Rep X.K X.mg ρ H d x) (h:eS X.K X.mg H ρ G) (e:cG G d=some (t,ds)) :
  ∃ p xs,x=.ref p∧CZ t X.K H p xs∧au X.K X.mg ρ H ds xs:=by
 unfold cG at e
 cases q:aA G d with
 | none=>rw [q] at e;cases e
 | some k=>
  rw [q] at e
  cases k with
  | lst zs=>
   cases e
   cases d with
   | con ds=>
    cases q
    unfold Rep at r
    obtain ⟨a',xs,e,s,r⟩:=r
    exact ⟨a',xs,e,s.seq,r⟩
   | obj n=>
    obtain ⟨a',rfl,e⟩:=(show ∃ a,x=.ref a∧ρ[n]?=some a by unfold Rep at r;exact r)
    obtain ⟨xs,h1,h2⟩:=CM cC.refl r h q
    exact ⟨a',xs,rfl,h1,h2⟩
   | _=>cases q
  | tup zs=>
   cases e
   obtain ⟨p,xs,h1,h2,h3⟩:=fW r q
   exact ⟨p,xs,h1,h2,h3⟩
  | str z=>cases e
theorem rY {H H':Hp} {ρ ρ':List Addr} {d:D} {l:Addr} {t t':Bool} (q:cG G d=some (t,ds)) (q':cG G' d=some (t',ds')):t=t':=by
 unfold cG at q q'
 cases d with
 | tup xs=>cases q;cases q';rfl
 | con xs=>cases q;cases q';rfl
 | obj n=>
  dsimp only [aA] at q q'
  have f:∀ {G:DH} {t:Bool} {ds:List D},(match (match G[n]? with | some (.lst xs)=>some (MR.lst xs) | _=>none) with | some (.lst xs)=>some (false,xs) | some (.tup xs)=>some (true,xs) | _=>none)=some (t,ds)→t=false:=by
   intro G t ds h
   cases g:G[n]? with
   | none=>rw [g] at h;cases h
   | some o=>cases o<;>(rw [g] at h;cases h)<;>rfl
  exact (f q).trans (f q').symm
 | _=>cases q
theorem Gq {d e:D} {es:List D} (r1:Rep X.K X.mg ρ H d (.ref l1)) (r2:Rep X.K X.mg ρ H e (.ref l2)) (k1:cG G d=some (t1,ds)) (k2:cG G e=some (t2,es)):JV X.K X.mg (K8 X.K t1 t2 l1 l2) (lW d e) H ρ:=by
 intro i H' ρ' G' f hp
 unfold lW
 cases q1:cG G' d with
 | none=>exact ⟨λe=>(by cases e),λx e=>(by cases e)⟩
 | some s1=>
  cases q2:cG G' e with
  | none=>exact ⟨λe=>(by cases e),λx e=>(by cases e)⟩
  | some s2=>
     obtain ⟨u1,zs⟩:=s1
     obtain ⟨u2,ws⟩:=s2
     have e1:=rY (H:=H) (H':=H') (ρ:=ρ) (ρ':=ρ') (l:=l1) k1 q1
     have e2:=rY (H:=H) (H':=H') (ρ:=ρ) (ρ':=ρ') (l:=l2) k2 q2
     subst e1 e2
     dsimp only
     obtain ⟨p1,xs,y1,OS,K9⟩:=y9 (r1.mono f) hp q1
     obtain ⟨p2,ys,y2,LW,Gd⟩:=y9 (r2.mono f) hp q2
     cases y1;cases y2
     have V1:=K9.length
     have V2:=Gd.length
     cases h1:zs[i]? with
     | none=>
      refine ⟨λ_=>⟨xs,ys,OS,LW,.inl ?_⟩,λx e=>(by cases e)⟩
      rw [XN] at h1;nofun
     | some x=>
      cases h2:ws[i]? with
      | none=>
       refine ⟨λ_=>⟨xs,ys,OS,LW,.inr ?_⟩,λx e=>(by cases e)⟩
       rw [XN] at h2;nofun
      | some y=>
       refine ⟨λe=>(by cases e),λt e=>?_⟩
       cases e
       obtain ⟨v1,hv1,NH⟩:=K9.get h1
       obtain ⟨v2,hv2,Gp⟩:=Gd.get h2
       refine ⟨⟨xs,ys,v1,v2,OS,LW,hv1,hv2⟩,λv H2 hy=>?_⟩
       obtain ⟨x',y',pp,hx',hy',hfree,rfl,rfl⟩:=hy
       have e1:=hx' xs OS
       rw [hv1] at e1;cases e1
       have e2:=hy' ys LW
       rw [hv2] at e2;cases e2
       have ff:cC X.K H' (upd H' pp (.tup [v1,v2])) ρ' ρ':=cR hfree ρ'
       refine ⟨⟨ff,λG hG=>hG.new hfree⟩,?_⟩
       unfold Rep
       exact ⟨pp,[v1,v2],rfl,.of aM,.cons (NH.mono ff) (.cons (Gp.mono ff) .nil)⟩
theorem Gr {k:Nat} {pt:Pos} (hm:X.mg "zip"=none) (qD:Gl X "zip") (ha:QA X EE [a,b] m) (h:aq [a,b]=true:=by rfl):QI X EE (.Tuple es k pt) (.Call (.Name "zip" p) [a,b] [] pc) (iT m):=by
 have h':bg a=true∧aq [b]=true:=by simpa [aq] using h
 intro pins s σ H R I hq
 obtain ⟨τ,ρ,G,ab,ok⟩:=hq
 dsimp only [iT,M.bind] at ok
 refine Xw (fq I qD hm boot_zip ?_ (by decide) (by decide))
 have hA:gU X.K X.mg EE m σ H λvs H1=>∃ ρ1 G1 ds,Ab X.K X.mg σ H1 τ ρ1 G1∧cC X.K H H1 ρ ρ1∧au X.K X.mg ρ1 H1 ds vs∧m τ G=.ok ds G1:=by
  refine ⟨τ,ρ,G,ab,?_⟩
  cases e:m τ G with
  | stuck=>rw [e] at ok;exact ok
  | bH c G'=>rw [e] at ok;exact ok
  | ok ds G'=>exact λvs H' ρ' f aZ r=>⟨ρ',G',ds,aZ,f,r,rfl⟩
 refine Xr (cY (ha pc pins s σ H _ I hA) λus s1 nQ=>?_) (aO h'.1 _ _) (aY h'.2)
 obtain ⟨vs,H1,I1,r1,ρ1,G1,ds,gn,f1,rs,em⟩:=nQ
 rw [em] at ok
 dsimp only at ok
 match ds,rs,ok with
 | [],_,ok=>exact ok.elim
 | [_],_,ok=>exact ok.elim
 | _::_::_::_,_,ok=>exact ok.elim
 | [d,e],rs,ok=>
  unfold au at rs
  obtain ⟨x,rest,rfl,rx,rs⟩:=rs
  obtain ⟨y,rfl,ry⟩:=ir rs
  cases r1 with
  | cons ru rr=>
  rename_i u us'
  obtain ⟨u2,rfl,QF⟩:=vals1 rr
  dsimp only at ok
  cases q:cG G1 d with
  | none=>rw [q] at ok;exact ok.elim
  | some sk=>
   cases q2:cG G1 e with
   | none=>rw [q,q2] at ok;exact ok.elim
   | some Up=>
      rw [q,q2] at ok
      dsimp only at ok
      obtain ⟨t1,zs⟩:=sk
      obtain ⟨t2,ws⟩:=Up
      obtain ⟨l,ys,rfl,sq,rv⟩:=vM (pins:=pins) (σ0:=σ) (s:=s1) gn.hp rx q
      obtain ⟨l2,V3,rfl,LW,Gp⟩:=vM (pins:=pins) (σ0:=σ) (s:=s1) gn.hp ry q2
      cases ru
      cases QF
      obtain ⟨its,vv,pl⟩:=I1.AH sq
      obtain ⟨its2,V4,R7⟩:=I1.AH LW
      refine AG pl R7 λh2 b1 b2 b3 b4 b5 hsz kp=>?_
      refine abZ (s:={s1 with heap:=h2}) b1 ?_
      have I2:Inv X pins σ H1 {s1 with heap:=h2}:=I1.kept (t':=s1.toks) kp
      have ll:l<s1.heap.objs.size:=pl.lt
      have Uq:l2<s1.heap.objs.size:=R7.lt
      have V5:(l:Nat)<s1.heap.objs.size:=ll
      have Ur:(l2:Nat)<s1.heap.objs.size:=Uq
      have D:ZipApart (s1.heap.objs.size+4) (s1.heap.objs.size+2) (s1.heap.objs.size+3) s1.heap.objs.size (s1.heap.objs.size+1) l l2:=by
       constructor<;>(intro q;simp only [Addr] at *;nofun)
      refine ⟨s1.heap.objs.size+4,_,_,K8 X.K t1 t2 l l2,H1,rfl,I2,AI t1 t2 l l2 _ _ _ _ _ D,⟨b1,b2,⟨_,_,b3⟩,b4,b5⟩,λc hc=>?_,ok _ H1 ρ1 f1 gn (Gq rx ry q q2)⟩
      have hge:s1.heap.objs.size≤c:=by
       simp only [Xl,Z3,or_false] at hc
       rcases hc with rfl | rfl | rfl | rfl | rfl<;>nofun
      exact I1.nG hge (I1.hok.fresh hge)
end
noncomputable def pK:D→Option (List Key)
 | .tup ds=>bP lU ds
 | _=>none
noncomputable def vN:Key→D
 | .inl i=>.int i
 | .inr x=>.str x
section
variable {K:WV} {mg:Str→Option V0} {H:Hp} {ρ:List Addr} {G:DH}
theorem vO:∀ {ds:List D} {xs:List V} {ks:List Key},au K mg ρ H ds xs→bP lU ds=some ks→xs=ks.map kV
 | [],xs,ks,r,e=>by
  unfold au at r;subst r
  cases e;rfl
 | d::ds,xs,ks,r,e=>by
  unfold au at r
  obtain ⟨v,vs,rfl,h1,h2⟩:=r
  unfold bP at e
  cases q1:lU d with
  | none=>rw [q1] at e;cases e
  | some k=>
   cases q2:bP lU ds with
   | none=>rw [q1,q2] at e;cases e
   | some r=>
    rw [q1,q2] at e;cases e
    rw [tN h1 q1,vO h2 q2];rfl
theorem vP {d:D} {ks:List Key} (r:Rep K mg ρ H d v) (e:pK d=some ks):∃ b,v=.ref b∧H b=some (.tup (ks.map kV)):=by
 cases d with
 | tup ds=>
  unfold Rep at r
  obtain ⟨a,xs,rfl,sq,rs⟩:=r
  exact ⟨a,rfl,by rw [← vO rs e];exact sq⟩
 | _=>cases e
theorem vQ:∀ (ks:List Key),au K mg ρ H (ks.map vN) (ks.map kV)
 | []=>.nil
 | k::ks=>.cons (by cases k<;>(unfold Rep;rfl)) (vQ ks)
noncomputable def Gs (fz:Bool) (H:Hp) (a:Addr) (u:List (List Key×V)):Prop:=if fz=true then ∃ o,H a=some (.cV o (.dT u)) else H a=some (.dT u)
theorem Gs.rd {fz:Bool} (h:Gs fz H a u):Rd H a (.dT u):=by
 cases fz
 ·exact .inl h
 ·exact .inr h
theorem eS.fE {fz:Bool} (h:eS K mg H ρ G) (e:G[n]?=some (.fE fz kvs)):∃ a xs,ρ[n]?=some a∧Gs fz H a ((kvs.map (·.1)).zip xs)∧au K mg ρ H (kvs.map (·.2)) xs:=by
 obtain ⟨a,e1,xs,e2,r⟩:=h.ob n _ e
 exact ⟨a,xs,e1,e2,r⟩
theorem lX (hp:H p=some (.dT u)) (ρ:List Addr):cC K H (upd H p ob) ρ ρ:=by
 refine ⟨λa zs h=>?_,λa q w h=>by rw [az (dH h hp (by intro z;cases z))];exact h,⟨[],by simp⟩,λa φ h=>by rw [az (dH h hp (by intro z;cases z))];exact h⟩
 ·rw [rG] at h ⊢;rw [az (dH h hp (by intro z;cases z))];exact h
theorem eS.NI (h:eS K mg H ρ G) (hp:H p=none):eS K mg (upd H p (.dT [])) (ρ++[p]) (G++[.fE false []]):=by
 have f:cC K H (upd H p (.dT [])) ρ (ρ++[p]):=(cR hp ρ).trans (cS ρ p)
 refine ⟨by simp [h.hl],?_,λn ob e=>?_⟩
 ·rw [Y7]
  refine ⟨h.nd,by simp,λa ha b hb=>?_⟩
  have e:b=p:=by simpa using hb
  subst e
  rintro rfl
  exact h.not_mem hp ha
 ·by_cases hn:n<G.length
  ·rw [W7 hn] at e
   obtain ⟨a,e1,r'⟩:=h.ob n ob e
   exact ⟨a,f.get e1,r'.mono f λu q=>by rw [az (cy q hp)];exact q⟩
  ·have hl:n<(G++[DO.fE false []]).length:=(WS.mp e).1
   have hn':n=G.length:=by simp at hl;nofun
   subst hn'
   rw [aC] at e
   cases e
   exact ⟨p,by rw [← h.hl,aC],[],aM,.nil⟩
theorem eS.NJ {fz:Bool} {es:List (List Key×D)} {ys:List V} (h:eS K mg H ρ G) (hn:ρ[n]?=some a) (ha:H a=some (.dT u))
  (ho:Gs fz (upd H a ob) a ((es.map (·.1)).zip ys)) (r:au K mg ρ H (es.map (·.2)) ys) :
  eS K mg (upd H a ob) ρ (G.set n (.fE fz es)):=by
 have f:cC K H (upd H a ob) ρ ρ:=lX ha ρ
 refine ⟨by simp [h.hl],h.nd,λm o e=>?_⟩
 by_cases hm:n=m
 ·subst hm
  rw [XW,if_pos rfl] at e
  split at e
  ·cases e
   exact ⟨a,hn,ys,ho,r.mono f⟩
  ·cases e
 ·rw [XC hm] at e
  obtain ⟨b,e1,r'⟩:=h.ob m o e
  have hb:b≠a:=by
   rintro rfl
   obtain ⟨h1,xj⟩:=WS.mp hn
   obtain ⟨h2,yO⟩:=WS.mp e1
   exact hm ((Yh h.nd).mp (xj.trans yO.symm))
  exact ⟨b,e1,r'.mono f λu q=>by rw [az hb];exact q⟩
end
section
variable {X:Cx} {EE:cz} {e f o i a:Expr} {pos apos cpos tpos:Pos} {mo me mf mv mi:DS→M D}
noncomputable def x9:DS→M D:=λ_ G=>.ok (.obj G.length) (G++[.fE false []])
theorem C0:QE X EE (.Dict [] [] pos) x9:=PE.mono BR λσ H Q ⟨τ,ρ,G,ab,ok⟩=>λp hp=>by
 refine ok (.ref p) _ (ρ++[p]) ((cR hp ρ).trans (cS ρ p)) ⟨ab.st.mono ((cR hp ρ).trans (cS ρ p)),ab.hp.NI hp⟩ ?_
 unfold Rep
 exact ⟨p,rfl,by rw [← ab.hp.hl,aC]⟩
noncomputable def C1 (d k:D):M D:=λG=>match d,pK k with
 | .obj n,some y=>match G[n]? with
  | some (.fE _ kvs)=>match fJ kvs y with
   | some v=>.ok v G
   | none=>.stuck
  | _=>.stuck
 | _,_=>.stuck
noncomputable def vR (mo mi:DS→M D):DS→M D:=λτ=>(mo τ).bind λd=>(mi τ).bind λk=>C1 d k
theorem Gu (hu:X.A.units+600<cLine) (ho:QE X EE o mo) (hi:QE X EE i mi) (hs:EX i):QE X EE (.Subscript o i pos) (vR mo mi):=by
 refine PE.mono (EZ (by nofun) ho hi hs) λσ H Q zz=>?_
 obtain ⟨τ,ρ,G,ab,ok⟩:=zz
 refine ⟨τ,ρ,G,ab,?_⟩
 dsimp only [vR,M.bind] at ok
 cases e1:mo τ G with
 | stuck=>rw [e1] at ok;exact ok
 | bH c G'=>rw [e1] at ok;exact ok
 | ok d G1=>
  rw [e1] at ok
  dsimp only at ok
  intro vd H1 ρ1 f1 gn r1
  refine ⟨τ,ρ1,G1,gn,?_⟩
  cases e2:mi τ G1 with
  | stuck=>rw [e2] at ok;exact ok
  | bH c G'=>rw [e2] at ok;exact λH' ρ' f aZ=>ok H' ρ' (f1.trans f) aZ
  | ok k G2=>
   rw [e2] at ok
   dsimp only [C1] at ok
   intro vk H2 ρ2 f2 bV r2
   cases d with
   | obj n=>
    cases ek:pK k with
    | none=>rw [ek] at ok;exact ok.elim
    | some y=>
     rw [ek] at ok
     dsimp only at ok
     cases g:G2[n]? with
     | none=>rw [g] at ok;exact ok.elim
     | some ob=>
      cases ob with
      | fE fz kvs=>
       rw [g] at ok
       dsimp only at ok
       have r1':=r1.mono f2
       unfold Rep at r1'
       obtain ⟨p,rfl,ep⟩:=r1'
       obtain ⟨p',xs,uI,eH,rs⟩:=bV.hp.fE g
       rw [ep] at uI;cases uI
       obtain ⟨b,rfl,eb⟩:=vP r2 ek
       rcases pe y rs with ⟨z1,z2⟩ | ⟨dv,v,z1,z2,z3⟩
       ·rw [z1] at ok;exact ok.elim
       ·rw [z1] at ok
        exact ⟨p,v,rfl,.inr ⟨_,y,b,eH.rd,rfl,eb,z2.symm⟩,ok v H2 ρ2 (f1.trans f2) bV z3⟩
      | _=>rw [g] at ok;exact ok.elim
   | _=>exact ok.elim
noncomputable def vS (v d k:D):M D:=λG=>match d,pK k with
 | .obj n,some y=>match G[n]? with
  | some (.fE false kvs)=>if kvs.length<WO then .ok .eO (G.set n (.fE false (fT kvs y v))) else .stuck
  | _=>.stuck
 | _,_=>.stuck
theorem Gv {v d k:D} {vv vo vi:V} {S:Hp→Prop} (ab:Ab X.K X.mg σ H τ ρ G) (rv:Rep X.K X.mg ρ H v vv) (ro:Rep X.K X.mg ρ H d vo) (ri:Rep X.K X.mg ρ H k vi)
  (hn:vS v d k G≠.stuck)
  (ok:∀ r G' H',vS v d k G=.ok r G'→cC X.K H H' ρ ρ→Ab X.K X.mg σ H' τ ρ G'→S H'):∃ a H',vo=.ref a∧sY H a vi vv H'∧S H':=by
 unfold vS at hn ok
 cases d with
 | obj n=>
  cases ek:pK k with
  | none=>rw [ek] at hn;exact (hn rfl).elim
  | some y=>
   rw [ek] at ok hn
   dsimp only at ok hn
   cases g:G[n]? with
   | none=>rw [g] at hn;exact (hn rfl).elim
   | some ob=>
    cases ob with
    | fE fz kvs=>
     cases fz with
     | true=>rw [g] at hn;exact (hn rfl).elim
     | false=>
      rw [g] at ok hn
      dsimp only at ok hn
      unfold Rep at ro
      obtain ⟨p,rfl,ep⟩:=ro
      obtain ⟨p',xs,uI,hp,rs⟩:=ab.hp.fE g
      rw [ep] at uI;cases uI
      by_cases hl:kvs.length<WO
      ·rw [if_pos hl] at ok
       obtain ⟨b,rfl,eb⟩:=vP ri ek
       obtain ⟨ys,ey,ry⟩:=vD y rv rs
       refine ⟨p,_,rfl,sY.t hp eb ?_,?_⟩
       ·have:=rs.length
        simp at this
        simp [← this];exact hl
       ·rw [ey]
        exact ok _ _ _ rfl (lX hp ρ) ⟨ab.st.mono (lX hp ρ),ab.hp.NJ ep hp aM ry⟩
      ·rw [if_neg hl] at hn;exact (hn rfl).elim
    | _=>rw [g] at hn;exact (hn rfl).elim
 | _=>exact (hn rfl).elim
noncomputable def pL (mv mo mi:DS→M D):MS:=λτ=>bN ((mv τ).bind λv=>(mo τ).bind λo=>(mi τ).bind λi=>vS v o i) (λ_ G=>.nx τ G) λc G=>.xn c τ G
theorem C2 (hu:X.A.units+600<cLine) (hv:QE X EE a mv) (ho:QE X EE o mo) (hi:QE X EE i mi) (h:mK a=true:=by rfl):QS X EE (.Assign [.Subscript o i tpos] a pos) (pL mv mo mi):=
 PS.mono (yN (by nofun) ho hi hv (nU h _ _ _)) λDd σ H zz=>by
  obtain ⟨τ,ρ,G,ab,ok⟩:=zz
  refine ⟨τ,ρ,G,ab,?_⟩
  dsimp only [pL,bN,M.bind] at ok
  cases e1:mv τ G with
  | stuck=>rw [e1] at ok;exact ok
  | bH c G'=>rw [e1] at ok;exact λH' ρ' f aZ=>ok σ H' ρ' f aZ
  | ok v G1=>
   rw [e1] at ok
   intro vv H1 ρ1 f1 gn r1
   refine ⟨τ,ρ1,G1,gn,?_⟩
   dsimp only at ok
   cases e2:mo τ G1 with
   | stuck=>rw [e2] at ok;exact ok
   | bH c G'=>rw [e2] at ok;exact λH' ρ' f aZ=>ok σ H' ρ' (f1.trans f) aZ
   | ok ov G2=>
    rw [e2] at ok
    intro vo H2 ρ2 f2 bV r2
    refine ⟨τ,ρ2,G2,bV,?_⟩
    dsimp only at ok
    cases e3:mi τ G2 with
    | stuck=>rw [e3] at ok;exact ok
    | bH c G'=>rw [e3] at ok;exact λH' ρ' f aZ=>ok σ H' ρ' ((f1.trans f2).trans f) aZ
    | ok iv G3=>
     rw [e3] at ok
     intro vi H3 ρ3 f3 nS r3
     dsimp only at ok
     refine Gv nS (r1.mono (f2.trans f3)) (r2.mono f3) r3 (λq=>by rw [q] at ok;exact ok.elim) λr G' H' q f aZ=>?_
     rw [q] at ok
     exact ok σ H' ρ3 (((f1.trans f2).trans f3).trans f) aZ
end
section
variable {X:Cx} {EE:cz}
theorem C3 (I:Inv X pins σ H s) (e:H a=some (.dT u)) (hg:s.heap.get? a=some o):Inv X pins σ (upd H a (.cV o (.dT u))) s:=by
 refine I.un (H':=upd H a (.cV o (.dT u))) (h':=s.heap) (t':=s.toks) ⟨λb o q _ _ _=>q,λb o q _ _ _=>⟨o.slots,q⟩,λb o q hn _=>?_,λb o q _=>⟨o,q⟩,λb ys q=>?_,λb o u q=>?_,λb ps q=>⟨#[],?_⟩⟩ λb u' q=>?_
 ·rw [az (by rintro rfl;rw [e] at hn;cases hn)];exact hn
 ·rw [az (dH q e (by intro z;cases z))];exact q
 ·rw [az (dH q e (by intro z;cases z))];exact q
 ·rw [az (dH q e (by intro z;cases z)),q];simp
 ·have ho:∀ c y,H c=some (.own y)→upd H a (.cV o (.dT u)) c=some (.own y):=λc y w=>by rw [az (dH w e (by intro z;cases z))];exact w
  have ht:∀ c ys,H c=some (.tup ys)→upd H a (.cV o (.dT u)) c=some (.tup ys):=λc ys w=>by rw [az (dH w e (by intro z;cases z))];exact w
  by_cases hb:b=a
  ·subst hb
   rw [aM] at q;cases q
   exact ⟨hg,(I.hok b _ e).stay (λ_ _ _ w=>w) (λc w=>ho c b w) ht⟩
  ·rw [az hb] at q
   exact (I.hok b u' q).stay (λ_ _ _ w=>w) (λc w=>ho c b w) ht
end
theorem tR (I:Inv X pins σ H s) (e:H a=some (.cV o (.dT u))) :
  s.heap.get? a=some o∧(a==sysModules)=false∧o.ExactDict∧∃ es ep,o.data=.dict es ep∧es.size=u.length∧∀ (i:Nat) k v,u[i]?=some (k,v)→∃ en b,es[i]?=some en∧en.key=.ref b∧H b=some (.tup (k.map kV)):=by
 obtain ⟨h1,z,y,xs,r,o',es,ep,h2,h3,h4,h5,h6⟩:=(show dD X.prog X.w H s.heap a (.cV o (.dT u)) from I.hok a _ e)
 rw [h1] at h2;cases h2
 have hl:u.length=xs.length:=Z4 r
 refine ⟨h1,y,h3,es,ep,h4,?_,λi k v hi=>?_⟩
 ·have:=congrArg ZF h5
  simp at this;nofun
 ·have get:∀ {l:List (List Key×V)} {m:List (List Key×Addr×V0)},KT H l m→∀ (i:Nat) k v,l[i]?=some (k,v)→∃ q,m[i]?=some q∧H q.2.1=some (.tup (k.map kV)):=by
   intro l m q
   induction q with
   | nil=>intro i k v hi;simp at hi
   | @cons p q ps qs hq t ih=>
    intro i k v hi
    cases i with
    | zero=>simp at hi;subst hi;exact ⟨q,rfl,hq.2.1⟩
    | succ i=>exact ih i k v (by simpa using hi)
  obtain ⟨q,hq,hH⟩:=get r i k v hi
  refine ⟨entryOfKey (tupleKind (cM X.prog X.w)) q,q.2.1,?_,rfl,hH⟩
  have:es.toList[i]?=some (entryOfKey (tupleKind (cM X.prog X.w)) q):=by rw [h5,Xn,hq];rfl
  simpa using this
noncomputable def NK (o:Obj) (a:Addr) (u:List (List Key×V)):It:=
 ⟨λi H=>H a=some (.cV o (.dT u))∧i<u.length,λi H y H'=>H'=H∧∃ b k v,y=.ref b∧u[i]?=some (k,v)∧H b=some (.tup (k.map kV)),λi H=>H a=some (.cV o (.dT u))∧u.length≤i⟩
theorem ya (st:h.IsKeyIter it a i n ep) (k:∀ o,h.get? it=some o→h'.get? it=some o):h'.IsKeyIter it a i n ep:=by
 obtain ⟨o,e,r⟩:=st
 exact ⟨o,k o e,r⟩
theorem yb (o:Obj) (u:List (List Key×V)) (a it:Addr) (ep:Nat) (es:Array DictEntry) (hd:o.data=.dict es ep):Turn P w K tg (NK o a u) [it] it (λi h=>h.IsKeyIter it a i es.size ep) where
 mem:=by simp
 obj:=λi h st b hb=>by
  have e:b=it:=by simpa using hb
  subst e
  obtain ⟨o,e,c,d⟩:=st
  exact ⟨o,e,λv z=>by rw [d] at z;cases z⟩
 keep:=λi h h' st k=>ya st λo e=>k it (by simp) o e
 item:=by
  intro X hP hw hK hc i pins s σ H E I hf st hg
  subst hP hw hK
  obtain ⟨eH,hi⟩:=hg
  obtain ⟨h1,_,h2,es',uI,h3,h4,h5⟩:=tR I eH
  rw [hd] at h3;cases h3
  obtain ⟨en,b,g1,g2,g3⟩:=h5 i _ _ (by rw [W2 hi])
  obtain ⟨f0,f1,f2,f3,f4,f5⟩:=hf it (by simp)
  refine pJ st h1 h2 hd g1 λh' st' sb=>?_
  have I1:Inv X pins σ H {s with heap:=h'}:=I.turned (t':=s.toks) (λb o hb e=>(sb.2 b hb).trans e) f0 f1 f3 f4 f5
  obtain ⟨o,e,c,d⟩:=id st'
  exact ⟨_,rfl,oq (s:={s with heap:=h'}) e c d (by decide) ⟨.ref b,H,I1,g2,⟨rfl,b,_,_,rfl,W2 hi,g3⟩,st',λb hb=>(hf b hb).1⟩⟩
 done:=by
  intro X hP hw hK hc i pins s σ H E I hf st hg
  subst hP hw hK
  obtain ⟨eH,hi⟩:=hg
  obtain ⟨h1,_,h2,es',uI,h3,h4,h5⟩:=tR I eH
  rw [hd] at h3;cases h3
  obtain ⟨f0,f1,f2,f3,f4,f5⟩:=hf it (by simp)
  exact qO (I.ok.hd hc) st h1 h2 hd (by simp;nofun) λh' eb=>⟨rfl,I.turned (t':=s.toks) (λb o hb e=>eb b o hb e) f0 f1 f3 f4 f5⟩
 self:=λ_ _ _ _ _ st h=>wpAny_pyIter_keyiter st h
noncomputable def yc (kvs:List (List Key×D)):View:=λ_ i=>if i≤kvs.length then some ((kvs[i]?).map λkv=>.tup (kv.1.map vN)) else none
noncomputable def AJ (m:DS→M D):MI:=λτ=>(m τ).bind λd G=>match d with
 | .obj n=>match G[n]? with
  | some (.fE _ kvs)=>.ok (kvs.length+1,yc kvs) (G.set n (.fE true kvs))
  | _=>.stuck
 | _=>.stuck
theorem Gw (hl:kvs.length=xs.length) (e:H0 a=some (.cV o (.dT ((kvs.map (·.1)).zip xs)))):JV K mg (NK o a ((kvs.map (·.1)).zip xs)) (yc kvs) H0 ρ0:=by
 intro i H ρ G f hp
 have eH:=f.cV a _ _ e
 have hz:((kvs.map (·.1)).zip xs).length=kvs.length:=by simp [hl]
 unfold yc
 constructor
 ·intro q
  by_cases hi:i≤kvs.length
  ·rw [if_pos hi] at q
   cases g:kvs[i]? with
   | some kv=>rw [g] at q;cases q
   | none=>
    have:=XN.mp g
    exact ⟨eH,by nofun⟩
  ·rw [if_neg hi] at q;cases q
 ·intro d q
  by_cases hi:i≤kvs.length
  ·rw [if_pos hi] at q
   cases g:kvs[i]? with
   | none=>rw [g] at q;cases q
   | some kv=>
    rw [g] at q;cases q
    obtain ⟨hi',_⟩:=WS.mp g
    refine ⟨⟨eH,by nofun⟩,λy H' hy=>?_⟩
    obtain ⟨rfl,b,k,v,rfl,hk,hb⟩:=hy
    have e1:k=kv.1:=by
     rw [aas] at hk
     rw [Xn,g] at hk
     exact (XJ hk.1).symm
    subst e1
    refine ⟨⟨cC.refl,λG hG=>hG⟩,?_⟩
    unfold Rep
    exact ⟨b,_,rfl,hb,vQ kv.1⟩
  ·rw [if_neg hi] at q;cases q
section
variable {X:Cx} {EE:cz} {tg e:Expr} {m:DS→M D}
theorem Gx (ha:QE X EE e m):QI X EE tg e (AJ m):=by
 intro pins s σ H R I hq
 obtain ⟨τ,ρ,G,ab,ok⟩:=hq
 dsimp only [AJ,M.bind] at ok
 have hA:bJ X.K X.mg EE m σ H λv H1=>∃ ρ1 G1 d,Ab X.K X.mg σ H1 τ ρ1 G1∧cC X.K H H1 ρ ρ1∧Rep X.K X.mg ρ1 H1 d v∧m τ G=.ok d G1:=by
  refine ⟨τ,ρ,G,ab,?_⟩
  cases e:m τ G with
  | stuck=>rw [e] at ok;exact ok
  | bH c G'=>rw [e] at ok;exact ok
  | ok d G'=>exact λv H' ρ' f aZ r=>⟨ρ',G',d,aZ,f,r,rfl⟩
 refine cY (ha pins s σ H _ I hA) λu s1 nQ=>?_
 obtain ⟨v,H1,I1,ru,ρ1,G1,d,gn,f1,rd,em⟩:=nQ
 rw [em] at ok
 dsimp only at ok
 cases d with
 | obj n=>
  dsimp only at ok
  cases g:G1[n]? with
  | none=>rw [g] at ok;exact ok.elim
  | some ob=>
   cases ob with
   | fE fz kvs=>
    rw [g] at ok
    dsimp only at ok
    unfold Rep at rd
    obtain ⟨p,rfl,ep⟩:=rd
    cases ru
    obtain ⟨p',xs,uI,eH,rs⟩:=gn.hp.fE g
    rw [ep] at uI;cases uI
    have hl:kvs.length=xs.length:=by simpa using rs.length
    have fin:∀ (o:Obj) (H2:Hp),Inv X pins σ H2 s1→H2 p=some (.cV o (.dT ((kvs.map (·.1)).zip xs)))→cC X.K H1 H2 ρ1 ρ1→eS X.K X.mg H2 ρ1 (G1.set n (.fE true kvs)) →
      Xe (model X.prog X.w) X.A (pyIter (.ref p)) (Pp X pins σ tg R) X.xe s1:=by
     intro o H2 I2 e2 f2 hb2
     obtain ⟨h1,h0,h2,es,R8,h3,h4,h5⟩:=tR I2 e2
     refine AE h0 h1 h2 h3 ?_
     have I3:Inv X pins σ H2 {s1 with heap:=s1.heap.push {cls:=.type "dict_keyiterator",data:=.fields #[.ref p,.int 0 0,.int es.size 0,.int R8 0]}}:=I2.kept (t':=s1.toks) λc o q=>WQ _ q
     refine ⟨s1.heap.objs.size,_,_,_,H2,rfl,I3,yb o _ p _ R8 es h3,⟨_,W5 _ rfl,rfl,rfl⟩,λc hc=>?_,ok _ H2 ρ1 (f1.trans f2) ⟨gn.st.mono f2,hb2⟩ (Gw hl e2)⟩
     rw [Xj.mp hc]
     exact I2.nG (WZ _) (I2.hok.fresh (WZ _))
    cases fz with
    | false=>
     obtain ⟨o,hg⟩:∃ o,s1.heap.get? p=some o:=by
      obtain ⟨_,_,_,_,o,_,_,h,_⟩:=(show dD X.prog X.w H1 s1.heap p (.dT _) from I1.hok p _ eH)
      exact ⟨o,h⟩
     exact fin o _ (C3 I1 eH hg) aM (lX eH ρ1) (gn.hp.NJ ep eH ⟨o,aM⟩ rs)
    | true=>
     obtain ⟨o,eH⟩:=eH
     refine fin o _ I1 eH cC.refl ?_
     have:G1.set n (.fE true kvs)=G1:=by
      apply abR
      intro j
      by_cases hj:n=j
      ·subst hj
       rw [XW,if_pos rfl,if_pos (WS.mp g).1,g]
      ·rw [XC hj]
     rw [this];exact gn.hp
   | _=>rw [g] at ok;exact ok.elim
 | _=>exact ok.elim
end
section
open PyProof.Rows
section
variable {X:Cx} {EE:cz} {o i:Expr} {mo mi:DS→M D} {y:Str} {j1:Nat} {p1 lp sp apos cpos:Pos}
noncomputable def C4 (y:Str) (zs:List Str) (x:Str):D→M D
 | .int k=>if 0≤k∧k<1000 then (match zs[k.toNat]? with
  | some z=>if x.length+(x.length+1)*z.length≤16777216 then M.ret (.str (Txt.replace x y z)) else M.stop
  | none=>M.stop) else M.stop
 | _=>M.stop
noncomputable def La (y:Str) (zs:List Str) (m:M D):D→M D
 | .str x=>m.bind (C4 y zs x)
 | _=>M.stop
noncomputable def Lb (y:Str) (zs:List Str) (mo mi:DS→M D):DS→M D:=λτ=>(mo τ).bind (La y zs (mi τ))
end
end
theorem QL {i:Int}:aE (.int i) (.int j) G=.ok (.int (i+j)) G:=W6 rfl rfl
section
variable {τ:DS} {G:DH} {ma mb mo mi:DS→M D}
@[simp] theorem R9:MV ma mb τ G=(ma τ G).bd λd=>match d with
 | .bl false=>mb τ
 | .bl true=>M.ret (.bl true)
 | _=>M.stop:=ai
@[simp] theorem QM:B8 ma mb τ G=(ma τ G).bd λd=>match d with
 | .bl true=>mb τ
 | .bl false=>M.ret (.bl false)
 | _=>M.stop:=ai
@[simp] theorem NL {y:Str} {zs:List Str}:Lb y zs mo mi τ G=(mo τ G).bd (La y zs (mi τ)):=ai
@[simp] theorem QN {y x:Str} {zs:List Str} {m:M D}:La y zs m (.str x) G=(m G).bd (C4 y zs x):=ai
theorem yd {x:D} (h1:gO x=some os) (h2:tt (os.map some++mask ks τ) (G++[.lst acc])=.ok false (G++[.lst acc])) :
  dh gO ks tt te G.length x τ (G++[.lst acc])=.ok () (G++[.lst acc]):=by
 simp only [dh,h1,h2]
theorem vU {x v:D} (h1:gO x=some os) (h2:tt (os.map some++mask ks τ) (G++[.lst acc])=.ok true (G++[.lst acc])) (h3:te (os.map some++mask ks τ) (G++[.lst acc])=.ok v (G++[.lst acc])) (hz:acc.length<WO) :
  dh gO ks tt te G.length x τ (G++[.lst acc])=.ok () (G++[.lst (acc++[v])]):=by
 simp only [dh,h1,h2,h3,oY,if_pos hz,vm]
theorem gE {gO:D→Option (List D)} {ks:List Bool} {tt:DS→M Bool} {te:DS→M D} {α:Type} {own:α→List D} {dat f:α→D} {c:α→Bool}:∀ (as:List α) (acc:List D),acc.length+as.length≤1000000→(∀ x∈as,gO (dat x)=some (own x)) →
  (∀ x∈as,∀ acc,tt ((own x).map some++mask ks τ) (G++[.lst acc])=.ok (c x) (G++[.lst acc]))→(∀ x∈as,∀ acc,te ((own x).map some++mask ks τ) (G++[.lst acc])=.ok (f x) (G++[.lst acc])) →
  bU gO ks tt te G.length (as.map dat) τ (G++[.lst acc])=.ok (.obj G.length) (G++[.lst (acc++(as.filter c).map f)])
 | [],acc,_,_,_,_=>by simp [bU]
 | x::as,acc,hl,h1,h2,h3=>by
  have hz:acc.length<WO:=W0 (by simp at hl;nofun) (lz (n:=1000001) (by nofun))
  rw [WU,bU]
  have hp:=h2 x (by simp) acc
  cases hc:c x with
  | false=>
   rw [hc] at hp
   rw [yd (h1 x (by simp)) hp]
   dsimp only
   rw [gE as acc (by simp at hl;nofun) (λq hq=>h1 q (by simp [hq])) (λq hq=>h2 q (by simp [hq])) (λq hq=>h3 q (by simp [hq])),Ze (by rw [hc];decide)]
  | true=>
   rw [hc] at hp
   rw [vU (h1 x (by simp)) hp (h3 x (by simp) acc) hz]
   dsimp only
   rw [gE as (acc++[f x]) (by simp at hl ⊢;nofun) (λq hq=>h1 q (by simp [hq])) (λq hq=>h2 q (by simp [hq])) (λq hq=>h3 q (by simp [hq])),ZJ hc]
   simp
end
section
open PyProof.Rows
end
section
variable {τ:DS} {G:DH} {e:DS→M D} {ml:DS→M (List D)} {d:D}
end
section
variable {X:Cx} {EE:cz}
theorem au.eraseIdx:∀ (n:Nat) {ds:List D} {vs:List V},au K mg ρ H ds vs→au K mg ρ H (ds.eraseIdx n) (vs.eraseIdx n)
 | _,[],vs,h=>by unfold au at h;subst h;exact .nil
 | 0,d::ds,vs,h=>by
  unfold au at h
  obtain ⟨v,r,rfl,h1,h2⟩:=h
  exact h2
 | n+1,d::ds,vs,h=>by
  unfold au at h
  obtain ⟨v,r,rfl,h1,h2⟩:=h
  exact .cons h1 (au.eraseIdx n h2)
end
structure jM (N ps names:List Str) (sc:Scope):Prop where
 kind:sc.kind=.function
 co:sc.isCoroutine=false
 gen:sc.isGenerator=false
 nd:N.Nodup
 pre:N.take (ps.length+names.length)=ps++names
 par:∀ x∈ps,sc.names.lookup x=some .local
 fr:∀ x∈names,sc.names.lookup x=some .free
 mG:∀ y∈sc.names,y.2≠.cell
 frs:∀ y∈sc.names,y.2=.free→y.1∈names
noncomputable abbrev tS (k:gy) (cs:List Addr) (L a c:Addr):Env:=PySem.W.envX k.qual k.scope L a (.ref c) (k.names.zip cs)
noncomputable def Gy (CX:nN) (P:Xx) (w:XR) (K:WV) (mg:Str→Option V0) (base:Heap) (N:List Str) (k:gy) (cs:List Addr) (a c:Addr) (A:Around) (outer:List Env) (s:WT) (H:Hp) (E:XK):Cx where
 prog:=P
 w:=w
 K:=K
 mg:=mg
 base:=base
 A:=A.deeper (tS k cs s.heap.objs.size a c)
 N:=N
 s₀:=s
 H₀:=H
 env:=tS k cs s.heap.objs.size a c
 outer:=outer
 stack:=tS k cs s.heap.objs.size a c::outer
 ex:=[]
 fn:=λ_=>false
 calm:=true
 pn:=[]
 xe:=λe s'=>Xe (model P w) (A.deeper (tS k cs s.heap.objs.size a c)) (leaving (tS k cs s.heap.objs.size a c) e) (λ_ s''=>CX outer H s E e s'') (λe' s''=>CX outer H s E e' s'') s'
theorem je:∀ {ns:List Str} {cs:List Addr} {y:Str} {c:Addr},(ns.zip cs).lookup y=some c→∃ i:Nat,ns[i]?=some y∧cs[i]?=some c
 | [],cs,y,c,h=>by simp at h
 | n::ns,[],y,c,h=>by simp at h
 | n::ns,d::cs,y,c,h=>by
  rw [YN,XS] at h
  cases e:(y==n) with
  | true=>
   rw [e] at h
   cases h
   exact ⟨0,by rw [beq_iff_eq.mp e];rfl,rfl⟩
  | false=>
   rw [e] at h
   obtain ⟨i,h1,h2⟩:=je h
   exact ⟨i+1,by simpa using h1,by simpa using h2⟩
theorem kR:∀ {ns:List Str} {cs:List Addr} {y:Str} {c:Addr} {i:Nat},ns.Nodup→ns[i]?=some y→cs[i]?=some c→(ns.zip cs).lookup y=some c
 | [],cs,y,c,i,_,h,_=>by simp at h
 | n::ns,[],y,c,i,_,_,h=>by simp at h
 | n::ns,d::cs,y,c,0,_,h,h2=>by
  simp at h h2
  subst h h2
  simp
 | n::ns,d::cs,y,c,i+1,nd,h,h2=>by
  have h':ns[i]?=some y:=by simpa using h
  have ne:(y==n)=false:=beq_eq_false_iff_ne.mpr λz=>(Yz.mp nd).1 (z▸XE h')
  rw [YN,XS,ne]
  exact kR (Yz.mp nd).2 h' (by simpa using h2)
theorem c9.get:∀ {cs:List Addr} {xs:List V} {i:Nat} {c:Addr},c9 H cs xs→cs[i]?=some c→∃ x o u,xs[i]?=some x∧uX H c o∧o.data=.cell (some u)∧RelV x u
 | [],xs,i,c,_,h=>by simp at h
 | d::cs,xs,0,c,⟨x,r,o,u,e,h1,h2,h3,_⟩,h=>by
  simp at h
  subst h e
  exact ⟨x,o,u,rfl,h1,h2,h3⟩
 | d::cs,xs,i+1,c,⟨x,r,o,u,e,_,_,_,h4⟩,h=>by
  subst e
  obtain ⟨x',o',u',g⟩:=c9.get h4 (i:=i) (by simpa using h)
  exact ⟨x',o',u',by simpa using g⟩
theorem c9.len:∀ {cs:List Addr} {xs:List V},c9 H cs xs→xs.length=cs.length
 | [],xs,h=>by rw [show xs=[] from h];rfl
 | d::cs,xs,⟨x,r,o,u,e,_,_,_,h4⟩=>by rw [e,WR,WR,h4.len]
theorem tT:∀ {ps:List Str} {us:List V0} {y:Str} {u:V0} {i:Nat},ps.Nodup→ps[i]?=some y→us[i]?=some u→(ps.zip us).reverse.lookup y=some u:=by
 intro ps us y u i nd h1 h2
 have key:∀ {ps:List Str} {us:List V0} {i:Nat} (r:List (Str×V0)),ps.Nodup→ps[i]?=some y→us[i]?=some u→((ps.zip us).reverse++r).lookup y=some u:=by
  intro ps
  induction ps with
  | nil=>intro us i r _ h;simp at h
  | cons p ps ih=>
   intro us i r nd h1 h2
   cases us with
   | nil=>simp at h2
   | cons w us=>
    rw [YN,XU,Yk]
    cases i with
    | zero=>
     simp at h1 h2
     subst h1 h2
     have none:∀ (q:List (Str×V0)) (r:List (Str×V0)),(∀ z∈q,z.1≠p)→(q++r).lookup p=r.lookup p:=by
      intro q
      induction q with
      | nil=>intro r _;rfl
      | cons z q Ut=>
       intro r hz
       rw [XT,XS,beq_eq_false_iff_ne.mpr (YE (hz z (by simp)))]
       exact Ut r λz' h'=>hz z' (by simp [h'])
     rw [none _ _ (λz hz=>by
      have:=(YW (List.mem_reverse.mp hz)).1
      intro e
      exact (Yz.mp nd).1 (e▸this))]
     simp
    | succ i=>exact ih ([(p,w)]++r) (Yz.mp nd).2 (by simpa using h1) (by simpa using h2)
 have:=key (ps:=ps) (us:=us) (i:=i) [] nd h1 h2
 rwa [Xv] at this
theorem za {CX:nN} {P:Xx} {w:XR} {K:WV} {mg:Str→Option V0} {base h1:Heap} {N ps:List Str} {k:gy} {cs:List Addr} {a c:Addr} {A:Around} {outer:List Env} {s:WT} {H:Hp} {E:XK} {us:List V0} {vs xs:List V}
  (S:jM N ps k.names k.scope) (hd:A.handled=none) (e0:mC P w K mg base A outer s H) (hl:vs.length=ps.length) (r:Vals vs us) (hcl:cs.length=k.names.length) (hnd:cs.Nodup) (hc:c9 H cs xs)
  (hns:h1.Ns s.heap.objs.size λy=>(ps.zip us).reverse.lookup y) (hk:∀ b o,s.heap.get? b=some o→h1.get? b=some o) {n:Nat} (ht:0<n) :
  Inv (Gy CX P w K mg base N k cs a c A outer s H E) [] (start N (vs++xs)) H {s with heap:=h1,toks:=n}:=by
 have NN:(ps++k.names).Nodup:=by rw [← S.pre];exact S.nd.sublist (abJ _ _)
 have OD:ps.Nodup:=(Y7.mp NN).1
 have Sa:k.names.Nodup:=(Y7.mp NN).2.1
 have Sb:xs.length=k.names.length:=by rw [hc.len,hcl]
 have hpl:ps.length+k.names.length≤N.length:=by have:=congrArg ZF S.pre;rw [Zt,W9] at this;nofun
 have cellAt:∀ y d,(k.names.zip cs).lookup y=some d→∃ i x o u,k.names[i]?=some y∧xs[i]?=some x∧uX H d o∧o.data=.cell (some u)∧RelV x u∧s.heap.get? d=some o:=λy d e=>by
  obtain ⟨i,h1,h2⟩:=je e
  obtain ⟨x,o,u,g1,g2,g3,g4⟩:=hc.get h2
  exact ⟨i,x,o,u,h1,g1,g2,g3,g4,(e0.hok d _ g2).1⟩
 have EL:∀ b:Addr,b∉(Gy CX P w K mg base N k cs a c A outer s H E).ex:=λb z=>absurd (show b∈([]:List Addr) from z) (by simp)
 refine ⟨⟨e0.mod,S.kind,rfl,rfl,WZ _,λy z d h1 h2=>?_,λy hy=>?_,λy d h _=>absurd (show false=true from h) XF,λ_=>hd,abi e0.frames,.inr ⟨rfl,rfl⟩,λb z=>absurd z (EL b),e0.bs,e0.Em,λb _ _=>EL b,λb z=>absurd z (EL b),e0.lg,e0.Ey⟩,
  ⟨rfl,ht⟩,e0.bare,Un.kept hk,⟨_,hns,λi y v h1 h2 h3=>?_⟩,λy d h=>?_,e0.hok.fresh (WZ _),λy d h=>?_,λp hp=>absurd (show p∈([]:List (Addr×Obj)) from hp) (by simp),e0.hok.kept hk,?_⟩
 ·obtain ⟨i,a1,a2⟩:=je h1
  obtain ⟨j,b1,b2⟩:=je h2
  have ij:i=j:=by
   obtain ⟨l1,e1⟩:=WS.mp a2
   obtain ⟨l2,e2⟩:=WS.mp b2
   exact (Yh hnd).mp (e1.trans e2.symm)
  subst ij
  rw [a1] at b1
  exact XJ b1
 ·have hy:k.scope.names.lookup y=some .cell∨k.scope.names.lookup y=some .free:=hy
  rcases hy with hy | hy
  ·exact absurd rfl (S.mG _ (Yn hy))
  ·have hm:=S.frs _ (Yn hy) rfl
   obtain ⟨i,hi,e⟩:=Yo hm
   have e':k.names[i]?=some y:=by rw [W2 hi,e]
   exact ⟨_,kR Sa e' (W2 (by nofun))⟩
 ·have hi:i<(vs++xs).length:=by
   unfold L2.start at h2
   by_cases hi:i<(vs++xs).length
   ·exact hi
   ·rw [Xm (by simpa using hi)] at h2
    rw [Zc] at h2
    split at h2<;>cases h2
  have ha:(vs++xs)[i]?=some v:=by
   unfold L2.start at h2
   rw [W7 (by simpa using hi),Xn] at h2
   cases e:(vs++xs)[i]? with
   | none=>rw [e] at h2;cases h2
   | some a=>rw [e] at h2;cases h2;rfl
  rw [W9] at hi
  have hy:(ps++k.names)[i]?=some y:=by
   rw [← S.pre,aaz (by nofun)];exact h1
  by_cases hiv:i<vs.length
  ·rw [W7 hiv] at ha
   rw [W7 (by nofun)] at hy
   obtain ⟨u,hu,rv⟩:=r.get ha
   exact ⟨u,rv,.inl ⟨S.par y (XE hy),tT OD hy hu⟩⟩
  ·rw [Xm (by nofun)] at ha hy
   rw [hl] at ha
   have hic:i - ps.length<cs.length:=by nofun
   have ec:=W2 hic
   obtain ⟨x,o,u,g1,g2,g3,g4⟩:=hc.get ec
   rw [g1] at ha
   cases ha
   refine ⟨u,g4,.inr ⟨.inr (S.fr y (XE hy)),_,kR Sa hy ec,o,hk _ _ (e0.hok _ _ g2).1,g3⟩⟩
 ·obtain ⟨i,x,o,u,_,_,_,g3,_,g5⟩:=cellAt y d h
  exact ⟨_,o,hk _ _ g5,g3⟩
 ·obtain ⟨i,x,o,u,_,_,g2,_⟩:=cellAt y d h
  exact .inr ⟨rfl,o,_,g2⟩
 ·unfold L2.start
  show _=N.length
  rw [W9,W8,ZT,W9]
  nofun
noncomputable def zb (P:Xx) (w:XR) (K:WV) (mg:Str→Option V0) (base:Heap) (CX:nN) (k:Nat) (c:gy) (n:Nat) (m:List D→M D):Prop:=
 ∀ (A:Around) (outer:List Env) (s:WT) (H:Hp) (us:List V0) (vs xs:List V) (Q:VK) (E:XK) (a:Addr) (cs:List Addr),cZ k A→mC P w K mg base A outer s H→0<s.toks→ni H c a cs→c9 H cs xs→Vals vs us→us.length=n →
  gC K mg (n+c.names.length) m (vs++xs) H Q E→codeAny (model P w) A (.call (.ref a) ⟨us,[]⟩) (CR CX outer P w H s Q E) s
noncomputable def iU (r:Out D):Out D:=match r with
 | .bH _ _=>.stuck
 | r=>r
noncomputable def AK (n:Nat) (m:DS→M D) (ds:List D):M D:=m (ds.map some++Xi (n - ds.length) none)
theorem Gz {P:Xx} {w:XR} {K:WV} {mg:Str→Option V0} {base:Heap} {c:gy} {k:Nat} {m:List D→M D} (S:jM N ps c.names c.scope) (hps:ps.length=n) (hN:N.length=nn) (hm:∀ ds G,m ds G=iU (AK nn me ds G))
  (hbind:∀ (doc pm ctv:V0) (c':Addr) (cs:List Addr) (us:List V0) (s:WT),us.length=ps.length→bindArgs (uW c cs doc pm c' ctv) ⟨us,[]⟩=pure (ps.zip us)) {bd:Expr} (hbd:c.body=.expr bd)
  (hbody:∀ (X:Cx) (EE:cz) (cs:List Addr) (a c':Addr) (A:Around) (outer:List Env) (s:WT) (H:Hp) (E:XK),X=Gy (nj P w) P w K mg base N c cs a c' A outer s H E→cZ k (A.deeper (tS c cs s.heap.objs.size a c')) →
   fM X EE→PassesOwn (model P w) X.A X.env X.xe→QE X EE bd me) :
  zb P w K mg base (nj P w) (k+1) c n m:=by
 intro A outer s H us vs xs Q E a cs hr e0 htk hca hce r Lc yI
 obtain ⟨hcl,hnd,doc,pm,ctv,c',fo,oc,ws,t,fc,hd,hv⟩:=hca
 subst hps hN
 obtain ⟨ds,ρ,G,hn,hp,rs,ok⟩:=yI
 have hvl:vs.length=ps.length:=by rw [r.length];exact Lc
 have ho:=(e0.hok a _ fo).1
 have hoc:=(e0.hok c' _ fc).1
 have lim:s.heap.NoLimit:=e0.mod.nolimit.keeps λb o e=>(e0.bs b o e).1
 refine PySem.W.kla_callFunE (fd:=uW c cs doc pm c' ctv) hr.depth ho rfl S.co S.gen hbd ⟨c',oc,ws,t,rfl,hoc,hd,hv⟩ ?_
 rw [hbind doc pm ctv c' cs us s Lc]
 refine WY (abl S.mG (λy hy=>S.par y.1 (YW hy).1) (λh1 hns Sd=>⟨lim.fresh _ Sd,?_⟩) S.kind)
 have hk1:∀ b o,s.heap.get? b=some o→h1.get? b=some o:=λb o e=>Sd.extBut b o (Xa (W3 e)) (WQ _ e)
 have I:Inv (Gy (nj P w) P w K mg base N c cs a c' A outer s H E) [] (L2.start N (vs++xs)) H {s with heap:=h1,toks:=s.toks+(ps.zip us).length}:=za S hr.hd e0 hvl r hcl hnd hce hns hk1 (W0 htk (Nat.le_add_right _ _))
 have hB:=hbody _ (λ_ _ _=>False) cs a c' A outer s H E rfl (hr.deeper _) (λ_ _ _ _ _ _ _ _ _ _ z=>z.elim) ZQ
 have hq:bJ K mg (λ_ _ _=>False) me (L2.start N (vs++xs)) H Q:=by
  refine ⟨ds.map some++Xi (N.length - ds.length) none,ρ,G,⟨i9 rs,hp⟩,?_⟩
  rw [hm] at ok
  unfold AK at ok
  cases q:me (ds.map some++Xi (N.length - ds.length) none) G with
  | stuck=>rw [q] at ok;exact ok
  | ok d G'=>rw [q] at ok;exact λv H' ρ' f ab r=>ok v H' ρ' f ab.hp r
  | bH c G'=>rw [q] at ok;exact ok.elim
 show codeAny _ _ (.expr bd (tS c cs s.heap.objs.size a c')) _ _
 refine PySem.W.kla_codeExpr (XH (hB [] _ (L2.start N (vs++xs)) H Q I hq) (λu s' hs=>?_) λe s' hs=>hs)
 obtain ⟨v,H',J,rv,q⟩:=hs
 exact ⟨v,H',J.os,J.bare,J.base,J.hok,rv,q⟩
noncomputable def tU (i n:Nat) (Ig:Str→Option (Nat×(List D→M D))) (τ:DS) (ds:List D):M D:=match τ[i]? with
 | some (some (.ig y caps))=>match Ig y with
  | some (c,mf)=>if ds.length=n∧caps.length=c then mf (ds++caps) else M.stop
  | none=>M.stop
 | _=>M.stop
noncomputable def kT (i n:Nat) (Ig:Str→Option (Nat×(List D→M D))) (m:DS→M (List D)):DS→M D:=λτ G=>match τ[i]? with
 | some (some (.ig _ _))=>((m τ).bind (tU i n Ig τ)) G
 | _=>.stuck
section
variable {X:Cx} {CX:nN} {EE:cz} {k n:Nat} {x:Str} {p pos:Pos} {e:Expr} {es:List Expr} {m:DS→M (List D)}
theorem C5 {pins:List (Addr×Obj)} {σ:L2.St} {H:Hp} {s:WT} {Q:VK} {us:List V0} {vs xs:List V} {τ:DS} {ρ:List Addr} {G:DH} {ds caps:List D} {a:Addr} {cs:List Addr} (F:zb X.prog X.w X.K X.mg X.base CX k zc n mf) (hr:cZ k X.A)
  (hx:HU CX X EE) (I:Inv X pins σ H s) (r:Vals vs us) (ab:Ab X.K X.mg σ H τ ρ G) (rs:au X.K X.mg ρ H ds vs) (hn:ds.length=n) (hca:ni H zc a cs) (hce:c9 H cs xs) (rc:au X.K X.mg ρ H caps xs) (ok:iM X.K X.mg EE H σ τ ρ (mf (ds++caps) G) Q):Xe (model X.prog X.w) X.A (call (.ref a) us) (EP X pins σ Q) X.xe s:=by
 have h:gC X.K X.mg (n+zc.names.length) mf (vs++xs) H Q (M0 X.mg EE σ):=by
  refine ⟨ds++caps,ρ,G,?_,ab.hp,rs.append rc,?_⟩
  ·rw [W9,hn,rc.length,hce.len,hca.1]
  cases q:mf (ds++caps) G with
  | stuck=>rw [q] at ok;exact ok
  | ok d G'=>rw [q] at ok;exact λv H' ρ' f hp r=>ok v H' ρ' f (eS.ab ab f hp) r
  | bH c G'=>rw [q] at ok;exact λcls H' ρ' hc f hp=>⟨c,hc,ok H' ρ' f (eS.ab ab f hp)⟩
 refine wpAny_call (codeAny_mono (F X.A X.stack s H us vs xs Q (M0 X.mg EE σ) a cs hr I.gf I.os.2 hca hce r (by rw [← r.length,← rs.length,hn]) h) λr s' hq=>?_)
 cases r with
 | error e=>exact hx pins σ H s e s' I hq
 | ok fl=>
  cases fl with
  | ret u=>exact I.after hq
  | next=>exact X3 hq
  | brk=>exact X3 hq
  | cont=>exact X3 hq
theorem ni.fn {cs:List Addr} (hok:iY P w H h) (hc:ni H zc a cs):PySem.W.FnAt a h:=by
 obtain ⟨_,_,doc,pm,ctv,c,fo,_⟩:=hc
 exact ⟨_,_,_,_,(hok a _ fo).1⟩
theorem C6 {Ig:Str→Option (Nat×(List D→M D))} (hN:X.N[i]?=some x) (hv:Bx X.env.scope x) (hd:(x==("__debug__":Str))=false∧(x==("__classdict__":Str))=false)
  (hC:∀ y c mf,Ig y=some (c,mf)→∃ k zc,nh X.K X.mg y=some zc∧zb X.prog X.w X.K X.mg X.base CX k zc n mf∧cZ k X.A) (hx:HU CX X EE)
  (ha:QA X EE (e::es) m) (h:aq (e::es)=true:=by rfl):QE X EE (.Call (.Name x p) (e::es) [] pos) (kT i n Ig m):=by
 have h':bg e=true∧aq es=true:=by simpa [aq] using h
 intro pins s σ H Q I hq
 obtain ⟨τ,ρ,G,ab,ok⟩:=hq
 unfold kT at ok
 cases q:τ[i]? with
 | none=>rw [q] at ok;exact ok.elim
 | some od=>
  cases od with
  | none=>rw [q] at ok;exact ok.elim
  | some d=>
   rw [q] at ok
   cases d<;>try exact ok.elim
   rename_i y caps
   dsimp only at ok
   obtain ⟨v,ev,rv⟩:=ab.st.2 i (.ig y caps) q
   unfold Rep at rv
   obtain ⟨zc,a,cs,xs,rfl,hk,hca,hce,rc⟩:=rv
   obtain ⟨τ1,ρ1,G1,gn,Bt⟩:=i7 (m:=m) (k:=tU i n Ig) ⟨τ,ρ,G,ab,ok⟩
   refine Xw (XH (xr hN hv hd.1 hd.2 pins s σ H (λv' H'=>v'=.ref a∧H'=H) I ⟨_,ev,rfl,rfl⟩) (λu s0 hu=>?_) λ_ _ z=>z)
   obtain ⟨v',H',I0,r0,rfl,rfl⟩:=hu
   cases r0
   refine PySem.W.callWith_F (hca.fn I0.hok) (cY (ha pos pins s0 σ H' _ I0 ⟨τ1,ρ1,G1,gn,Bt⟩) λus s1 zz=>?_) (aO h'.1 _ _) (aY h'.2)
   obtain ⟨vs,H1,I1,r,q⟩:=zz
   obtain ⟨τ2,ρ2,G2,ds,bV,rs,aK⟩:=q
   unfold tU at aK
   cases q2:τ2[i]? with
   | none=>rw [q2] at aK;exact aK.elim
   | some od=>
    cases od with
    | none=>rw [q2] at aK;exact aK.elim
    | some d=>
     rw [q2] at aK
     cases d<;>try exact aK.elim
     rename_i y2 Ih
     dsimp only at aK
     obtain ⟨v2,OT,Gp⟩:=bV.st.2 i (.ig y2 Ih) q2
     unfold Rep at Gp
     obtain ⟨Uu,a2,V6,V7,rfl,hk2,NO,QU,Uv⟩:=Gp
     rw [ev] at OT
     cases OT
     refine ⟨NO.fn I1.hok,?_⟩
     cases qt:Ig y2 with
     | none=>rw [qt] at aK;exact aK.elim
     | some z=>
      obtain ⟨c,mf⟩:=z
      rw [qt] at aK
      dsimp only at aK
      obtain ⟨k,Uw,e3,F,hr⟩:=hC y2 c mf qt
      rw [hk2] at e3
      cases e3
      by_cases hn:ds.length=n∧Ih.length=c
      ·rw [if_pos hn] at aK
       exact C5 F hr hx I1 r bV rs hn.1 NO QU Uv aK
      ·rw [if_neg hn] at aK
       exact aK.elim
end
noncomputable def Cx.held (X:Cx) (ns:List Str):Cx:={X with fn:=λx=>X.fn x&&!(ns.contains x)}
structure Ld (X:Cx) (H':Hp) (s':WT):Prop where
 os:s'.os=X.s₀.os∧0<s'.toks
 bare:Zr s'.gens
 base:Un X.fs X.ex X.H₀ H' X.s₀.heap s'.heap
 hok:iY X.prog X.w H' s'.heap
noncomputable def Ux (X:Cx) (D:Ends) (fl:Flow) (s':WT):Prop:=match fl with
 | .ret u=>∃ v H',Ld X H' s'∧RelV v u∧D.rt v H'
 | .next=>∃ σ' H',Ld X H' s'∧D.nx σ' H'
 | .brk=>∃ σ' H',D.bk σ' H'
 | .cont=>∃ σ' H',D.ct σ' H'
noncomputable def C7 (X:Cx) (EE:cz) (st:List Stmt) (m:MS):Prop:=∀ (pins:List (Addr×Obj)) (s:WT) (σ:L2.St) (H:Hp) (D:Ends),Inv X pins σ H s→gg X.K X.mg EE m D σ H→Xe (model X.prog X.w) X.A (execs st X.env) (Ux X D) X.xe s
section
variable {X:Cx} {EE:cz} {pins:List (Addr×Obj)} {σ:L2.St} {H:Hp} {s:WT} {st:Stmt} {rest:List Stmt} {ms mt:MS}
noncomputable def kG (y:Str):DO→Bool
 | .tab z=>z==y
 | _=>false
theorem zd {K:WV} {mg:Str→Option V0} {ρ:List Addr} {τ:DS} (h:oG K mg H ρ σ τ):∀ (js:List Nat) (caps:List D),js.mapM (λj=>(τ[j]?).join)=some caps→∃ xs,au K mg ρ H caps xs∧xs.length=js.length∧∀ (l j:Nat),js[l]?=some j→∃ x:V,xs[l]?=some x∧σ[j]?=some (some x)
 | [],caps,e=>by
  simp at e
  subst e
  exact ⟨[],.nil,rfl,λl j h=>by simp at h⟩
 | j::js,caps,e=>by
  rw [List.mapM_cons] at e
  cases q:(τ[j]?).join with
  | none=>rw [q] at e;cases e
  | some d=>
   rw [q] at e
   cases q2:js.mapM (λj=>(τ[j]?).join) with
   | none=>rw [q2] at e;cases e
   | some ds=>
    rw [q2] at e
    cases e
    obtain ⟨xs,r,hl,hx⟩:=zd h js ds q2
    have qj:τ[j]?=some (some d):=by
     cases z:τ[j]? with
     | none=>rw [z] at q;cases q
     | some o=>rw [z] at q;cases q;rfl
    obtain ⟨v,e1,rv⟩:=h.2 j d qj
    refine ⟨v::xs,.cons rv r,by simp [hl],λl j' hj=>?_⟩
    cases l with
    | zero=>
     simp at hj
     subst hj
     exact ⟨v,rfl,e1⟩
    | succ l=>exact hx l j' (by simpa using hj)
theorem pM {H:Hp}:∀ {cs:List Addr} {xs:List V},xs.length=cs.length→(∀ (l:Nat) (c:Addr) (x:V),cs[l]?=some c→xs[l]?=some x→∃ (o:Obj) (u:V0),uX H c o∧o.data=.cell (some u)∧RelV x u)→c9 H cs xs
 | [],[],_,_=>rfl
 | [],x::xs,h,_=>by simp at h
 | c::cs,[],h,_=>by simp at h
 | c::cs,x::xs,h,k=>by
  obtain ⟨o,u,h1,h2,h3⟩:=k 0 c x rfl rfl
  exact ⟨x,xs,o,u,rfl,h1,h2,h3,pM (by simpa using h) λl c' x' e1 e2=>k (l+1) c' x' (by simpa using e1) (by simpa using e2)⟩
noncomputable def gu (H:Hp) (h:Heap) (cs:List Addr):Hp:=λb=>if b∈cs then (h.get? b).map λo=>.cV o (.own 0) else H b
theorem fD {cs:List Addr} {b:Addr} (e:b∉cs):gu H h cs b=H b:=if_neg e
theorem mS {cs:List Addr} {b:Addr} (e:b∈cs) (q:h.get? b=some o):uX (gu H h cs) b o:=by
 unfold uX gu
 rw [if_pos e,q];rfl
theorem C8 {cs:List Addr} (I:Inv X pins σ H s) (hfn:∀ x,X.fn x=true) (hlen:cs.length=ns.length) (hcs:∀ (l:Nat) (y:Str),ns[l]?=some y→∃ c,cs[l]?=some c∧X.env.cells.lookup y=some c):Inv (Cx.held X ns) pins σ (gu H s.heap cs) s:=by
 have name:∀ c∈cs,∃ y∈ns,X.env.cells.lookup y=some c:=λc hc=>by
  obtain ⟨l,hl,e⟩:=Yo hc
  have hl2:l<ns.length:=by nofun
  obtain ⟨c',e1,e2⟩:=hcs l ns[l] (W2 hl2)
  rw [W2 hl,e] at e1
  cases e1
  exact ⟨ns[l],aaL hl2,e2⟩
 have hnone:∀ c∈cs,H c=none:=λc hc=>by
  obtain ⟨y,_,e⟩:=name c hc
  exact (I.jt y c e).resolve_right λz=>by rw [hfn] at z;cases z.1
 have out:∀ {b:Addr} {u:HO},H b=some u→gu H s.heap cs b=some u:=λ{b u} e=>by
  rw [fD (λhb=>by rw [hnone b hb] at e;cases e)];exact e
 have obj:∀ c∈cs,∃ o v,s.heap.get? c=some o∧o.data=.cell v:=λc hc=>by
  obtain ⟨y,_,e⟩:=name c hc
  obtain ⟨v,o,h1,h2⟩:=I.cell y c e
  exact ⟨o,v,h1,h2⟩
 refine ⟨⟨I.ok.mod,I.ok.kind,I.ok.glob,I.ok.blt,I.ok.above,I.ok.inj,I.ok.has,λx c h e=>I.ok.L8 x c (hfn x) e,I.ok.hd,I.ok.frames,I.ok.stk,I.ok.SM,I.ok.bs,I.ok.Em,I.ok.Ew,I.ok.Ex,I.ok.lg,I.ok.Ey⟩,I.os,I.bare,
  ⟨I.base.keep,I.base.slot,λb o e n hx=>?_,I.base.there,λb xs e=>out (I.base.tups b xs e),λb o u e=>out (I.base.jC b o u e),λb ps e=>?_⟩,I.loc,I.cell,?_,λx c e=>?_,λp hp=>?_,λb ob e=>?_,I.len⟩
 ·rw [fD (λhb=>?_)]
  ·exact I.base.free b o e n hx
  ·obtain ⟨y,_,ec⟩:=name b hb
   exact absurd (W0 (W3 e) (I.ok.L8 y b (hfn y) ec)) (X7 _)
 ·obtain ⟨more,z⟩:=I.base.ki b ps e
  exact ⟨more,out z⟩
 ·show gu H s.heap cs X.env.locals=none
  rw [fD (λhb=>?_)]
  ·exact I.free
  ·obtain ⟨y,_,ec⟩:=name _ hb
   exact I.By y _ ec rfl
 ·by_cases hc:c∈cs
  ·obtain ⟨o,v,h1,_⟩:=obj c hc
   obtain ⟨y,hy,ec⟩:=name c hc
   have e':X.env.cells.lookup x=some c:=e
   have hxy:x=y:=I.ok.inj x y c e' ec
   subst hxy
   refine .inr ⟨?_,o,_,mS hc h1⟩
   show (X.fn x&&!(ns.contains x))=false
   rw [List.contains_iff_mem.mpr hy]
   simp
  ·refine .inl ?_
   rw [fD hc]
   exact (I.jt x c e).resolve_right λz=>by rw [hfn] at z;cases z.1
 ·obtain ⟨e,n,ne,nf,d⟩:=I.pin p hp
  refine ⟨e,?_,ne,nf,d⟩
  rw [fD (λhb=>?_)]
  ·exact n
  ·obtain ⟨o,v,h1,h2⟩:=obj _ hb
   rw [e] at h1
   cases h1
   exact d v h2
 ·by_cases hb:b∈cs
  ·obtain ⟨o,v,h1,h2⟩:=obj b hb
   have z:some (HO.cV o (.own 0))=some ob:=(mS (H:=H) hb h1).symm.trans e
   cases z
   exact ⟨h1,o,h1⟩
  ·rw [fD hb] at e
   exact (I.hok b ob e).stay (λc u hc q=>q) (λc q=>out q) λc xs q=>out q
end
section
variable {X:Cx} {EE:cz} {pins:List (Addr×Obj)} {σ:L2.St} {H:Hp} {s:WT} {st:Stmt} {rest:List Stmt} {ms mt:MS}
structure Made (P c':Addr) (H:Hp) (h h':Heap) (ps ps':Array V0) (oc:Obj):Prop where
 ext:∀ b o,b≠P→h.get? b=some o→h'.get? b=some o
 tab:h'.get? P=some (YR ps')
 code:h'.get? c'=some oc
 sz:h.objs.size≤h'.objs.size
 old:(H c'=none∧h.objs.size≤c')∨H c'=some (.cV oc (.own 0))
 grow:∃ more,ps'=ps++more
noncomputable def fU (H:Hp) (P c' a:Addr) (ps':Array V0) (oc fo:Obj):Hp:=upd (upd (upd H P (.k9 ps')) c' (.cV oc (.own 0))) a (.cV fo (.own 0))
theorem rZ {P:Addr} {ps:Array V0} (M:Made P c' H h h' ps ps' oc) (hok:iY Pg w H h) (ha:a=h'.objs.size) (eP:H P=some (.k9 ps)) {b:Addr} {u:HO} (e:H b=some u) (hb:b≠P):fU H P c' a ps' oc fo b=some u:=by
 have hba:b≠a:=λz=>by
  have:=hok.fresh (a:=b) (by rw [z,ha];exact M.sz)
  rw [this] at e;cases e
 unfold fU
 rw [az hba]
 by_cases hbc:b=c'
 ·subst hbc
  rcases M.old with ⟨z,_⟩ | z
  ·rw [z] at e;cases e
  ·rw [aM,← e,z]
 ·rw [az hbc,az hb];exact e
theorem C9 {P:Addr} {ps:Array V0} (I:Inv X pins σ H s) (M:Made P c' H s.heap h' ps ps' oc) (eP:H P=some (.k9 ps)) (ht:0<t') (hfo:fo.isFreed=false) :
  Inv X pins σ (fU H P c' h'.objs.size ps' oc fo) {s with heap:=h'.push fo,toks:=t'}:=by
 have hca:c'≠h'.objs.size:=Xa (W3 M.code)
 have QV:P<s.heap.objs.size:=I.hok.lt eP
 have hPa:P≠h'.objs.size:=Xa (W0 QV M.sz)
 have QX:c'≠P:=by
  rintro rfl
  rcases M.old with ⟨z,_⟩ | z
  ·rw [eP] at z;cases z
  ·rw [eP] at z;cases z
 have vV:∀ {b:Addr} {u:HO},H b=some u→b≠P→fU H P c' h'.objs.size ps' oc fo b=some u:=λe hb=>rZ M I.hok rfl eP e hb
 have NP:fU H P c' h'.objs.size ps' oc fo P=some (.k9 ps'):=by
  unfold fU
  rw [az hPa,az (YE QX),aM]
 have atC:fU H P c' h'.objs.size ps' oc fo c'=some (.cV oc (.own 0)):=by
  unfold fU
  rw [az hca,aM]
 have OU:fU H P c' h'.objs.size ps' oc fo h'.objs.size=some (.cV fo (.own 0)):=aM
 have pP:(h'.push fo).get? P=some (YR ps'):=WQ _ M.tab
 have keep:∀ b o,b≠P→s.heap.get? b=some o→(h'.push fo).get? b=some o:=λb o hb e=>WQ _ (M.ext b o hb e)
 refine I.step (g':=s.gens) (d':=s.drawn) (t':=t') (ch:=[]) (λ_ z=>nomatch z) (λb o hL hb _ e n=>keep b o (λz=>by rw [z,eP] at n;cases n) e) (λb o hL hb _ e n=>⟨o.slots,keep b o (λz=>by rw [z,eP] at n;cases n) e⟩) (λb o _ e n=>?_) (λb o _ e=>?_) (λb xs e=>vV e λz=>by rw [z,eP] at e;cases e) (λb o u e=>vV e λz=>by rw [z,eP] at e;cases e) (λb qs e=>?_) (λm hn=>?_) (λb ob e=>?_) I.bare ht
 ·have HZ:=W3 e
  have h1:b≠h'.objs.size:=Xa (W0 HZ M.sz)
  have h2:b≠c':=by
   rintro rfl
   rcases M.old with ⟨_,z⟩ | z
   ·exact absurd (W0 HZ z) (X7 _)
   ·rw [n] at z;cases z
  have h3:b≠P:=λz=>by rw [z,eP] at n;cases n
  unfold fU
  rw [az h1,az h2,az h3];exact n
 ·by_cases hb:b=P
  ·exact ⟨_,hb▸pP⟩
  ·exact ⟨o,keep b o hb e⟩
 ·by_cases hb:b=P
  ·subst hb
   rw [eP] at e
   cases e
   obtain ⟨more,z⟩:=M.grow
   exact ⟨more,by rw [NP,z]⟩
  ·exact ⟨#[],by rw [vV e hb];simp⟩
 ·have Uy:X.env.locals≠P:=λz=>by
   have:=I.free
   rw [z,eP] at this;cases this
  exact (hn.extBut (λb o hb e=>M.ext b o hb e) Uy).push _
 ·by_cases Se:b=h'.objs.size
  ·subst Se
   rw [OU] at e
   cases e
   exact ⟨W5 _ hfo,_,W5 _ hfo⟩
  ·by_cases Sf:b=c'
   ·subst Sf
    rw [atC] at e
    cases e
    exact ⟨WQ _ M.code,_,WQ _ M.code⟩
   ·by_cases Ii:b=P
    ·subst Ii
     rw [NP] at e
     cases e
     exact pP
    ·have e':H b=some ob:=by
      unfold fU at e
      rw [az Se,az Sf,az Ii] at e;exact e
     refine (I.hok b ob e').stay (λc u hc q=>keep c u (λz=>?_) q) (λc q=>vV q λz=>by rw [z,eP] at q;cases q) λc xs q=>vV q λz=>by rw [z,eP] at q;cases q
     rcases hc with rfl | hc
     ·exact Ii z
     ·rw [z,eP] at hc;cases hc
theorem AL (hG:G.any (kG y)=true):∃ t:Nat,G[t]?=some (.tab y):=by
 obtain ⟨o,hm,ho⟩:=List.any_eq_true.mp hG
 obtain ⟨t,Uz,QY⟩:=Yo hm
 refine ⟨t,?_⟩
 rw [W2 Uz,QY]
 cases o with
 | tab z=>rw [show z=y from beq_iff_eq.mp ho]
 | lst _=>cases ho
 | _=>cases ho
structure ze (X:Cx) (k:gy) (y:Str) (js:List Nat) (cs:List Addr) (c P:Addr):Prop where
 hk:nh X.K X.mg y=some k
 hcode:X.env.code=.ref c
 htab:YG X.K y=some (c,P)
 hC:Zf X.base c P
 hB:X.base.BuiltinsAt X.mg P
 hcl:closureFor k.scope X.env=pure (k.names.zip cs)
 hlen:cs.length=k.names.length
 hnd:cs.Nodup
 hcs:∀ (l:Nat) (z:Str),k.names[l]?=some z→∃ d,cs[l]?=some d∧X.env.cells.lookup z=some d
 NQ:js.length=k.names.length
 hjn:∀ (l j:Nat) (z:Str),js[l]?=some j→k.names[l]?=some z→X.N[j]?=some z
 hcell:∀ z∈k.names,X.env.scope.names.lookup z=some .cell
 hfn:∀ x,X.fn x=true
theorem AM {k:gy} {cs:List Addr} {P:Addr} {t:Nat} {ps:Array V0} {doc pm ctv:V0} (T:ze X k y js cs c P) (I:Inv X pins σ H s) (ab:Ab X.K X.mg σ H τ ρ G)
  (gt:G[t]?=some (.tab y)) (eρ:ρ[t]?=some P) (eP:H P=some (.k9 ps)) (hcap:js.mapM (λj=>(τ[j]?).join)=some caps) (htk:0<tk) (M:Made P c' H s.heap h' ps ps' oc) (hd:oc.data=.fields ws) (hv:ws[1]?=some (.str k.qual tz)) (Le:ps'=#[Y6 k.pos.line,Y6 k.pos.col,.ref c']) :
  ∃ H2,Inv (Cx.held X k.names) pins σ H2 {s with heap:=h'.push (fV k cs doc pm c' ctv),toks:=tk}∧cC X.K H H2 ρ ρ∧eS X.K X.mg H2 ρ G∧Rep X.K X.mg ρ H2 (.ig y caps) (.ref h'.objs.size):=by
 obtain ⟨hk,hcode,htab,hC,hB,hcl,hlen,hnd,hcs,NQ,hjn,hcell,hfn⟩:=T
 obtain ⟨xs,NR,Sb,hx⟩:=zd ab.st js caps hcap
 have I1:=C9 (fo:=fV k cs doc pm c' ctv) I M eP htk rfl
 have vV:∀ {b:Addr} {u:HO},H b=some u→b≠P→fU H P c' h'.objs.size ps' oc (fV k cs doc pm c' ctv) b=some u:=λe hb=>rZ M I.hok rfl eP e hb
 have hca:c'≠h'.objs.size:=Xa (W3 M.code)
 have QV:P<s.heap.objs.size:=I.hok.lt eP
 have hPa:P≠h'.objs.size:=Xa (W0 QV M.sz)
 have QX:c'≠P:=by
  rintro rfl
  rcases M.old with ⟨z,_⟩ | z
  ·rw [eP] at z;cases z
  ·rw [eP] at z;cases z
 have NP:fU H P c' h'.objs.size ps' oc (fV k cs doc pm c' ctv) P=some (.k9 ps'):=by
  unfold fU
  rw [az hPa,az (YE QX),aM]
 have atC:fU H P c' h'.objs.size ps' oc (fV k cs doc pm c' ctv) c'=some (.cV oc (.own 0)):=by
  unfold fU
  rw [az hca,aM]
 have OU:fU H P c' h'.objs.size ps' oc (fV k cs doc pm c' ctv) h'.objs.size=some (.cV (fV k cs doc pm c' ctv) (.own 0)):=aM
 generalize fU H P c' h'.objs.size ps' oc (fV k cs doc pm c' ctv)=H1 at I1 vV NP atC OU
 generalize hs1:({s with heap:=h'.push (fV k cs doc pm c' ctv),toks:=tk}:WT)=s1 at I1 ⊢
 have I3:=C8 (ns:=k.names) I1 hfn hlen hcs
 have NS:∀ d∈cs,H1 d=none:=λd UA=>by
  obtain ⟨l,hl,e⟩:=Yo UA
  have hl2:l<k.names.length:=by nofun
  obtain ⟨d',e1,e2⟩:=hcs l k.names[l] (W2 hl2)
  rw [W2 hl,e] at e1
  cases e1
  exact (I1.jt _ _ e2).resolve_right λz=>by rw [hfn] at z;cases z.1
 have out:∀ {b:Addr} {u:HO},H1 b=some u→gu H1 s1.heap cs b=some u:=λ{b u} e=>by
  rw [fD (λhb=>by rw [NS b hb] at e;cases e)];exact e
 have GA:∀ {b:Addr} {u:HO},H b=some u→b≠P→gu H1 s1.heap cs b=some u:=λe hb=>out (vV e hb)
 have fut:cC X.K H (gu H1 s1.heap cs) ρ ρ:=by
  refine ⟨λb zs hh=>?_,λb q u hh=>GA hh λz=>(by rw [z,eP] at hh;cases hh),⟨[],by simp⟩,λb φ hh=>GA hh λz=>(by rw [z,eP] at hh;cases hh)⟩
  rw [rG] at hh ⊢;exact GA hh λz=>by rw [z,eP] at hh;cases hh
 have Dc:mE (gu H1 s1.heap cs) c' k.qual:=⟨oc,ws,tz,out atC,hd,hv⟩
 have uF:eS X.K X.mg (gu H1 s1.heap cs) ρ G:=by
  refine ⟨ab.hp.hl,ab.hp.nd,λn ob e=>?_⟩
  obtain ⟨a',e1,r⟩:=ab.hp.ob n ob e
  by_cases ha':a'=P
  ·subst ha'
   have hnt:n=t:=by
    obtain ⟨l1,q1⟩:=WS.mp e1
    obtain ⟨l2,q2⟩:=WS.mp eρ
    exact (Yh ab.hp.nd).mp (q1.trans q2.symm)
   subst hnt
   rw [gt] at e
   cases e
   exact ⟨a',e1,ps',c,k,out NP,htab,hk,.inr ⟨c',Le,Dc⟩⟩
  ·exact ⟨a',e1,r.mono fut λu q=>GA q ha'⟩
 have hce:c9 (gu H1 s1.heap cs) cs xs:=by
  refine pM (by rw [Sb,NQ,hlen]) λl d x e1 e2=>?_
  have hl:l<js.length:=by
   have:=(WS.mp e2).1
   nofun
  have hl2:l<k.names.length:=by nofun
  obtain ⟨x',e3,e4⟩:=hx l js[l] (W2 hl)
  rw [e2] at e3
  cases e3
  have nm:=hjn l js[l] k.names[l] (W2 hl) (W2 hl2)
  have kc:=hcell k.names[l] (aaL hl2)
  obtain ⟨m,_,hlk⟩:=I1.loc
  obtain ⟨u,ru,lk⟩:=hlk js[l] k.names[l] x nm e4 (.inr (.inl kc))
  rcases lk with ⟨kk,_⟩ | ⟨_,d',e5,UB,e6,e7⟩
  ·have Sg:X.env.scope.names.lookup k.names[l]=some .local:=kk
   rw [kc] at Sg;cases Sg
  ·obtain ⟨d2,e8,e9⟩:=hcs l k.names[l] (W2 hl2)
   rw [e1] at e8
   cases e8
   rw [e9] at e5
   cases e5
   exact ⟨UB,u,mS (XE e1) e6,e7,ru⟩
 refine ⟨_,I3,fut,uF,?_⟩
 unfold Rep
 exact ⟨k,_,cs,xs,rfl,hk,⟨hlen,hnd,doc,pm,ctv,c',out OU,Dc⟩,hce,NR.mono fut⟩
theorem AN {k:gy} {cs:List Addr} {P:Addr} (T:ze X k y js cs c P) (I:Inv X pins σ H s) (ab:Ab X.K X.mg σ H τ ρ G) (hG:G.any (kG y)=true) :
  ∃ (t:Nat) (ps:Array V0),G[t]?=some (.tab y)∧ρ[t]?=some P∧H P=some (.k9 ps)∧s.heap.get? P=some (YR ps)∧Zf s.heap c P∧s.heap.Ns mainGlobals X.mg∧mainGlobals≠P∧s.heap.BuiltinsAt X.mg P ∧
   (ps=#[]∨∃ (c':Addr) (oc:Obj) (ws:Array V0) (tz:Tok),ps=#[Y6 k.pos.line,Y6 k.pos.col,.ref c']∧H c'=some (.cV oc (.own 0))∧s.heap.get? c'=some oc∧oc.data=.fields ws∧ws[1]?=some (.str k.qual tz)):=by
 obtain ⟨t,gt⟩:=AL hG
 obtain ⟨P',eρ,ps,c0,k0,eP,et,ek,hps⟩:=ab.hp.ob t _ gt
 rw [T.htab] at et
 cases et
 rw [T.hk] at ek
 cases ek
 have hP:s.heap.get? P=some (YR ps):=I.hok P _ eP
 have hg:s.heap.Ns mainGlobals X.mg:=I.ok.mod.glob.keeps I.bk
 refine ⟨t,ps,gt,eρ,eP,hP,T.hC.keeps I.bk,hg,λz=>?_,?_,?_⟩
 ·obtain ⟨o,es,ep,e,hd,_⟩:=hg
  rw [z,hP] at e;cases e;cases hd
 ·obtain ⟨bm,o,b1,b2,b3,b4,b5,b6⟩:=T.hB
  exact ⟨bm,o,b1,b2,b3,b4,I.bk _ _ b5,b6⟩
 ·rcases hps with rfl | ⟨c',rfl,oc,ws,tz,fc,hd,hv⟩
  ·exact .inl rfl
  ·exact .inr ⟨c',oc,ws,tz,rfl,fc,(I.hok c' _ fc).1,hd,hv⟩
noncomputable def GB (X:Cx) (ns:List Str) (EE:cz) (e:Expr) (m:DS→M D):Prop:=∀ (pins:List (Addr×Obj)) (s:WT) (σ:L2.St) (H:Hp) (Q:VK),Inv X pins σ H s→bJ X.K X.mg EE m σ H Q→Xe (model X.prog X.w) X.A (eval e X.env) (EP (Cx.held X ns) pins σ Q) X.xe s
noncomputable def NT (X:Cx) (ns:List Str) (EE:cz) (es:List Expr) (m:DS→M (List D)):Prop:=∀ (pos:Pos) (pins:List (Addr×Obj)) (s:WT) (σ:L2.St) (H:Hp) (Q:List V→Hp→Prop),Inv X pins σ H s→gU X.K X.mg EE m σ H Q→Xe (model X.prog X.w) X.A (spliced (backTo pos (Xh es X.env))) (AP (Cx.held X ns) pins σ Q) X.xe s
noncomputable def AO (y:Str) (js:List Nat):DS→M D:=λτ G=>if G.any (kG y)=true then match js.mapM (λj=>(τ[j]?).join) with
 | some caps=>.ok (.ig y caps) G
 | none=>.stuck
 else .stuck
theorem GC {k:gy} {cs:List Addr} {P:Addr} {bd:Expr} (he:e=.Lambda k.params bd k.scope k.pos) (hbd:k.body=.expr bd) (hnm:k.name="<lambda>") (T:ze X k y js cs c P) (hdef:defaultsOf k.params X.env=([],[])) (hq:X.env.qual++"<lambda>"=k.qual):GB X k.names EE e (AO y js):=by
 subst he
 intro pins s σ H Q I h
 obtain ⟨τ,ρ,G,ab,ok⟩:=h
 unfold AO at ok
 by_cases hG:G.any (kG y)=true
 ·rw [if_pos hG] at ok
  cases hcap:js.mapM (λj=>(τ[j]?).join) with
  | none=>rw [hcap] at ok;exact ok.elim
  | some caps=>
   rw [hcap] at ok
   dsimp only at ok
   obtain ⟨t,ps,gt,eρ,eP,hP,Sh,hg,hgP,Si,hps⟩:=AN T I ab hG
   have NU:∀ (pm ctv:V0) (c':Addr),PySem.W.kla_obj "<lambda>" k.qual k.params bd k.scope (k.names.zip cs) pm c' ctv=fV k cs .none pm c' ctv:=λpm ctv c'=>by unfold fV uW;rw [hbd,hnm]
   have fin:∀ (h':Heap) (tk:Nat) (c':Addr) (pm ctv:V0) (ps':Array V0) (oc:Obj) (ws:Array V0) (tz:Tok),0<tk→Made P c' H s.heap h' ps ps' oc→oc.data=.fields ws→ws[1]?=some (.str k.qual tz) →
     ps'=#[Y6 k.pos.line,Y6 k.pos.col,.ref c']→EP (Cx.held X k.names) pins σ Q (.ref h'.objs.size) {s with heap:=h'.push (fV k cs .none pm c' ctv),toks:=tk}:=by
    intro h' tk c' pm ctv ps' oc ws tz htk M hd hv Le
    obtain ⟨H2,I3,fut,uF,UC⟩:=AM (doc:=.none) (pm:=pm) (ctv:=ctv) T I ab gt eρ eP hcap htk M hd hv Le
    exact ⟨.ref h'.objs.size,H2,I3,rfl,ok _ H2 ρ fut ⟨ab.st.mono fut,uF⟩ UC⟩
   refine PySem.W.kla_eval hdef ?_
   rw [hq]
   rcases hps with rfl | ⟨c',oc,ws,tz,rfl,fc,Lf,hd,hv⟩
   ·refine ie I.os.2 (PySem.W.kla_makeFunction (mg:=X.mg) T.hcl I.ok.glob hg T.hcode Sh hP trivial rfl hgP Si λc' ctv h' tk hx hge hlt hrec htb=>λhtk=>?_)
    obtain ⟨c₂,oc,ws,tz,e2,hoc,hd,hv⟩:=hrec
    cases e2
    rw [NU]
    exact fin h' tk c' _ ctv _ oc ws tz htk ⟨λb o hb e=>hx b o hb e,htb,hoc,X5 hge (aaQ hlt),.inl ⟨I.hok.fresh hge,hge⟩,⟨_,rfl⟩⟩ hd hv (by simp)
   ·refine ie I.os.2 (PySem.W.kla_makeFunctionHit (mg:=X.mg) (cv:=.ref c') T.hcl I.ok.glob hg T.hcode Sh hP trivial (by simp [codeAmong,Y6]) Si λctv h' tk hkp hsz=>λhtk=>?_)
    have:=fin h' tk c' ((X.mg "__name__").getD .none) ctv _ oc ws tz htk ⟨λb o _ e=>hkp b o e,hkp _ _ hP,hkp _ _ Lf,hsz,.inr fc,⟨#[],by simp⟩⟩ hd hv rfl
    rw [← NU] at this
    exact this
 ·rw [if_neg hG] at ok
  exact ok.elim
theorem pN {Q:List V→Hp→Prop} (h:gU X.K X.mg EE (aa m r) σ H Q):yH (bJ X.K X.mg EE m) (gU X.K X.mg EE r) σ H Q:=by
 obtain ⟨τ,ρ,G,ab,ok⟩:=BV (k:=λτ x=>(r τ).bind λxs=>M.ret (x::xs)) h
 refine ⟨τ,ρ,G,ab,?_⟩
 cases e:m τ G with
 | stuck=>rw [e] at ok;exact ok
 | bH c G'=>rw [e] at ok;exact ok
 | ok d G'=>
  rw [e] at ok
  intro v H' ρ' f' aZ r'
  obtain ⟨τ2,ρ2,G2,d2,bV,r2,aK⟩:=ok v H' ρ' f' aZ r'
  refine ⟨τ2,ρ2,G2,bV,?_⟩
  dsimp only [M.bind] at aK
  cases e2:r τ2 G2 with
  | stuck=>rw [e2] at aK;exact aK
  | bH c G'=>rw [e2] at aK;exact aK
  | ok d3 G3=>
   rw [e2] at aK
   exact λv3 H3 ρ3 f3 nS r3=>aK (v::v3) H3 ρ3 f3 nS (.cons (r2.mono f3) r3)
theorem De (ha:QE X EE e m) (h:bg e=true) (hr:NT X ns EE es r):NT X ns EE (e::es) (aa m r):=by
 intro pos pins s σ H Q I hq
 rw [aO h]
 show Xe _ _ (spliced ((false,eval e X.env)::backTo pos (Xh es X.env))) _ _ s
 refine Yq (cY (ha pins s σ H _ I (pN hq)) λu s1 zz=>?_)
 obtain ⟨x,H1,I1,r1,q1⟩:=zz
 exact cY (hr pos pins s1 σ H1 _ I1 q1) λus s2 zz=>by obtain ⟨xs,H2,I2,r2,q2⟩:=zz;exact ⟨x::xs,H2,I2,.cons r1 r2,q2⟩
theorem GD (ha:GB X ns EE e m) (h:bg e=true):NT X ns EE [e] (aa m ah):=by
 intro pos pins s σ H Q I hq
 rw [aO h]
 show Xe _ _ (spliced ((false,eval e X.env)::backTo pos (Xh [] X.env))) _ _ s
 refine Yq (cY (ha pins s σ H _ I (pN hq)) λu s1 zz=>?_)
 obtain ⟨x,H1,I1,r1,q1⟩:=zz
 have hn:PA (Cx.held X ns) [] EK:=xE
 have UD:EK σ H1 λxs H2=>Q (x::xs) H2:=by
  obtain ⟨τ,ρ,G,ab,ok⟩:=q1
  exact ok [] H1 ρ .refl ab .nil
 exact cY (hn pos pins s1 σ H1 _ I1 UD) λus s2 zz=>by obtain ⟨xs,H2,I2,r2,q2⟩:=zz;exact ⟨x::xs,H2,I2,.cons r1 r2,q2⟩
theorem Df {CX:nN} {k:Nat} {f:Addr} {p pos:Pos} {m:DS→M (List D)} (F:kj X.prog X.w X.K X.mg X.base CX k f fd ps (gC X.K X.mg n mf)) (hr:cZ k X.A) (hm:X.mg x=some (.ref f)) (hk:XX X.K (.ref f)=true) (hb:Binds X.K fd ps []) (hx:HU CX (Cx.held X ns) EE) (hg:Gl X x)
  (hd:(x==("__debug__":Str))=false∧(x==("__classdict__":Str))=false) (ha:NT X ns EE (e::es) m) (h:aq (e::es)=true:=by rfl):GB X ns EE (.Call (.Name x p) (e::es) [] pos) (av n mf m):=by
 have h':bg e=true∧aq es=true:=by simpa [aq] using h
 intro pins s σ H Q I hq
 obtain ⟨τ1,ρ1,G1,gn,Bt⟩:=i7 (k:=λ_ ds=>if ds.length=n then mf ds else M.stop) hq
 refine Xw (XH (yG hg hm (v:=.ref f) rfl hd.1 pins s σ H (λv' H'=>v'=.ref f∧H'=H) I ⟨rfl,rfl⟩) (λu s0 hu=>?_) λ_ _ z=>z)
 obtain ⟨v',H',I0,r0,rfl,rfl⟩:=hu
 cases r0
 refine aaq (h₀:=X.base) I0.ok.mod.Eu hk (cY (ha pos pins s0 σ H' _ I0 ⟨τ1,ρ1,G1,gn,Bt⟩) λus s1 ⟨vs,H1,I1,r,q⟩=>⟨I1.xo,?_⟩) (aO h'.1 _ _) (aY h'.2)
 obtain ⟨τ2,ρ2,G2,ds,bV,rs,aK⟩:=q
 by_cases hn:ds.length=n
 ·rw [if_pos hn] at aK
  exact tE (X:=Cx.held X ns) F hr hb hx I1 r bV rs hn aK
 ·rw [if_neg hn] at aK
  exact aK.elim
end
section
variable {P:Xx} {w:XR} {K:WV} {mg:Str→Option V0} {base:Heap} {f:Addr} {fd:FuncData}
theorem QZ {st:Stmt} {k:Nat} {m:List D→M D} {c Pt:Addr} (F:BN K x qual st f fd) (S:jZ N ps (aF st)) (hps:ps.length=n) (hN:N.length=nn) (hm:∀ ds G,m ds G=iU (cI nn ms ds G))
  (htab:YG K x=some (c,Pt)) (UE:mg x=some (.ref f))
  (hbody:∀ (X:Cx) (EE:cz) (A:Around) (outer:List Env) (s:WT) (H:Hp) (E:XK),X=oB (nj P w) P w K mg base N qual (aF st) f (.ref c) A outer s H E→cZ k (A.deeper (Zb qual (aF st) s.heap.objs.size f (.ref c))) →
   fM X EE→(∀ ns,fM (Cx.held X ns) EE)→PassesOwn (model P w) X.A X.env X.xe→C7 X EE (bL st) ms) :
  kj P w K mg base (nj P w) (k+1) f fd ps (gC K mg n m):=by
 subst hps hN
 obtain ⟨oc,od,kV,doc,pm,an,cdv,ct,osl,rfl,lk,hcd⟩:=F.ex
 refine ⟨λvs H Q E h=>h.len,λA outer s H args us vs Q E hr e0 htk hb r yI=>?_⟩
 have hc:cdv=.ref c:=PySem.W.law_code e0.mod.Eu e0.mod.glob htab UE (e0.mod.Eu _ _ lk) rfl
 subst hc
 have hl:=yI.len
 obtain ⟨ds,ρ,G,hn,hp,rs,ok⟩:=yI
 have KX:K.In s.heap:=e0.mod.Eu.keeps λb o e=>(e0.bs b o e).1
 have lim:s.heap.NoLimit:=e0.mod.nolimit.keeps λb o e=>(e0.bs b o e).1
 have hkind:∀ y∈ps.zip us,(aF st).names.lookup y.1=some .local∨((aF st).names.lookup y.1=some .cell∧((cellsFrom (s.heap.objs.size+1) (aF st).names []).lookup y.1).isSome=true):=λzz hy=>by
  obtain ⟨n,v⟩:=zz
  rcases S.par n (YW hy).1 with q | q
  ·exact .inl q
  ·exact .inr ⟨q,ZM _ _ _ (.inl q)⟩
 refine codeAny_call_function hr.depth (KX _ _ lk) rfl S.co S.gen rfl (aam KX hcd) (hb _ _ _ _ ?_)
 refine ie htk (aan S.kind hkind λenv he s1 x=>λJu=>?_)
 subst he
 refine ⟨lim.keeps x.toInCall.keep,codeAny_func ?_⟩
 have hB:=hbody _ (λ_ _ _=>False) A outer s H E rfl (hr.deeper _) (λ_ _ _ _ _ _ _ _ _ _ z=>z.elim) (λ_ _ _ _ _ _ _ _ _ _ _ z=>z.elim) ZQ
 have I:Inv (oB (nj P w) P w K mg base N qual (aF st) f (.ref c) A outer s H E) [] (L2.start N vs) H s1:=rB S hr.hd e0 hl r x (n:=s1.toks) Ju
 have hq:gg K mg (λ_ _ _=>False) ms {nx:=λ_ H'=>Q .eO H',rt:=Q} (L2.start N vs) H:=by
  refine ⟨ds.map some++Xi (N.length - ds.length) none,ρ,G,⟨i9 rs,hp⟩,?_⟩
  rw [hm] at ok
  dsimp only [cI] at ok
  cases q:ms (ds.map some++Xi (N.length - ds.length) none) G with
  | stuck=>rw [q] at ok;exact ok
  | nx τ G'=>rw [q] at ok;exact λσ' H' ρ' f ab=>ok .eO H' ρ' f ab.hp (by unfold Rep;rfl)
  | rt d G'=>rw [q] at ok;exact λv H' ρ' f hp r=>ok v H' ρ' f hp r
  | bk τ G'=>rw [q] at ok;exact ok.elim
  | ct τ G'=>rw [q] at ok;exact ok.elim
  | xn c τ G'=>rw [q] at ok;exact ok.elim
 refine XH (hB [] s1 (L2.start N vs) H _ I hq) (λfl s' hs=>?_) λe s' hs=>hs
 have fin:∀ {H':Hp} {v:V} {u:V0},Ld (oB (nj P w) P w K mg base N qual (aF st) f (.ref c) A outer s H E) H' s'→RelV v u→Q v H'→CE outer P w H s Q u s':=
  λ{H' v u} J rv q=>⟨v,H',J.os,J.bare,J.base,J.hok,rv,q⟩
 cases fl with
 | ret u=>
  obtain ⟨v,H',J,rv,q⟩:=hs
  exact fin J rv q
 | next=>
  obtain ⟨σ',H',J,q⟩:=hs
  exact fin (v:=V.eO) (u:=Value.none) J rfl q
 | brk=>
  obtain ⟨_,_,q⟩:=hs
  exact X3 q
 | cont=>
  obtain ⟨_,_,q⟩:=hs
  exact X3 q
theorem NV {st:Stmt} {k:Nat} {m:List D→M D} (F:BN K x qual st f fd) (S:jM N ps [] (aF st)) (hps:ps.length=n) (hn0:0<n) (hN:N.length=nn) (hm:∀ ds G,m ds G=iU (cI nn ms ds G))
  (hbody:∀ (X:Cx) (EE:cz) (c:Addr) (A:Around) (outer:List Env) (s:WT) (H:Hp) (E:XK),X=Gy (nj P w) P w K mg base N ⟨x,qual,fK st,.stmts (bL st),aF st,⟨0,0,0,0⟩,[]⟩ [] f c A outer s H E→cZ k (A.deeper (tS ⟨x,qual,fK st,.stmts (bL st),aF st,⟨0,0,0,0⟩,[]⟩ [] s.heap.objs.size f c)) →
   fM X EE→PassesOwn (model P w) X.A X.env X.xe→uC X EE (bL st) ms) :
  kD P w K mg base (nj P w) (k+1) f fd ps (gC K mg n m):=by
 subst hps hN
 obtain ⟨oc,od,kV,doc,pm,an,cdv,ct,osl,rfl,lk,hcd⟩:=F.ex
 refine ⟨λvs H Q E h=>h.len,λA outer s H args us vs Q E hr e0 hb r yI=>?_⟩
 have hl:=yI.len
 obtain ⟨ds,ρ,G,hn,hp,rs,ok⟩:=yI
 have KX:K.In s.heap:=e0.mod.Eu.keeps λb o e=>(e0.bs b o e).1
 have lim:s.heap.NoLimit:=e0.mod.nolimit.keeps λb o e=>(e0.bs b o e).1
 have hrec:=aam KX hcd
 obtain ⟨c,UG,ws,t,rfl,hoc,hd,hv⟩:=id hrec
 refine codeAny_call_def (fd:=Y3 x qual (fK st) (bL st) (aF st) .none kV doc pm an (.ref c) ct) (body:=bL st) (binds:=ps.zip us) hr.depth (KX _ _ lk) rfl lim hrec rfl hb S.mG (λy hy=>S.par y.1 (YW hy).1) (λh1 hns hk1=>?_) S.co S.gen S.kind
 have Lc:us.length=ps.length:=by rw [← r.length];exact hl
 have htk:0<s.toks+(ps.zip us).length:=by rw [aa6,Lc,Nat.min_self];nofun
 have I:Inv (Gy (nj P w) P w K mg base N ⟨x,qual,fK st,.stmts (bL st),aF st,⟨0,0,0,0⟩,[]⟩ [] f c A outer s H E) [] (L2.start N (vs++[])) H {s with heap:=h1,toks:=s.toks+(ps.zip us).length}:=za (cs:=[]) (xs:=[]) S hr.hd e0 hl r rfl List.nodup_nil rfl hns hk1 htk
 rw [Xv] at I
 have hB:=hbody _ (λ_ _ _=>False) c A outer s H E rfl (hr.deeper _) (λ_ _ _ _ _ _ _ _ _ _ z=>z.elim) ZQ
 have hq:gg K mg (λ_ _ _=>False) ms {nx:=λ_ H'=>Q .eO H',rt:=Q} (L2.start N vs) H:=by
  refine ⟨ds.map some++Xi (N.length - ds.length) none,ρ,G,⟨i9 rs,hp⟩,?_⟩
  rw [hm] at ok
  dsimp only [cI] at ok
  cases q:ms (ds.map some++Xi (N.length - ds.length) none) G with
  | stuck=>rw [q] at ok;exact ok
  | nx τ G'=>rw [q] at ok;exact λσ' H' ρ' f ab=>ok .eO H' ρ' f ab.hp (by unfold Rep;rfl)
  | rt d G'=>rw [q] at ok;exact λv H' ρ' f hp r=>ok v H' ρ' f hp r
  | bk τ G'=>rw [q] at ok;exact ok.elim
  | ct τ G'=>rw [q] at ok;exact ok.elim
  | xn c τ G'=>rw [q] at ok;exact ok.elim
 refine XH (hB [] _ (L2.start N vs) H _ I hq) (λfl s' hs=>?_) λe s' hs=>hs
 have fin:∀ {σ':St} {H':Hp} {v:V} {u:V0},Inv (Gy (nj P w) P w K mg base N ⟨x,qual,fK st,.stmts (bL st),aF st,⟨0,0,0,0⟩,[]⟩ [] f c A outer s H E) [] σ' H' s'→RelV v u→Q v H'→CE outer P w H s Q u s':=
  λ{σ' H' v u} J rv q=>⟨v,H',J.os,J.bare,J.base,J.hok,rv,q⟩
 cases fl with
 | ret u=>
  obtain ⟨v,σ',H',J,rv,q⟩:=hs
  exact fin J rv q
 | next=>
  obtain ⟨σ',H',J,q⟩:=hs
  exact fin (v:=V.eO) (u:=Value.none) J rfl q
 | brk=>
  obtain ⟨_,_,_,q⟩:=hs
  exact X3 q
 | cont=>
  obtain ⟨_,_,_,q⟩:=hs
  exact X3 q
end
section
open PyProof.Rows
noncomputable def zf (Pt:Addr) (H:Hp):Prop:=H Pt=some (.k9 #[])∧∀ b,b≠Pt→H b=none∨∃ o xs,H b=some (.cV o (.lst xs))
theorem AQ {P:Xx} {w:XR} {K:WV} {mg mb:Str→Option V0} {CX:nN} {k:Nat} {fa a c Pt:Addr} {fd:FuncData} {x:Str} {sp:Sp} {s₁:WT} {vs:List V0} {ns:List Int}
  (KX:K.In s₁.heap) (hns:s₁.heap.Ns mainGlobals mg) (hb:s₁.heap.Ns builtinsNs mb) (LO:∀ x:Str,x≠"__name__"→mb x=bootBuiltins x) (hlim:s₁.heap.NoLimit) (hg:s₁.gens=#[])
  (ha:s₁.heap.get? a=some {cls:=.type "list",data:=.seq vs.toArray}) (hi:PyProof.Rows.IntsAre vs ns) (hl:ns.length≤WO) (hr:cZ k callerA)
  (Sj:Zf s₁.heap c Pt) (LX:s₁.heap.get? Pt=some (YR #[])) (UH:K.lookup Pt=none) (UI:s₁.heap.BuiltinsAt mg Pt)
  (F:∀ base:Heap,K.In base→base.Ns mainGlobals mg→Zf base c Pt→base.BuiltinsAt mg Pt→kD P w K mg base CX k fa fd [x] sp) (hbind:∀ (s:WT) (u:V0),BindsTo s fd ⟨[u],[]⟩ [(x,u)])
  (yI:∀ H:Hp,zf Pt H→E0 K H a (ns.map V.int)→sp [.ref a] H (λv _=>v=.bl true) λ_ _ _=>False)
  (Q0:∀ H e s',CX [] H s₁ (λ_ _ _=>False) e s'→False) :
  codeAny (model P w) callerA (.call (.ref fa) ⟨[.ref a],[]⟩) (λr s'=>r=.ok (.ret (.bool true))∧OldK s₁.heap s'.heap∧s'.os=s₁.os∧Zr s'.gens) s₁:=by
 have rv:=rE hi
 have Q2:=hi.length
 have Sk:a≠Pt:=λz=>by rw [z,LX] at ha;cases ha
 have core:∀ H:Hp,zf Pt H→E0 K H a (ns.map V.int)→iY P w H s₁.heap→(∀ b,H b≠none→b=a∨b=Pt)→(H a≠none→K.lookup a=none) →
   codeAny (model P w) callerA (.call (.ref fa) ⟨[.ref a],[]⟩) (λr s'=>r=.ok (.ret (.bool true))∧OldK s₁.heap s'.heap∧s'.os=s₁.os∧Zr s'.gens) s₁:=by
  intro H hO hS hok hA hK
  have gD:∀ {b:Addr} {o:Obj},s₁.heap.get? b=some o→H b=none→(om s₁.heap H).get? b=some o:=λe n=>Bw e n
  have free:∀ {b:Addr} {o:Obj},s₁.heap.get? b=some o→o≠{cls:=.type "list",data:=.seq vs.toArray}→o≠YR #[]→H b=none:=λ{b o} e n1 n2=>by
   cases q:H b with
   | none=>rfl
   | some u=>
    rcases hA b (by rw [q];simp) with z | z
    ·rw [z,ha] at e;cases e;exact absurd rfl n1
    ·rw [z,LX] at e;cases e;exact absurd rfl n2
  have EL:∀ {b:Addr} {o:Obj} {es:Array DictEntry} {ep:Nat},s₁.heap.get? b=some o→o.data=.dict es ep→H b=none:=λ{b o es ep} e d=>free e (λz=>by rw [z] at d;cases d) λz=>by rw [z] at d;cases d
  have OV:∀ {b:Addr} {m:Str→Option V0},s₁.heap.Ns b m→(om s₁.heap H).Ns b m:=λ{b m} zz=>by obtain ⟨o,es,ep,e,d,r⟩:=zz;exact ⟨o,es,ep,gD e (EL e d),d,r⟩
  have Sl:K.In (om s₁.heap H):=λb o e=>gD (KX b o e) (by
   cases q:H b with
   | none=>rfl
   | some u=>
    rcases hA b (by rw [q];simp) with z | z
    ·subst z
     rw [hK (by rw [q];simp)] at e;cases e
    ·rw [z,UH] at e;cases e)
  have hM:Mod K mg (om s₁.heap H):=⟨Sl,OV hns,⟨mb,OV hb,LO⟩,let ⟨mc,h1,h2⟩:=hlim;⟨mc,OV h1,h2⟩⟩
  have UJ:Zf (om s₁.heap H) c Pt:=by
   obtain ⟨o,ws,file,tf,flags,tg,UK,text,tt,e,hcl,r⟩:=id Sj
   exact ⟨o,ws,file,tf,flags,tg,UK,text,tt,gD e (free e (λz=>by rw [z] at hcl;simp at hcl) λz=>by rw [z] at hcl;cases hcl),hcl,r⟩
  have UL:(om s₁.heap H).BuiltinsAt mg Pt:=by
   obtain ⟨bm,o,b1,b2,b3,b4,e,hcl,r⟩:=id UI
   exact ⟨bm,o,b1,b2,b3,b4,gD e (free e (λz=>by rw [z] at hcl;simp at hcl) λz=>by rw [z] at hcl;cases hcl),hcl,r⟩
  have e0:mC P w K mg (om s₁.heap H) callerA [] s₁ H:=⟨rfl,hM,λb o e=>Es e,Nat.le_of_eq (zN _ _),trivial,λb hb=>absurd (show b∈([]:List Addr) from hb) (by simp),hok,.of_eq hg⟩
  refine codeAny_mono ((F _ Sl (OV hns) UJ UL).run callerA [] s₁ H ⟨[.ref a],[]⟩ [.ref a] [.ref a] _ _ hr e0 (hbind s₁ (.ref a)) (.cons rfl .nil) (yI H hO hS)) λr s' h=>?_
  cases r with
  | error e=>exact (Q0 H e s' h).elim
  | ok fl=>
   cases fl with
   | next=>exact X3 h
   | brk=>exact X3 h
   | cont=>exact X3 h
   | ret u=>
    obtain ⟨v,H',os,bare,un,NW,r',q⟩:=h
    have q':v=.bl true:=q
    subst q'
    obtain rfl:u=Value.bool true:=r'
    refine ⟨rfl,⟨λb o e=>?_,λb o e=>un.there b o e (by simp)⟩,os.1,bare⟩
    cases q:H b with
    | none=>exact .inl (un.keep b o e q (by intro z;exact absurd (show b∈([]:List Addr) from z) (by simp)) (by simp))
    | some u=>
     by_cases Ii:b=Pt
     ·subst Ii
      obtain ⟨more,z2⟩:=un.ki b _ hO.1
      have e2:s'.heap.get? b=some (YR (#[]++more)):=NW b _ z2
      rw [LX] at e
      cases e
      exact .inr (.inl ⟨(Sj.tab LX).isCodeTable,rfl,#[],more,rfl,e2⟩)
     ·rcases hO.2 b Ii with z | ⟨ob,xs,z⟩
      ·rw [q] at z;cases z
      ·have z2:=un.jC b ob _ z
       obtain ⟨e1,_⟩:=hok b _ z
       obtain ⟨e2,_⟩:=NW b _ z2
       rw [e] at e1;cases e1
       exact .inl e2
 cases hk:K.lookup a with
 | some o=>
  have e:=KX a o hk
  rw [ha] at e
  cases e
  refine core (λb=>if b=Pt then some (.k9 #[]) else none) ⟨if_pos rfl,λb hb=>.inl (if_neg hb)⟩ (.inr ⟨_,vs.toArray,_,hk,rfl,rfl,rfl,by rw [Xg,Q2];exact hl,by simpa using rv⟩) (λb u z=>?_) (λb z=>?_) λz=>absurd (if_neg Sk) z
  ·by_cases hb:b=Pt
   ·have z':=(if_pos hb).symm.trans z
    cases z'
    subst hb
    exact LX
   ·have z':=(if_neg hb).symm.trans z
    cases z'
  ·by_cases hb:b=Pt
   ·exact .inr hb
   ·exact absurd (if_neg hb) z
 | none=>
  refine core (λb=>if b=Pt then some (.k9 #[]) else if b=a then some (.cV {cls:=.type "list",data:=.seq vs.toArray} (.lst (ns.map V.int))) else none) ⟨if_pos rfl,λb hb=>?_⟩ (.inl ⟨{cls:=.type "list",data:=.seq vs.toArray},(if_neg Sk).trans (if_pos rfl)⟩) (λb u z=>?_) (λb z=>?_) λ_=>hk
  ·by_cases hba:b=a
   ·exact .inr ⟨_,_,(if_neg hb).trans (if_pos hba)⟩
   ·exact .inl ((if_neg hb).trans (if_neg hba))
  ·by_cases hb:b=Pt
   ·have z':=(if_pos hb).symm.trans z
    cases z'
    subst hb
    exact LX
   ·have z0:=(if_neg hb).symm.trans z
    by_cases hba:b=a
    ·have z':=(if_pos hba).symm.trans z0
     cases z'
     subst hba
     exact ⟨ha,by rw [W8];exact hl,vs,_,rv,ha⟩
    ·have z':=(if_neg hba).symm.trans z0
     cases z'
  ·by_cases hb:b=Pt
   ·exact .inr hb
   ·by_cases hba:b=a
    ·exact .inl hba
    ·exact absurd ((if_neg hb).trans (if_neg hba)) z
theorem tV (X:K.In h) (hK:abr K=true) (hP:h.get? Pt=some (YR #[])):K.lookup Pt=none:=by
 cases e:K.lookup Pt with
 | none=>rfl
 | some o=>
  have e1:=X Pt o e
  rw [hP] at e1
  cases e1
  have:=ZZ.mp hK _ (PySem.W.mem_of_lookupK e)
  cases this
theorem Dg {l:ab7} {k:Nat} {q:Xx} {d:DefRec} {K:Params→WV} {CX:XR→nN}
  (hn:l.most=some n) (hn2:n≤WO) (hdf:d.params.defaults=[]) (hr:cZ k callerA) (hrec:(recsOf q).find? (λe=>e.name==y)=some dy)
  (hY:∀ (w:XR) (h:Heap),YP w h→(K w.params).In h) (hT:∀ w:XR,abr (K w.params)=true)
  (F:∀ (w:XR) (mg:Str→Option V0) (fa:Addr) (h:Heap),(K w.params).In h→h.Ns mainGlobals mg→mg d.name=some (.ref fa) →
   ∃ (fd:FuncData) (c Pt:Addr) (sp:Sp),YG (K w.params) y=some (c,Pt)∧(∀ (s:WT) (u:V0),BindsTo s fd ⟨[u],[]⟩ [(x,u)]) ∧
    (∀ base:Heap,(K w.params).In base→base.Ns mainGlobals mg→Zf base c Pt→base.BuiltinsAt mg Pt→kD l.prog w (K w.params) mg base (CX w) k fa fd [x] sp) ∧
    ∀ (H:Hp) (a:Addr) (ns:List Int),ns.length≤n→zf Pt H→E0 (K w.params) H a (ns.map V.int)→sp [.ref a] H (λv _=>v=.bl true) λ_ _ _=>False)
  (Q0:∀ (w:XR) (H:Hp) (s:WT) (e:V0) (s':WT),CX w [] H s (λ_ _ _=>False) e s'→False) :
  PySem.W.WalkO q loose XP YP l.row.toRowW d [] (λf vs=>ace f vs):=by
 refine Ry.uQ hn hdf λw s₀ s₁ mg mb fa o pm cd doc a vs ns G Y ho hd hcd hmg hobj hints hlen hg=>?_
 have KX:=hY w _ Y
 obtain ⟨fd,c,Pt,sp,ht,hb,hF,yI⟩:=F w mg fa _ KX G.T.g hmg
 obtain ⟨hC,hP⟩:=PySem.W.tab_of G.T KX hrec ht
 obtain ⟨bm,ob,b1,b2,b3,b4,b5,b6⟩:=G.T.bmain
 have Ii:bm≠Pt:=λz=>by rw [z,hP] at b3;cases b3;cases b4
 have UM:bm≠mainGlobals:=λz=>by
  obtain ⟨o,es,ep,e,hd,_⟩:=G.T.g
  rw [z,e] at b3;cases b3;rw [hd] at b6;cases b6
 exact AQ KX G.T.g G.T.b G.T.builtins G.T.nolimit hg hobj hints (X5 hlen hn2) hr hC hP (tV KX (hT w) hP) ⟨bm,ob,b1,b2,UM,Ii,b3,b4,b5,b6⟩ hF hb (λH hO hS=>yI H a ns hlen hO hS) λH e s'=>Q0 w H s₁ e s'
theorem Lg {m:List D→M D} {ns:List Int} (hm:∀ ns:List Int,ns.length≤63→∃ G,m [.con (ns.map .int)] [.tab y]=.ok (.bl true) G) (hl:ns.length≤63) (ht:YG K y=some (c,Pt)) (hk:nh K mg y=some zc) (hO:zf Pt H) (hS:E0 K H a (ns.map V.int)) :
  gC K mg 1 m [.ref a] H (λv _=>v=.bl true) λ_ _ _=>False:=by
 obtain ⟨G,e⟩:=hm ns hl
 refine ⟨[.con (ns.map .int)],[Pt],[.tab y],rfl,⟨rfl,by simp,λn o e=>?_⟩,.cons (by unfold Rep;exact ⟨a,_,rfl,hS,.ints ns⟩) .nil,?_⟩
 ·cases n with
  | zero=>
   simp at e
   subst e
   exact ⟨Pt,rfl,#[],c,zc,hO.1,ht,hk,.inl rfl⟩
  | succ n=>simp at e
 ·rw [e]
  intro v H' ρ' _ _ r
  unfold Rep at r
  exact r
end
section
open PyProof.Rows
theorem Q3 {c0:Nat} (h:Pr y0 c0 m0):∀ y c mf,XZ y [(y0,(c0,m0))]=some (c,mf)→Pr y c mf:=λy c mf e=>by
 rw [XS] at e
 cases q:(y==y0) with
 | false=>rw [q] at e;cases e
 | true=>
  rw [q] at e
  cases e
  rw [beq_iff_eq.mp q];exact h
theorem ye {st:Stmt} {f:Addr} {k:gy} (F:BN K x qual st f fd) (hm:mg x=some (.ref f)) (h:gT qual (bL st)=some k):nh K mg x=some k:=by
 obtain ⟨oc,od,kV,doc,pm,an,cdv,ct,osl,rfl,lk,hcd⟩:=F.ex
 unfold nh
 rw [hm]
 dsimp only
 rw [lk]
 exact h
theorem Dh {f:Addr} {oc:V0} {vs:Array V0} (h1:abS K mainGlobals x=some (some (.ref f))) (h2:K.lookup f=some ⟨oc,od,.func fd,sl⟩) (h3:fd.code=.ref c)
  (h4:K.lookup c=some ⟨o1,o2,.fields vs,o4⟩) (h5:vs[11]?=some (.ref Pt)):YG K x=some (c,Pt):=by
 unfold YG
 rw [h1]
 dsimp only
 rw [h2]
 dsimp only
 rw [h3]
 dsimp only
 rw [h4]
 dsimp only
 rw [h5]
end
section
open PyProof.Rows
noncomputable def zg (s:Stmt):Expr:=match s with
 | .Assign [_] (.Call _ es _ _) _=>es.getLast?.getD (.Constant .none 0 ⟨0,0,0,0⟩)
 | .Return (some (.Call _ es _ _)) _=>es.getLast?.getD (.Constant .none 0 ⟨0,0,0,0⟩)
 | _=>.Constant .none 0 ⟨0,0,0,0⟩
noncomputable def GF (e:Expr):Arguments:=match e with
 | .Lambda a _ _ _=>a
 | _=>{posonlyargs:=[],args:=[],vararg:=none,kwonlyargs:=[],kw_defaults:=[],kwarg:=none,defaults:=[]}
noncomputable def GH (e:Expr):Expr:=match e with
 | .Lambda _ b _ _=>b
 | e=>e
noncomputable def Di (e:Expr):Scope:=match e with
 | .Lambda _ _ s _=>s
 | _=>{kind:=.function,names:=[],isGenerator:=false,isCoroutine:=false}
section
variable {X:Cx} {EE:cz} {a b:Expr} {ma mb:DS→M D} {pos:Pos}
noncomputable abbrev AR:=cH (λ_ _=>true) λi j=>.int (Yu i j)
noncomputable abbrev NX:=cH (λ_ _=>true) λi j=>.int (YF i j)
noncomputable abbrev GI:=cH (λ_ _=>true) λi j=>.int (Yc i j)
noncomputable abbrev pO:=cH (λi j=>decide (0≤j)&&(decide (j≤1000000)&&decide (i.natAbs<2^64))) λi j=>.int (i*2^j.toNat)
theorem GJ (ha:QE X EE a ma) (hb:QE X EE b mb):QE X EE (.BinOp a .BitAnd b pos) (ak AR ma mb):=jE Jj (gW λ_ _ _ _=>by unfold Rep;rfl) ha hb
theorem Lh (ha:QE X EE a ma) (hb:QE X EE b mb):QE X EE (.BinOp a .BitOr b pos) (ak NX ma mb):=jE Mu (gW λ_ _ _ _=>by unfold Rep;rfl) ha hb
theorem GK (ha:QE X EE a ma) (hb:QE X EE b mb):QE X EE (.BinOp a .BitXor b pos) (ak GI ma mb):=jE Jk (gW λ_ _ _ _=>by unfold Rep;rfl) ha hb
theorem Li (ha:QE X EE a ma) (hb:QE X EE b mb):QE X EE (.BinOp a .LShift b pos) (ak pO ma mb):=jE Jh (j0 (P:=EG) (λi j h=>by simpa [EG] using h) λ_ _ _ _=>by unfold Rep;rfl) ha hb
noncomputable abbrev Dj:=cH (λ_ j=>decide (0≤j)) λi j=>.int (i / 2^j.toNat)
theorem Lj (ha:QE X EE a ma) (hb:QE X EE b mb):QE X EE (.BinOp a .RShift b pos) (ak Dj ma mb):=jE Ji (j0 (P:=λ_ j=>0≤j) (λi j h=>by simpa using h) λ_ _ _ _=>by unfold Rep;rfl) ha hb
end
end
section
variable {X:Cx} {EE:cz}
theorem GL (he:GB X ns EE e m):C7 X EE [.Return (some e) pos] (cj m):=by
 intro pins s σ H D I h
 have hl:bJ X.K X.mg EE m σ H D.rt:=by
  obtain ⟨τ,ρ,G,ab,ok⟩:=oH (k:=λτ d G=>.rt d G) h
  refine ⟨τ,ρ,G,ab,?_⟩
  cases e:m τ G with
  | stuck=>rw [e] at ok;exact ok
  | bH c G'=>rw [e] at ok;exact ok
  | ok d G'=>
   rw [e] at ok
   intro v H' ρ' f' aZ r'
   obtain ⟨τ2,ρ2,G2,d2,bV,r2,aK⟩:=ok v H' ρ' f' aZ r'
   exact aK v H' ρ2 .refl bV.hp r2
 refine aaF (abF (cY (he pins s σ H _ I hl) λv s1 zz=>?_))
 obtain ⟨x,H1,I1,r1,q1⟩:=zz
 exact ⟨x,H1,⟨I1.os,I1.bare,I1.base,I1.hok⟩,r1,q1⟩
end
structure Bv where
 P:Xx
 w:XR
 K:WV
 mg:Str→Option V0
 base:Heap
noncomputable def iN (g:Bv) (x:Str) (k n:Nat) (m:List D→M D):Prop:=∃ f fd ps,kj g.P g.w g.K g.mg g.base (nj g.P g.w) k f fd ps (gC g.K g.mg n m)∧g.mg x=some (.ref f)∧XX g.K (.ref f)=true∧Binds g.K fd ps []
noncomputable def GN (g:Bv) (y:Str) (k n:Nat) (m:List D→M D):Prop:=∃ c,nh g.K g.mg y=some c∧zb g.P g.w g.K g.mg g.base (nj g.P g.w) k c n m
noncomputable def NY (g:Bv) (x:Str):Prop:=∃ f,g.mg x=some (.ref f)
noncomputable def Ij (x:Str):Bool:=!(x=="__debug__")&&!(x=="__classdict__")
noncomputable def qF (sc:Scope) (x:Str) (k:NameKind):Bool:=decide (sc.names.lookup x=some k)
noncomputable def yf (sc:Scope) (N:List Str):List (Option Str):=N.map λx=>if (qF sc x .local||qF sc x .cell||qF sc x .free)=true then some x else none
noncomputable def AS (c:Bool) (sc:Scope) (N:List Str):List (Option Str):=N.map λx=>if (qF sc x .local||(c&&qF sc x .cell))=true then some x else none
noncomputable def Dk (scope:Scope) (xs N:List Str):List (Option Str):=xs.map some++N.map λx=>if qF scope x .free=true then some x else none
structure Cf (X:Cx) (EE:cz) (g:Bv) (k:Nat) (B:List Str) (sc:Scope) (V W:List (Option Str)):Prop where
 eq:X.prog=g.P∧X.w=g.w∧X.K=g.K∧X.mg=g.mg∧X.base=g.base
 vis:∀ (i:Nat) (x:Str),V[i]?=some (some x)→X.N[i]?=some x∧Bx X.env.scope x
 gl:∀ x,qF sc x .globalImplicit=true→Gl X x
 st:∀ (i:Nat) (x:Str),W[i]?=some (some x)→X.N[i]?=some x∧Loc X.env.scope x∧(X.fn x=true∨X.env.scope.names.lookup x=some .local)
 bl:∀ b,B.contains b=true→X.mg b=none
 hx:fM X EE
 hr:cZ k X.A
 hc:X.calm=true
structure Cs (X:Cx) (sc:Scope) (N:List Str):Prop where
 nd:X.N.Nodup
 hf:lG X
 po:PassesOwn (model X.prog X.w) X.A X.env X.xe
 hs:X.env.scope=sc
 hN:X.N=N
 bk:(X.env.blockKind==.function)=true
theorem dR {a b:Bool} (h:(a&&b)=true):a=true∧b=true:=by simpa using h
theorem bS {a b:Prop} (h:a) (k:a→b):b:=k h
theorem zh (h:Ij x=true):DN x:=by
 obtain ⟨h1,h2⟩:=dR h
 exact ⟨by simpa using h1,by simpa using h2⟩
theorem map_some {α:Type} {f:α→Bool} {l:List α} {x:α} (h:(l.map λx=>if f x=true then some x else none)[i]?=some (some x)):l[i]?=some x∧f x=true:=by
 rw [Xn] at h
 cases e:l[i]? with
 | none=>rw [e] at h;cases h
 | some y=>
  rw [e] at h
  dsimp only [Option.map] at h
  by_cases q:f y=true
  ·rw [if_pos q] at h;cases h;exact ⟨rfl,q⟩
  ·rw [if_neg q] at h;cases h
theorem jz {k:NameKind} (h:qF sc x k=true):sc.names.lookup x=some k:=of_decide_eq_true h
section
variable {X:Cx} {EE:cz} {g:Bv} {k k' n i j:Nat} {B N xs:List Str} {sc scope:Scope} {V W:List (Option Str)} {x y:Str} {pos p px py:Pos} {e a b elt tg iter:Expr} {es ifs:List Expr} {m:DS→M (List D)} {ma te:DS→M D} {mf:List D→M D} {ks:List Bool} {gO:D→Option (List D)} {tt:DS→M Bool} {mi:MI}
theorem Cf.hu (c:Cf X EE g k B sc V W):X.A.units+600<cLine:=FJ c.hr
theorem Cf.Q4 (c:Cf X EE g k B sc V W) (h:(decide (V[i]?=some (some x))&&Ij x)=true):(X.N[i]?=some x∧Bx X.env.scope x)∧DN x:=⟨c.vis i x (of_decide_eq_true (dR h).1),zh (dR h).2⟩
theorem GO (c:Cf X EE g k B sc V W) (h:(decide (V[i]?=some (some x))&&Ij x)=true):QE X EE (.Name x pos) (af i):=by
 obtain ⟨⟨h1,h2⟩,h3⟩:=c.Q4 h
 exact Kz i h2 h3 h1
theorem iN.at (c:Cf X EE g k B sc V W) (C:iN g x k' n mf) (h:k'≤k):∃ f fd ps,kj X.prog X.w X.K X.mg X.base (nj X.prog X.w) k' f fd ps (gC X.K X.mg n mf)∧cZ k' X.A∧X.mg x=some (.ref f)∧XX X.K (.ref f)=true∧Binds X.K fd ps []:=by
 obtain ⟨f,fd,ps,h1,h2,h3,h4⟩:=C
 have r:=c.hr.mono h
 obtain ⟨e1,e2,e3,e4,e5⟩:=c.eq
 rw [e1,e2,e3,e4,e5]
 exact ⟨f,fd,ps,h1,r,h2,h3,h4⟩
theorem vW (c:Cf X EE g k B sc V W) (C:iN g x k' n mf) (h:(decide (k'≤k)&&(qF sc x .globalImplicit&&(Ij x&&aq (e::es))))=true) (ha:QA X EE (e::es) m):QE X EE (.Call (.Name x p) (e::es) [] pos) (av n mf m):=by
 obtain ⟨h1,h⟩:=dR h
 obtain ⟨h2,h⟩:=dR h
 obtain ⟨h3,h4⟩:=dR h
 obtain ⟨f,fd,ps,q1,q2,q3,q4,q5⟩:=C.at c (of_decide_eq_true h1)
 exact FQ q1 q2 q3 q4 q5 (FF c.hx) (c.gl x h2) (zh h3) ha h4
theorem Ll (c:Cf X EE g k B sc V W) (C:NY g x) (h:(qF sc x .globalImplicit&&Ij x)=true):QE X EE (.Name x pos) (eC (.fn x)):=by
 obtain ⟨h2,h3⟩:=dR h
 obtain ⟨f,hf⟩:=C
 exact Nn (f:=f) (by rw [c.eq.2.2.2.1];exact hf) (c.gl x h2) (zh h3)
noncomputable def AU (g:Bv) (k n:Nat):List (Str×(List D→M D))→Prop
 | []=>True
 | q::r=>(∃ k',iN g q.1 k' n q.2∧k'≤k)∧AU g k n r
theorem AU.at (c:Cf X EE g k B sc V W):∀ {l:List (Str×(List D→M D))},AU g k n l→KN (nj X.prog X.w) X n l
 | [],h=>trivial
 | q::r,⟨⟨k',h1,h2⟩,hr⟩=>by
  obtain ⟨f,fd,ps,q1,q2,q3,q4,q5⟩:=h1.at c h2
  exact ⟨⟨k',f,fd,ps,q1,q2,q3,q4,q5⟩,AU.at c hr⟩
theorem AV {l:List (Str×(List D→M D))} (c:Cf X EE g k B sc V W) (C:AU g k n l) (h:((decide (V[i]?=some (some x))&&Ij x)&&aq (e::es))=true) (ha:QA X EE (e::es) m):QE X EE (.Call (.Name x p) (e::es) [] pos) (jb i n (λy=>XZ y l) m):=by
 obtain ⟨h1,h⟩:=dR h
 obtain ⟨⟨q1,q2⟩,q3⟩:=c.Q4 h1
 exact Cv q1 q2 q3 (Np (C.at c)) (FF c.hx) ha h
theorem AW {z:Nat} (c:Cf X EE g k B sc V W) (C:GN g y k' n mf) (h:((decide (V[i]?=some (some x))&&Ij x)&&(decide (k'≤k)&&aq (e::es)))=true) (ha:QA X EE (e::es) m):QE X EE (.Call (.Name x p) (e::es) [] pos) (kT i n (λw=>XZ w [(y,(z,mf))]) m):=by
 obtain ⟨h1,h⟩:=dR h
 obtain ⟨h2,h⟩:=dR h
 obtain ⟨⟨q1,q2⟩,q3⟩:=c.Q4 h1
 have r:=c.hr.mono (of_decide_eq_true h2)
 refine C6 (CX:=nj X.prog X.w) q1 q2 q3 (Q3 ?_) (FF c.hx) ha h
 obtain ⟨zc,z1,z2⟩:=C
 obtain ⟨e1,e2,e3,e4,e5⟩:=c.eq
 rw [e1,e2,e3,e4,e5]
 exact ⟨k',zc,z1,z2,r⟩
theorem Cf.NZ (c:Cf X EE g k B sc V W) (h:decide (W[i]?=some (some x))=true):X.N[i]?=some x∧Loc X.env.scope x∧(X.fn x=true∨X.env.scope.names.lookup x=some .local):=c.st i x (of_decide_eq_true h)
theorem GP (c:Cf X EE g k B sc V W) (s:Cs X scope N) (h:(decide (W[i]?=some (some x))&&mK a)=true) (he:QE X EE a ma):QS X EE (.Assign [.Name x px] a pos) (aN i ma):=by
 obtain ⟨h1,h2⟩:=dR h
 obtain ⟨q1,q2,q3⟩:=c.NZ h1
 exact KI s.nd q2 he q3 q1 h2
theorem Dl (c:Cf X EE g k B sc V W) (s:Cs X scope N) (h:decide (W[i]?=some (some x))=true):QG X (.Name x pos) (gN i):=by
 obtain ⟨q1,q2,q3⟩:=c.NZ h
 exact FU s.nd q2 q3 q1
theorem Dm {q:Nat} (c:Cf X EE g k B sc V W) (s:Cs X scope N) (h:(decide (W[i]?=some (some x))&&decide (W[j]?=some (some y)))=true):QG X (.Tuple [.Name x px,.Name y py] q pos) (gP i j):=by
 obtain ⟨h1,h2⟩:=dR h
 obtain ⟨q1,q2,q3⟩:=c.NZ h1
 obtain ⟨r1,r2,r3⟩:=c.NZ h2
 exact F2 c.hc s.nd q2 r2 q3 r3 q1 r1
noncomputable def Dn:MS:=λ_ _=>.stuck
theorem Dp {b:List Stmt}:uC X EE b Dn:=λ_ _ _ _ _ _ zz=>by obtain ⟨_,_,_,_,h⟩:=zz;exact h.elim
noncomputable def Ik (tg:Expr) (xs:List Str) (gO:D→Option (List D)):Prop:=(∃ x p,tg=.Name x p∧xs=[x]∧gO=oN)∨∃ x y p q k r,tg=.Tuple [.Name x p,.Name y q] k r∧xs=[x,y]∧gO=oT 2
theorem N1:Ik (.Name x q) [x] oN:=.inl ⟨_,_,rfl,rfl,rfl⟩
theorem N2 {r:Pos} {k:Nat}:Ik (.Tuple [.Name x p,.Name y q] k r) [x,y] (oT 2):=.inr ⟨_,_,_,_,_,_,rfl,rfl,rfl⟩
theorem pQ (c:X.calm=true) (h:Ik tg xs gO) (S:bf X.env.scope X.N scope xs ks):∃ ow,Own X scope xs ks tg ow∧iP X.K X.mg ow gO:=by
 rcases h with ⟨x,p,rfl,rfl,rfl⟩ | ⟨x,y,p,q,k,r,rfl,rfl,rfl⟩
 ·exact ⟨_,Cm S,Ak⟩
 ·exact ⟨_,Cn c S,Cp⟩
instance {a:Scope} {N:List Str} {b:Scope} {xs:List Str} {ks:List Bool}:Decidable (bf a N b xs ks):=
 decidable_of_iff (xs.Nodup∧b.kind=.function∧(∀ y∈b.names,y.2≠.cell)∧(∀ y∈b.names,y.2=.local→b.names.lookup y.1=some .local)∧(∀ x∈xs,b.names.lookup x=some .local)∧(∀ y∈b.names,y.2=.free→a.names.lookup y.1=some .cell∨a.names.lookup y.1=some .free)∧((ks.zip N).all λp=>!p.1||decide (b.names.lookup p.2=some .free))=true)
  ⟨λzz=>by obtain ⟨a,b,c,d,e,f,g⟩:=zz;exact ⟨a,b,c,d,e,f,g⟩,λzz=>by obtain ⟨a,b,c,d,e,f,g⟩:=zz;exact ⟨a,b,c,d,e,f,g⟩⟩
theorem nZ {OW:cz} (c:Cf X EE g k B sc V W) (s:Cs X sc N) (S:bf X.env.scope X.N scope xs ks) (hx:fM (lF X scope cl xs C pins s0 H0 fp E) OW) :
  Cf (lF X scope cl xs C pins s0 H0 fp E) OW g k B scope (Dk scope xs N) []:=by
 refine ⟨c.eq,λi x h=>?_,λx h=>FZ (jz h),λi x h=>by simp at h,c.bl,hx,c.hr,c.hc⟩
 unfold Dk at h
 by_cases q:i<xs.length
 ·rw [W7 (by simpa using q),Xn] at h
  cases e:xs[i]? with
  | none=>rw [e] at h;cases h
  | some z=>
   rw [e] at h;cases h
   exact ⟨by show (xs++X.N)[i]?=some x;rw [W7 q,e],KL S (XE e)⟩
 ·rw [Xm (by simpa using q),W8] at h
  obtain ⟨h1,h2⟩:=map_some h
  exact ⟨by show (xs++X.N)[i]?=some x;rw [Xm (by nofun),s.hN,h1],FY S (jz h2)⟩
noncomputable def Il (g:Bv) (k:Nat) (B:List Str) (scope:Scope) (xs N:List Str) (ifs:List Expr) (elt:Expr) (tt:DS→M Bool) (te:DS→M D):Prop:=
 ∀ (X:Cx) (EE:cz),Cf X EE g k B scope (Dk scope xs N) []→(match ifs with
  | []=>tt=bW
  | [c]=>QT X EE c tt
  | _=>False)∧QE X EE elt te
theorem Q5 (h:∀ (X:Cx) (EE:cz),Cf X EE g k B scope (Dk scope xs N) []→QE X EE elt te):Il g k B scope xs N [] elt bW te:=λX EE c=>⟨rfl,h X EE c⟩
theorem Q6 (h:∀ (X:Cx) (EE:cz),Cf X EE g k B scope (Dk scope xs N) []→QT X EE a tt∧QE X EE elt te):Il g k B scope xs N [a] elt tt te:=h
theorem jN (c:Cf X EE g k B sc V W) (s:Cs X sc N) (S:bf X.env.scope X.N scope xs ks) (h:Il g k B scope xs N ifs elt tt te):jH X scope xs ifs elt tt te:=by
 match ifs,h with
 | [],h=>
  have e:tt=bW:=(h _ _ (nZ (cl:=[]) (C:=0) (pins:=[]) (s0:=X.s₀) (H0:=X.H₀) (fp:=[]) (E:=λ_ _=>True) (OW:=EE) c s S (λ_ _ _ _ _ _ _ _ _ _ _=>trivial))).1
  subst e
  exact An λcl C pins s0 H0 fp E1 UN hx=>(h _ _ (nZ c s S hx)).2
 | [_],h=>exact Ao λcl C pins s0 H0 fp E1 UN hx=>h _ _ (nZ c s S hx)
 | _::_::_,h=>exact ((h _ _ (nZ (cl:=[]) (C:=0) (pins:=[]) (s0:=X.s₀) (H0:=X.H₀) (fp:=[]) (E:=λ_ _=>True) (OW:=EE) c s S (λ_ _ _ _ _ _ _ _ _ _ _=>trivial))).1).elim
theorem Cs.S (s:Cs X sc N) (h:bf sc N scope xs ks):bf X.env.scope X.N scope xs ks:=by rw [s.hs,s.hN];exact h
theorem vX (c:Cf X EE g k B sc V W) (s:Cs X sc N) (t:Ik tg xs gO) (S:bf sc N scope xs ks) (h:gX iter=true) (ha:QE X EE iter ma) (hb:Il g k B scope xs N ifs elt tt te):QE X EE (.ListComp elt [⟨tg,iter,ifs,0⟩] scope pos) (dF gO ks ma tt te):=by
 obtain ⟨_,o1,o2⟩:=pQ c.hc t (s.S S)
 exact FW c.hx s.hf (s.S S) o1 o2 c.hc ha (jN c s (s.S S) hb) h
theorem r6 (c:Cf X EE g k B sc V W) (s:Cs X sc N) (t:Ik tg xs gO) (S:bf sc N scope xs ks) (h:gX iter=true) (ha:QI X EE tg iter mi) (hb:Il g k B scope xs N ifs elt tt te):QE X EE (.ListComp elt [⟨tg,iter,ifs,0⟩] scope pos) (bZ gO ks mi tt te):=by
 obtain ⟨_,o1,o2⟩:=pQ c.hc t (s.S S)
 exact CC c.hx s.hf (s.S S) o1 o2 c.hc ha (jN c s (s.S S) hb) h
theorem pR (c:Cf X EE g k B sc V W) (s:Cs X sc N) (t:Ik tg xs gO) (S:bf sc N scope xs ks) (h:(B.contains "range"&&(qF sc "range" .globalImplicit&&bg a))=true) (ha:QA X EE [a] m) (hb:Il g k B scope xs N ifs elt tt te):QE X EE (.ListComp elt [⟨tg,.Call (.Name "range" p) [a] [] px,ifs,0⟩] scope pos) (cJ eV gO ks m tt te):=by
 obtain ⟨_,o1,o2⟩:=pQ c.hc t (s.S S)
 exact Av c.hx s.hf (s.S S) o1 o2 c.hc (c.bl _ (dR h).1) (c.gl _ (dR (dR h).2).1) ha (jN c s (s.S S) hb) (dR (dR h).2).2
theorem pS (c:Cf X EE g k B sc V W) (s:Cs X sc N) (t:Ik tg xs gO) (S:bf sc N scope xs ks) (h:((B.contains "range"&&qF sc "range" .globalImplicit)&&(bg a&&bg b))=true) (ha:QA X EE [a,b] m) (hb:Il g k B scope xs N ifs elt tt te):QE X EE (.ListComp elt [⟨tg,.Call (.Name "range" p) [a,b] [] px,ifs,0⟩] scope pos) (cJ nI gO ks m tt te):=by
 obtain ⟨_,o1,o2⟩:=pQ c.hc t (s.S S)
 exact Aw c.hx s.hf (s.S S) o1 o2 c.hc (c.bl _ (dR (dR h).1).1) (c.gl _ (dR (dR h).1).2) ha (jN c s (s.S S) hb) (dR (dR h).2).1 (dR (dR h).2).2
noncomputable def Sm (W:List (Option Str)) (sc scope:Scope) (i:Nat) (y:Str) (py pos:Pos):Bool:=(decide (W[i]?=some (some y))&&qF sc y .local)&&((py.line==pos.line)&&!(scope.names.any λx=>x.1==y&&(x.2==.local||x.2==.cell)))
theorem Cf.sw {l:Nat} (c:Cf X EE g k B sc V W) (s:Cs X sc N) (h:Sm W sc scope i y py pos=true):X.env.scope.names.lookup y=some .local∧swapsWith (.ListComp elt gens scope pos) (some (.Name y py)) l X.env=pure true∧X.N[i]?=some y:=by
 obtain ⟨h1,h2⟩:=dR h
 have hl:X.env.scope.names.lookup y=some .local:=by rw [s.hs];exact jz (dR h1).2
 exact ⟨hl,Ax s.bk hl (dR h2).1 (by simpa using (dR h2).2),(c.NZ (dR h1).1).1⟩
theorem r8 (c:Cf X EE g k B sc V W) (s:Cs X sc N) (t:Ik tg xs gO) (S:bf sc N scope xs ks) (h:(Sm W sc scope i y py pos&&gX iter)=true) (ha:QI X EE tg iter mi) (hb:Il g k B scope xs N ifs elt tt te):QS X EE (.Assign [.Name y py] (.ListComp elt [⟨tg,iter,ifs,0⟩] scope pos) spos) (aN i (bZ gO ks mi tt te)):=by
 obtain ⟨_,o1,o2⟩:=pQ c.hc t (s.S S)
 obtain ⟨w1,w2,w3⟩:=c.sw s (dR h).1
 exact CD c.hx s.hf (s.S S) o1 o2 c.hc s.nd w1 ha (jN c s (s.S S) hb) w2 w3 (dR h).2
end
theorem GQ {p:List V0→Prop} (h:∀ a0,p [a0]):∀ us:List V0,us.length=1→p us:=λus e=>by
 rcases us with _ | ⟨a0,_ | ⟨z,zs⟩⟩<;>first | exact h a0 | (cases e;done)
theorem GR {p:List V0→Prop} (h:∀ a0 a1,p [a0,a1]):∀ us:List V0,us.length=2→p us:=λus e=>by
 rcases us with _ | ⟨a0,_ | ⟨a1,_ | ⟨z,zs⟩⟩⟩<;>first | exact h a0 a1 | (cases e;done)
theorem GS {p:List V0→Prop} (h:∀ a0 a1 a2,p [a0,a1,a2]):∀ us:List V0,us.length=3→p us:=λus e=>by
 rcases us with _ | ⟨a0,_ | ⟨a1,_ | ⟨a2,_ | ⟨z,zs⟩⟩⟩⟩<;>first | exact h a0 a1 a2 | (cases e;done)
theorem Lm {p:List V0→Prop} (h:∀ a0 a1 a2 a3,p [a0,a1,a2,a3]):∀ us:List V0,us.length=4→p us:=λus e=>by
 rcases us with _ | ⟨a0,_ | ⟨a1,_ | ⟨a2,_ | ⟨a3,_ | ⟨z,zs⟩⟩⟩⟩⟩<;>first | exact h a0 a1 a2 a3 | (cases e;done)
noncomputable abbrev GU:=Str×Nat×List Str×Stmt
noncomputable def vY (K:WV) (mg:Str→Option V0) (x:Str) (n:Nat) (N:List Str) (st:Stmt):Prop:=∃ f fd,BN K x x st f fd∧mg x=some (.ref f)
noncomputable def qQ (K:WV) (mg:Str→Option V0):List GU→Prop
 | []=>True
 | (x,n,N,st)::r=>vY K mg x n N st∧qQ K mg r
section
variable {K:WV} {mg:Str→Option V0} {h:Heap} {x:Str} {n:Nat} {N:List Str} {st:Stmt}
theorem qQ.at:∀ {l:List GU} (T:qQ K mg l) (i:Nat) {x:Str} {n:Nat} {N:List Str} {st:Stmt},l[i]?=some (x,n,N,st)→vY K mg x n N st
 | d::l,T,0,_,_,_,_,h=>by cases h;exact T.1
 | d::l,T,i+1,_,_,_,_,h=>qQ.at T.2 i (by simpa using h)
theorem qQ.cons {l:List GU} (X:K.In h) (G:h.Ns mainGlobals mg) {f:Addr} {od an:Option Addr} {sl:Array (Option V0)} {oc kV dc pm cd ct:V0} (a:abS K mainGlobals x=some (some (.ref f)))
  (l0:K.lookup f=some ⟨oc,od,.func (Y3 x x (fK st) (bL st) (aF st) .none kV dc pm an cd ct),sl⟩) (c:aal K cd x=true) (k:XX K (.ref f)=true) (r:qQ K mg l):qQ K mg ((x,n,N,st)::l):=⟨⟨f,_,JE l0 c k,PySem.W.mg_of X G a⟩,r⟩
noncomputable def kB (mg:Str→Option V0):List Str→Prop
 | []=>True
 | x::r=>mg x=none∧kB mg r
theorem kB.cons {l:List Str} (X:K.In h) (G:h.Ns mainGlobals mg) (a:abS K mainGlobals x=some none) (r:kB mg l):kB mg (x::l):=⟨PySem.W.mg_none_of X G a,r⟩
theorem kB.at:∀ {l:List Str},kB mg l→∀ b,l.contains b=true→mg b=none
 | x::l,T,b,h=>by
  rw [List.contains_cons] at h
  cases e:b==x with
  | true=>rw [eq_of_beq e];exact T.1
  | false=>rw [e] at h;exact kB.at T.2 b (by simpa using h)
end
section
variable {g:Bv} {k n nn:Nat} {x:Str} {N B ps:List Str} {st:Stmt} {ms:MS} {me:DS→M D} {m:List D→M D} {c:gy}
noncomputable def yg (st:Stmt) (x:Str) (ps:List Str):Prop:=∀ (kV doc pm:V0) (an:Option Addr) (cdv ct:V0) (us:List V0),us.length=ps.length→bindArgs (Y3 x x (fK st) (bL st) (aF st) .none kV doc pm an cdv ct) ⟨us,[]⟩=pure (ps.zip us)
theorem Dq (h:(yf sc N)[i]?=some (some x)):N[i]?=some x∧Bx sc x:=by
 obtain ⟨h1,h2⟩:=map_some (f:=λx=>qF sc x .local||qF sc x .cell||qF sc x .free) h
 refine ⟨h1,?_⟩
 simp only [aaa] at h2
 rcases h2 with (h2 | h2) | h2
 ·exact .inl (jz h2)
 ·exact .inr (.inl (jz h2))
 ·exact .inr (.inr (jz h2))
theorem Dr {f:Addr} {E:XK} (hB:kB mg B)
  (hr:cZ k (A.deeper (Zb x sc s.heap.objs.size f cdv))) (hx:fM (oB (nj P w) P w K mg base N x sc f cdv A outer s H E) EE):Cf (oB (nj P w) P w K mg base N x sc f cdv A outer s H E) EE ⟨P,w,K,mg,base⟩ k B sc (yf sc N) (AS true sc N):=by
 refine ⟨⟨rfl,rfl,rfl,rfl,rfl⟩,λi x h=>Dq h,λx h=>jz h,λi x h=>?_,hB.at,hx,hr,rfl⟩
 obtain ⟨h1,h2⟩:=map_some (f:=λx=>qF sc x .local||(true&&qF sc x .cell)) h
 refine ⟨h1,?_,.inl rfl⟩
 simp only [aaa,Bool.true_and] at h2
 exact h2.imp jz jz
theorem Ds {cs:List Addr} {E:XK} (hB:kB mg B)
  (hr:cZ k (A.deeper (tS c cs s.heap.objs.size a c'))) (hx:fM (Gy (nj P w) P w K mg base N c cs a c' A outer s H E) EE):Cf (Gy (nj P w) P w K mg base N c cs a c' A outer s H E) EE ⟨P,w,K,mg,base⟩ k B c.scope (yf c.scope N) (AS false c.scope N):=by
 refine ⟨⟨rfl,rfl,rfl,rfl,rfl⟩,λi x h=>Dq h,λx h=>jz h,λi x h=>?_,hB.at,hx,hr,rfl⟩
 obtain ⟨h1,h2⟩:=map_some (f:=λx=>qF c.scope x .local||(false&&qF c.scope x .cell)) h
 have h3:qF c.scope x .local=true:=by simpa using h2
 exact ⟨h1,.inl (jz h3),.inr (jz h3)⟩
theorem zj (h:sc.kind=.function):((if sc.kind.isAnnotationScope then abC else sc.kind)==abC)=true:=by rw [h];rfl
theorem tW (Dd:vY g.K g.mg x n N st) (hB:kB g.mg B) (S:jZ N (N.take n) (aF st)) (hps:(N.take n).length=n) (hN:N.length=nn) (hb:yg st x (N.take n))
  (body:∀ (X:Cx) (EE:cz),Cf X EE g k B (aF st) (yf (aF st) N) (AS true (aF st) N)→Cs X (aF st) N→uC X EE (bL st) ms):iN g x (k+1) n (λds=>cI nn ms ds):=by
 obtain ⟨f,fd,F,hm⟩:=Dd
 refine ⟨f,fd,_,S5 (k:=k) (ms:=ms) F S hps hN (λ_=>rfl) ?_,hm,F.kp,F.binds hb⟩
 intro X EE cdv A outer s H E hX hr hx Ln
 subst hX
 exact body _ EE (Dr hB hr hx) ⟨S.nd,⟨_,outer,s.heap.objs.size,rfl,rfl,rfl⟩,Ln,rfl,rfl,zj S.kind⟩
theorem iN.pure (h:iN g x k n m):iN g x k n (cF m):=by
 obtain ⟨f,fd,ps,h1,h2⟩:=h
 exact ⟨f,fd,ps,h1.imp tM,h2⟩
theorem iN.fresh (h:iN g x k n m):iN g x k n (o8 m):=by
 obtain ⟨f,fd,ps,h1,h2⟩:=h
 exact ⟨f,fd,ps,h1.imp CJ,h2⟩
theorem vY.has (h:vY g.K g.mg x n N st):NY g x:=by
 obtain ⟨f,_,_,h⟩:=h
 exact ⟨f,h⟩
theorem GV {f:Addr} (F:BN g.K x x st f fd) (hB:kB g.mg B) (S:jM N (N.take n) [] (aF st)) (hps:(N.take n).length=n) (h0:0<n) (hN:N.length=nn)
  (body:∀ (X:Cx) (EE:cz),Cf X EE g k B (aF st) (yf (aF st) N) (AS false (aF st) N)→Cs X (aF st) N→uC X EE (bL st) ms):kD g.P g.w g.K g.mg g.base (nj g.P g.w) (k+1) f fd (N.take n) (gC g.K g.mg n (cF λds G=>iU (cI nn ms ds G))):=by
 refine kD.imp (NV (k:=k) (ms:=ms) F S hps h0 hN (λ_ _=>rfl) ?_) tM
 intro X EE c A outer s H E hX hr hx Ln
 subst hX
 exact body _ EE (Ds hB hr hx) ⟨S.nd,⟨_,outer,s.heap.objs.size,rfl,rfl,rfl⟩,Ln,rfl,rfl,zj S.kind⟩
theorem AX {f:Addr} (F:BN K x x st f fd) (hb:yg st x [y]) (s:WT) (u:V0):BindsTo s fd ⟨[u],[]⟩ [(y,u)]:=by
 obtain ⟨oc,od,kV,doc,pm,an,cdv,ct,osl,rfl,lk,hcd⟩:=F.ex
 exact .of_eq (hb kV doc pm an cdv ct [u] rfl)
theorem GW {bd:Expr} (Dd:vY g.K g.mg x n' N' st) (hB:kB g.mg B) (hk:gT x (bL st)=some c) (S:jM N (N.take n) c.names c.scope) (hps:(N.take n).length=n) (hN:N.length=nn)
  (hb:∀ (doc pm ctv:V0) (c':Addr) (cs:List Addr) (us:List V0),us.length=(N.take n).length→bindArgs (uW c cs doc pm c' ctv) ⟨us,[]⟩=pure ((N.take n).zip us)) (hbd:c.body=.expr bd)
  (body:∀ (X:Cx) (EE:cz),Cf X EE g k B c.scope (yf c.scope N) (AS false c.scope N)→Cs X c.scope N→QE X EE bd me):GN g x (k+1) n (λds G=>iU (AK nn me ds G)):=by
 obtain ⟨f,fd,F,hm⟩:=Dd
 refine ⟨c,ye F hm hk,Gz (k:=k) (me:=me) S hps hN (λ_ _=>rfl) (λa b c d e f _=>hb a b c d e f) hbd ?_⟩
 intro X EE cs a c' A outer s H E hX hr hx Ln
 subst hX
 exact body _ EE (Ds hB hr hx) ⟨S.nd,⟨_,outer,s.heap.objs.size,rfl,rfl,rfl⟩,Ln,rfl,rfl,zj S.kind⟩
noncomputable def N3 (g:Bv) (y:Str) (c P:Addr):Prop:=YG g.K y=some (c,P)∧Zf g.base c P∧g.base.BuiltinsAt g.mg P
theorem get_map {β:Type} {f:α→Option β} {l:List α} {r:List β} (h:l.map f=r.map some) {i:Nat} {a:α} (e:l[i]?=some a):∃ b,r[i]?=some b∧f a=some b:=by
 have q:(l.map f)[i]?=(r.map some)[i]?:=by rw [h]
 rw [Xn,Xn,e] at q
 cases z:r[i]? with
 | none=>rw [z] at q;cases q
 | some b=>rw [z] at q;exact ⟨b,rfl,by simpa using q⟩
structure Hl (X:Cx) (EE:cz) (k:gy) (y:Str) (js:List Nat):Prop where
 tx:∃ cs c P,ze X k y js cs c P
 hx:fM (Cx.held X k.names) EE
 hq:X.env.qual=y++".<locals>."
theorem GX {cs:Addr→List Addr} {P:Addr} (Dd:vY g.K g.mg x n N st) (hB:kB g.mg B) (ht:N3 g x c0 P) (hk:gT x (bL st)=some c) (S:jZ N (N.take n) (aF st)) (hps:(N.take n).length=n) (hN:N.length=nn) (hb:yg st x (N.take n))
  (hcl:∀ (L f:Addr) (v:V0),closureFor c.scope (Zb x (aF st) L f v)=pure (c.names.zip (cs L))) (hnd:∀ L,(cs L).Nodup) (hcs:∀ L,(c.names.map λz=>(cellsFrom (L+1) (aF st).names []).lookup z)=(cs L).map some) (NQ:(js.map λj=>N[j]?)=c.names.map some) (hcell:∀ z∈c.names,(aF st).names.lookup z=some .cell)
  (body:∀ (X:Cx) (EE:cz),Cf X EE g k B (aF st) (yf (aF st) N) (AS true (aF st) N)→Cs X (aF st) N→Hl X EE c x js→C7 X EE (bL st) ms):iN g x (k+1) n (cF λds G=>iU (cI nn ms ds G)):=by
 obtain ⟨f,fd,F,hm⟩:=Dd
 obtain ⟨t1,t2,t3⟩:=ht
 refine ⟨f,fd,_,kj.imp (QZ (k:=k) (ms:=ms) F S hps hN (λ_ _=>rfl) t1 hm ?_) tM,hm,F.kp,F.binds hb⟩
 intro X EE A outer s H E hX hr hx hxs Ln
 subst hX
 have hl:∀ L,(cs L).length=c.names.length:=λL=>by have:=congrArg ZF (hcs L);simpa using this.symm
 exact body _ EE (Dr hB hr hx) ⟨S.nd,⟨_,outer,s.heap.objs.size,rfl,rfl,rfl⟩,Ln,rfl,rfl,zj S.kind⟩
  ⟨⟨cs s.heap.objs.size,c0,P,ye F hm hk,rfl,t1,t2,t3,hcl _ _ _,hl _,hnd _,λl z e=>get_map (hcs _) e,by simpa using congrArg ZF NQ,λl j z e1 e2=>by
   obtain ⟨b,q1,q2⟩:=get_map NQ e1
   rw [e2] at q1;cases q1;exact q2,hcell,λ_=>rfl⟩,hxs _,rfl⟩
end
section
variable {X:Cx} {EE:cz} {g:Bv} {k k' n i:Nat} {B N:List Str} {sc:Scope} {V W:List (Option Str)} {x y:Str} {pos p:Pos} {e bd:Expr} {es:List Expr} {m:DS→M (List D)} {mf:List D→M D} {c:gy} {js:List Nat}
theorem Dt (h:Hl X EE c y js) (he:e=.Lambda c.params bd c.scope c.pos) (hbd:c.body=.expr bd) (hnm:c.name="<lambda>") (hdef:defaultsOf c.params X.env=([],[])) (hq:y++".<locals>."++"<lambda>"=c.qual):GB X c.names EE e (AO y js):=by
 obtain ⟨cs,c0,P,T⟩:=h.tx
 exact GC he hbd hnm T hdef (by rw [h.hq];exact hq)
theorem Du {m:DS→M D} (h:Hl X EE c y js) (he:GB X c.names EE e m):C7 X EE [.Return (some e) pos] (cj m):=GL he
theorem AY (f:Cf X EE g k B sc V W) (l:Hl X EE c y js) (C:iN g x k' n mf) (h:(decide (k'≤k)&&(qF sc x .globalImplicit&&(Ij x&&aq (e::es))))=true) (ha:NT X c.names EE (e::es) m):GB X c.names EE (.Call (.Name x p) (e::es) [] pos) (av n mf m):=by
 obtain ⟨h1,h⟩:=dR h
 obtain ⟨h2,h⟩:=dR h
 obtain ⟨h3,h4⟩:=dR h
 obtain ⟨_,fd,ps,q1,q2,q3,q4,q5⟩:=C.at f (of_decide_eq_true h1)
 exact Df q1 q2 q3 q4 q5 (FF l.hx) (f.gl x h2) (zh h3) ha h4
end
section
variable {τ r:DS} {G:DH} {x y d:D} {f:D→D→M D} {ma mb:DS→M D} {ml:DS→M (List D)} {a b c e g h i j k l m n o:Option D}
@[simp high] theorem V8:(a::r)[0]?=some a:=W6 rfl rfl
@[simp high] theorem V9 {w:Option D}:(a::r).set 0 w=w::r:=W6 rfl rfl
@[simp high] theorem NB:af 0 (some x::r) G=.ok x G:=W6 rfl rfl
@[simp high] theorem UO:ak f (af 0) (eC d) (some x::r) G=f x d G:=W6 rfl rfl
@[simp high] theorem UP:ak f (af 0) mb (some x::r) G=(mb (some x::r) G).bd (f x):=ai
@[simp high] theorem Sn:aa (af 0) ml (some x::r) G=(ml (some x::r) G).bd λz=>M.ret (x::z):=ai
@[simp high] theorem Wa:(a::b::r)[1]?=some b:=W6 rfl rfl
@[simp high] theorem Wb {w:Option D}:(a::b::r).set 1 w=a::w::r:=W6 rfl rfl
@[simp high] theorem OX:af 1 (a::some x::r) G=.ok x G:=W6 rfl rfl
@[simp high] theorem N4:ak f (af 1) (eC d) (a::some x::r) G=f x d G:=W6 rfl rfl
@[simp high] theorem Wc:ak f (af 1) mb (a::some x::r) G=(mb (a::some x::r) G).bd (f x):=ai
@[simp high] theorem UQ:aa (af 1) ml (a::some x::r) G=(ml (a::some x::r) G).bd λz=>M.ret (x::z):=ai
@[simp high] theorem So:(a::b::c::r)[2]?=some c:=W6 rfl rfl
@[simp high] theorem Sq {w:Option D}:(a::b::c::r).set 2 w=a::b::w::r:=W6 rfl rfl
@[simp high] theorem OT:af 2 (a::b::some x::r) G=.ok x G:=W6 rfl rfl
@[simp high] theorem UR:ak f (af 2) (eC d) (a::b::some x::r) G=f x d G:=W6 rfl rfl
@[simp high] theorem Wd:ak f (af 2) mb (a::b::some x::r) G=(mb (a::b::some x::r) G).bd (f x):=ai
@[simp high] theorem US:aa (af 2) ml (a::b::some x::r) G=(ml (a::b::some x::r) G).bd λz=>M.ret (x::z):=ai
@[simp high] theorem We:(a::b::c::e::r)[3]?=some e:=W6 rfl rfl
@[simp high] theorem UT {w:Option D}:(a::b::c::e::r).set 3 w=a::b::c::w::r:=W6 rfl rfl
@[simp high] theorem Q7:af 3 (a::b::c::some x::r) G=.ok x G:=W6 rfl rfl
@[simp high] theorem Lo:ak f (af 3) (eC d) (a::b::c::some x::r) G=f x d G:=W6 rfl rfl
@[simp high] theorem Wf:ak f (af 3) mb (a::b::c::some x::r) G=(mb (a::b::c::some x::r) G).bd (f x):=ai
@[simp high] theorem UU:aa (af 3) ml (a::b::c::some x::r) G=(ml (a::b::c::some x::r) G).bd λz=>M.ret (x::z):=ai
@[simp high] theorem Wg:(a::b::c::e::g::r)[4]?=some g:=W6 rfl rfl
@[simp high] theorem Ss {w:Option D}:(a::b::c::e::g::r).set 4 w=a::b::c::e::w::r:=W6 rfl rfl
@[simp high] theorem Su:af 4 (a::b::c::e::some x::r) G=.ok x G:=W6 rfl rfl
@[simp high] theorem UW:ak f (af 4) (eC d) (a::b::c::e::some x::r) G=f x d G:=W6 rfl rfl
@[simp high] theorem UX:ak f (af 4) mb (a::b::c::e::some x::r) G=(mb (a::b::c::e::some x::r) G).bd (f x):=ai
@[simp high] theorem Wh:aa (af 4) ml (a::b::c::e::some x::r) G=(ml (a::b::c::e::some x::r) G).bd λz=>M.ret (x::z):=ai
@[simp high] theorem Wi:(a::b::c::e::g::h::r)[5]?=some h:=W6 rfl rfl
@[simp high] theorem UY {w:Option D}:(a::b::c::e::g::h::r).set 5 w=a::b::c::e::g::w::r:=W6 rfl rfl
@[simp high] theorem LY:af 5 (a::b::c::e::g::some x::r) G=.ok x G:=W6 rfl rfl
@[simp high] theorem UZ:ak f (af 5) (eC d) (a::b::c::e::g::some x::r) G=f x d G:=W6 rfl rfl
@[simp high] theorem Wj:ak f (af 5) mb (a::b::c::e::g::some x::r) G=(mb (a::b::c::e::g::some x::r) G).bd (f x):=ai
@[simp high] theorem Wl:aa (af 5) ml (a::b::c::e::g::some x::r) G=(ml (a::b::c::e::g::some x::r) G).bd λz=>M.ret (x::z):=ai
@[simp high] theorem Wm:(a::b::c::e::g::h::i::r)[6]?=some i:=W6 rfl rfl
@[simp high] theorem Wn {w:Option D}:(a::b::c::e::g::h::i::r).set 6 w=a::b::c::e::g::h::w::r:=W6 rfl rfl
@[simp high] theorem Wo:af 6 (a::b::c::e::g::h::some x::r) G=.ok x G:=W6 rfl rfl
@[simp high] theorem Q8:ak f (af 6) (eC d) (a::b::c::e::g::h::some x::r) G=f x d G:=W6 rfl rfl
@[simp high] theorem Wq:ak f (af 6) mb (a::b::c::e::g::h::some x::r) G=(mb (a::b::c::e::g::h::some x::r) G).bd (f x):=ai
@[simp high] theorem Wr:aa (af 6) ml (a::b::c::e::g::h::some x::r) G=(ml (a::b::c::e::g::h::some x::r) G).bd λz=>M.ret (x::z):=ai
@[simp high] theorem Ws:(a::b::c::e::g::h::i::j::r)[7]?=some j:=W6 rfl rfl
@[simp high] theorem U0 {w:Option D}:(a::b::c::e::g::h::i::j::r).set 7 w=a::b::c::e::g::h::i::w::r:=W6 rfl rfl
@[simp high] theorem Sv:af 7 (a::b::c::e::g::h::i::some x::r) G=.ok x G:=W6 rfl rfl
@[simp high] theorem U1:ak f (af 7) (eC d) (a::b::c::e::g::h::i::some x::r) G=f x d G:=W6 rfl rfl
@[simp high] theorem Sw:ak f (af 7) mb (a::b::c::e::g::h::i::some x::r) G=(mb (a::b::c::e::g::h::i::some x::r) G).bd (f x):=ai
@[simp high] theorem Wt:aa (af 7) ml (a::b::c::e::g::h::i::some x::r) G=(ml (a::b::c::e::g::h::i::some x::r) G).bd λz=>M.ret (x::z):=ai
@[simp high] theorem Wu:(a::b::c::e::g::h::i::j::k::r)[8]?=some k:=W6 rfl rfl
@[simp high] theorem Wv {w:Option D}:(a::b::c::e::g::h::i::j::k::r).set 8 w=a::b::c::e::g::h::i::j::w::r:=W6 rfl rfl
@[simp high] theorem Ww:af 8 (a::b::c::e::g::h::i::j::some x::r) G=.ok x G:=W6 rfl rfl
@[simp high] theorem N5:ak f (af 8) (eC d) (a::b::c::e::g::h::i::j::some x::r) G=f x d G:=W6 rfl rfl
@[simp high] theorem Wx:ak f (af 8) mb (a::b::c::e::g::h::i::j::some x::r) G=(mb (a::b::c::e::g::h::i::j::some x::r) G).bd (f x):=ai
@[simp high] theorem U3:aa (af 8) ml (a::b::c::e::g::h::i::j::some x::r) G=(ml (a::b::c::e::g::h::i::j::some x::r) G).bd λz=>M.ret (x::z):=ai
@[simp high] theorem Wy:(a::b::c::e::g::h::i::j::k::l::r)[9]?=some l:=W6 rfl rfl
@[simp high] theorem Wz {w:Option D}:(a::b::c::e::g::h::i::j::k::l::r).set 9 w=a::b::c::e::g::h::i::j::k::w::r:=W6 rfl rfl
@[simp high] theorem WA:af 9 (a::b::c::e::g::h::i::j::k::some x::r) G=.ok x G:=W6 rfl rfl
@[simp high] theorem U4:ak f (af 9) (eC d) (a::b::c::e::g::h::i::j::k::some x::r) G=f x d G:=W6 rfl rfl
@[simp high] theorem WB:ak f (af 9) mb (a::b::c::e::g::h::i::j::k::some x::r) G=(mb (a::b::c::e::g::h::i::j::k::some x::r) G).bd (f x):=ai
@[simp high] theorem WC:aa (af 9) ml (a::b::c::e::g::h::i::j::k::some x::r) G=(ml (a::b::c::e::g::h::i::j::k::some x::r) G).bd λz=>M.ret (x::z):=ai
@[simp high] theorem U5:(a::b::c::e::g::h::i::j::k::l::m::r)[10]?=some m:=W6 rfl rfl
@[simp high] theorem U6 {w:Option D}:(a::b::c::e::g::h::i::j::k::l::m::r).set 10 w=a::b::c::e::g::h::i::j::k::l::w::r:=W6 rfl rfl
@[simp high] theorem U7:af 10 (a::b::c::e::g::h::i::j::k::l::some x::r) G=.ok x G:=W6 rfl rfl
@[simp high] theorem Sx:ak f (af 10) (eC d) (a::b::c::e::g::h::i::j::k::l::some x::r) G=f x d G:=W6 rfl rfl
@[simp high] theorem U8:ak f (af 10) mb (a::b::c::e::g::h::i::j::k::l::some x::r) G=(mb (a::b::c::e::g::h::i::j::k::l::some x::r) G).bd (f x):=ai
@[simp high] theorem U9:aa (af 10) ml (a::b::c::e::g::h::i::j::k::l::some x::r) G=(ml (a::b::c::e::g::h::i::j::k::l::some x::r) G).bd λz=>M.ret (x::z):=ai
@[simp high] theorem Va:(a::b::c::e::g::h::i::j::k::l::m::n::r)[11]?=some n:=W6 rfl rfl
@[simp high] theorem Vb {w:Option D}:(a::b::c::e::g::h::i::j::k::l::m::n::r).set 11 w=a::b::c::e::g::h::i::j::k::l::m::w::r:=W6 rfl rfl
@[simp high] theorem Vc:af 11 (a::b::c::e::g::h::i::j::k::l::m::some x::r) G=.ok x G:=W6 rfl rfl
@[simp high] theorem Sy:ak f (af 11) (eC d) (a::b::c::e::g::h::i::j::k::l::m::some x::r) G=f x d G:=W6 rfl rfl
@[simp high] theorem Vd:ak f (af 11) mb (a::b::c::e::g::h::i::j::k::l::m::some x::r) G=(mb (a::b::c::e::g::h::i::j::k::l::m::some x::r) G).bd (f x):=ai
@[simp high] theorem Ve:aa (af 11) ml (a::b::c::e::g::h::i::j::k::l::m::some x::r) G=(ml (a::b::c::e::g::h::i::j::k::l::m::some x::r) G).bd λz=>M.ret (x::z):=ai
@[simp high] theorem Vf:(a::b::c::e::g::h::i::j::k::l::m::n::o::r)[12]?=some o:=W6 rfl rfl
@[simp high] theorem Vg {w:Option D}:(a::b::c::e::g::h::i::j::k::l::m::n::o::r).set 12 w=a::b::c::e::g::h::i::j::k::l::m::n::w::r:=W6 rfl rfl
@[simp high] theorem Vh:af 12 (a::b::c::e::g::h::i::j::k::l::m::n::some x::r) G=.ok x G:=W6 rfl rfl
@[simp high] theorem Sz:ak f (af 12) (eC d) (a::b::c::e::g::h::i::j::k::l::m::n::some x::r) G=f x d G:=W6 rfl rfl
@[simp high] theorem Vi:ak f (af 12) mb (a::b::c::e::g::h::i::j::k::l::m::n::some x::r) G=(mb (a::b::c::e::g::h::i::j::k::l::m::n::some x::r) G).bd (f x):=ai
@[simp high] theorem Vj:aa (af 12) ml (a::b::c::e::g::h::i::j::k::l::m::n::some x::r) G=(ml (a::b::c::e::g::h::i::j::k::l::m::n::some x::r) G).bd λz=>M.ret (x::z):=ai
@[simp high] theorem UG:ak f (eC x) (eC d) τ G=f x d G:=W6 rfl rfl
@[simp high] theorem WD:ak f (eC x) mb τ G=(mb τ G).bd (f x):=ai
@[simp] theorem WE:ak f ma (eC d) τ G=(ma τ G).bd λx=>f x d:=ai
@[simp high] theorem acl:aa (eC x) ml τ G=(ml τ G).bd λz=>M.ret (x::z):=ai
@[simp high] theorem WG:aa (eC x) ah τ G=.ok [x] G:=W6 rfl rfl
end
end L3
namespace K34
open PySem PySem.Spec L2 L3
noncomputable def top (i:Nat):Stmt:=PySem.Challenge.pw_pathshape_k34_looks_without_ways.main.body.getD i (.Pass ⟨0,0,0,0⟩)
noncomputable abbrev tX:Stmt:=top 1
noncomputable abbrev tY:Stmt:=top 2
noncomputable abbrev Dv:Stmt:=top 3
noncomputable abbrev tZ:Stmt:=top 5
noncomputable abbrev AZ:Stmt:=top 6
noncomputable abbrev A0:Stmt:=top 7
noncomputable abbrev mT:Stmt:=top 8
noncomputable abbrev pT:Stmt:=top 9
noncomputable abbrev pU:Stmt:=top 10
noncomputable abbrev GY:Stmt:=top 12
noncomputable abbrev yh:Stmt:=top 13
noncomputable abbrev t6:Stmt:=top 14
noncomputable abbrev t7:Stmt:=top 15
noncomputable abbrev ny:Stmt:=top 16
noncomputable abbrev lY:Stmt:=top 17
noncomputable abbrev yi:Stmt:=top 21
noncomputable abbrev t8:Stmt:=top 22
noncomputable abbrev t9:Stmt:=top 23
noncomputable abbrev vZ:Stmt:=top 24
noncomputable abbrev ua:Stmt:=top 25
noncomputable abbrev uc:Stmt:=top 26
noncomputable abbrev v5:Stmt:=top 27
noncomputable abbrev qR:Stmt:=top 28
noncomputable abbrev v7:Stmt:=top 29
noncomputable abbrev v8:Stmt:=top 30
noncomputable abbrev Im:Stmt:=top 31
noncomputable abbrev fk:Stmt:=(bL ny).getD 0 (.Pass ⟨0,0,0,0⟩)
noncomputable abbrev jO:gy:=⟨"<lambda>","truths_of.<locals>.<lambda>",GF (zg fk),.expr (GH (zg fk)),Di (zg fk),(zg fk).pos,["reached","kinds"]⟩
noncomputable abbrev ue:List Str:=["look"]
noncomputable def dX:MS:=aG (iO (fH (ak (fG false) (ak aT (af 0) (eC (.int 0))) (eC (.str "way")))) (Dn) (bI)) (aG (iO (fH (ak (Fd false) (ak aT (af 0) (eC (.int 0))) (aj bA (aa (eC (.str "not")) (aa (eC (.str "both")) (aa (eC (.str "either")) (ah))))))) (cj (eFn (aj mL (aa (eFn (j5 (af 0) (bY (eC (.int 1))) (cE))) (ah))))) (bI)) (cj (eFn (aj aP (ah)))))
noncomputable def bw (ds:List D):M D:=cF (λds=>cI 1 dX ds) ds
noncomputable abbrev A1:List Str:=["tree","place","k"]
noncomputable def gZ:MS:=aN 0 (ak aT (ak aT (af 0) (eC (.int 1))) (af 2))
noncomputable def mU:MS:=aG (gp (gN 2) (af 1) gZ) (cj (af 0))
noncomputable def dY (ds:List D):M D:=cF (λds=>cI 3 mU ds) ds
noncomputable abbrev pV:List Str:=["placed"]
noncomputable def g6:MS:=cj (eFn (bZ (oT 2) [true] (dP (aa (ak aT (ak aT (af 0) (eC (.int 1))) (eC (.int 1))) (ah))) (bW) (aj bA (aa (ak aE (ak aT (af 2) (eC (.int 0))) (aj bA (aa (af 0) (ah)))) (aa (af 1) (ah))))))
noncomputable def aW (ds:List D):M D:=cF (λds=>cI 1 g6 ds) ds
noncomputable abbrev uf:List Str:=["numbers","places"]
noncomputable def jf:MS:=cj (eFn (dF oN [true] (af 1) (bW) (vR (af 1) (af 0))))
noncomputable def dZ (ds:List D):M D:=cF (λds=>cI 2 jf ds) ds
noncomputable abbrev lZ:List Str:=["kinds","reached","look","parts"]
noncomputable def aU:MS:=aG (iO (fH (ak (fG false) (ak aT (af 2) (eC (.int 0))) (eC (.str "kind")))) (cj (eFn (dF oN [false,false,true] (af 0) (bW) (ak (fG false) (af 0) (ak aT (af 3) (eC (.int 1))))))) (bI)) (aG (iO (fH (ak (fG false) (ak aT (af 2) (eC (.int 0))) (eC (.str "not")))) (cj (eFn (dF oN [] (ak aT (af 3) (eC (.int 0))) (bW) (B9 (af 0))))) (bI)) (aG (iO (fH (ak (fG false) (ak aT (af 2) (eC (.int 0))) (eC (.str "both")))) (cj (eFn (bZ (oT 2) [] (iT (aa (ak aT (af 3) (eC (.int 0))) (aa (ak aT (af 3) (eC (.int 1))) (ah)))) (bW) (B8 (af 0) (af 1))))) (bI)) (aG (iO (fH (ak (fG false) (ak aT (af 2) (eC (.int 0))) (eC (.str "either")))) (cj (eFn (bZ (oT 2) [] (iT (aa (ak aT (af 3) (eC (.int 0))) (aa (ak aT (af 3) (eC (.int 1))) (ah)))) (bW) (MV (af 0) (af 1))))) (bI)) (aG (iO (fH (ak (fG false) (ak aT (af 2) (eC (.int 0))) (eC (.str "way")))) (Dn) (bI)) (cj (eFn (dF oN [] (af 0) (bW) (eC (.bl true)))))))))
noncomputable def dG (ds:List D):M D:=cF (λds=>cI 4 aU ds) ds
noncomputable abbrev yj:List Str:=["_law_cell","_law_k","_law_digit","_law_j","_law_number"]
noncomputable def gi:MS:=aN 2 (ak yQ (af 2) (eC (.int 840)))
noncomputable def gj:MS:=aG (aN 2 (af 0)) (fL eV (gN 3) (aa (ak eT (af 1) (eC (.int 46))) (ah)) gi)
noncomputable def jh:MS:=aG (aN 2 (eC (.int 0))) (aG (iO (fH (ak OG (af 0) (ak E9 (eC (.int 10)) (eC (.int 9))))) (gj) (bI)) (aG (iO (fH (ak rH (af 2) (eC (.int 0)))) (cj (ak eT (af 2) (eC (.int 840)))) (bI)) (aG (aN 4 (ak aE (ak aE (ak eT (af 0) (eC (.int 1000000007))) (ak Aa (eC (.int 7919)) (af 1))) (eC (.int 13)))) (aG (aN 4 (ak eT (ak Aa (af 4) (af 4)) (eC (.int 998244353)))) (cj (ak yQ (ak eT (ak Aa (af 4) (ak aE (ak aE (af 4) (ak Aa (eC (.int 16807)) (af 1))) (eC (.int 1)))) (eC (.int 1000000007))) (eC (.int 3))))))))
noncomputable def aB (ds:List D):M D:=cF (λds=>cI 5 jh ds) ds
noncomputable abbrev ug:List Str:=["_law_rows_here","_law_held","_law_trees_here","_law_deep","_law_kind","_law_parts","_law_tree"]
noncomputable def eW:MS:=aG (aN 5 (iI (af 1) (ak aE (af 3) (eC (.int 1))) (eFn (aj aP (ah))))) (aG (ju (eFn (aj aP (ah))) (af 1) (ak aE (af 3) (eC (.int 1)))) (aG (aN 6 (aj bA (aa (af 4) (aa (aj vH (aa (af 5) (ah))) (ah))))) (aG (ju (eFn (ak aE (iI (af 1) (af 3) (eFn (aj aP (ah)))) (eFn (aj aP (aa (af 6) (ah)))))) (af 1) (af 3)) (eU (bK "list" aS (af 2) (aa (af 6) (ah)))))))
noncomputable def ji:MS:=aG (aN 1 (vE)) (aG (aN 2 (aj aP (ah))) (aG (lI (gP 3 4) (CL (aa (af 0) (ah))) eW) (cj (eFn (aj kF (aa (af 2) (ah)))))))
noncomputable def gF (ds:List D):M D:=cF (λds=>cI 7 ji ds) ds
noncomputable abbrev uh:List Str:=["_law_rows_here","_law_spots_here","_law_deep","_law_kind","_law_last"]
noncomputable def bX:MS:=aG (aN 4 (ak aT (af 1) (gA (eC (.int 1))))) (iO (fH (ak rH (af 2) (aj cA (aa (af 4) (ah))))) (eU (bK "list" aS (af 1) (aa (ak aE (af 4) (aj bA (aa (eC (.int 0)) (ah)))) (ah)))) (eU (bK "list" aS (af 1) (aa (ak aE (eFn (j5 (af 4) (cE) (bY (ak kq (af 2) (eC (.int 1)))))) (aj bA (aa (ak aE (ak aT (af 4) (ak kq (af 2) (eC (.int 1)))) (eC (.int 1))) (ah)))) (ah)))))
noncomputable def jk:MS:=aG (aN 1 (aj aP (aa (aj bA (ah)) (ah)))) (aG (gp (gP 2 3) (eFn (j5 (af 0) (bY (eC (.int 1))) (cE))) bX) (cj (xm (af 1))))
noncomputable def jl (ds:List D):M D:=cF (λds=>cI 5 jk ds) ds
noncomputable abbrev um:List Str:=["top","parts_of","found","waiting","one"]
noncomputable def dz:MS:=aG (aN 4 (bK "list" kN (af 3) ah)) (aG (eU (bK "list" aS (af 2) (aa (af 4) (ah)))) (eU (bK "list" vz (af 3) (aa (eFn (aj kF (aa (jb 1 1 (λy=>XZ y [("placed_parts",aW),("look_parts",bw)]) (aa (af 4) (ah))) (ah)))) (ah)))))
noncomputable def gG:MS:=aG (aN 2 (aj aP (ah))) (aG (aN 3 (aj aP (aa (af 0) (ah)))) (aG (fy (fH (ak rH (aj cA (aa (af 3) (ah))) (eC (.int 0)))) dz fuel) (cj (xm (af 2)))))
noncomputable def d7 (ds:List D):M D:=cF (λds=>cI 5 gG ds) ds
noncomputable abbrev mV:List Str:=["tree","place","above"]
noncomputable def d9:MS:=aG (iO (fH (ak (fG false) (af 1) (aj bA (ah)))) (cj (eFn (aj aP (ah)))) (bI)) (aG (aN 2 (eFn (j5 (af 1) (cE) (bY (gA (eC (.int 1))))))) (cj (eFn (cJ nI oN [false,false,true] (aa (ak aE (ak aT (af 1) (gA (eC (.int 1)))) (eC (.int 1))) (aa (aj cA (aa (ak aT (av 2 dY (aa (af 0) (aa (af 2) (ah)))) (eC (.int 1))) (ah))) (ah))) (bW) (ak aE (af 3) (aj bA (aa (af 0) (ah))))))))
noncomputable def cW (ds:List D):M D:=cF (λds=>cI 3 d9 ds) ds
noncomputable abbrev uo:List Str:=["_law_script","_law_start","_law_cells_here"]
noncomputable def jm:MS:=aG (aN 2 (eFn (bZ oN [true] (rS (aa (af 1) (aa (aj (gq λi j=>if j<i then j else i) (aa (aj cA (aa (af 0) (ah))) (aa (eC (.int 64)) (ah)))) (aa (eC (.int 2)) (ah))))) (bW) (ak aT (af 1) (af 0))))) (cj (eFn (ak aE (af 2) (eFn (cJ eV oN [true,true] (aa (ak kq (eC (.int 6)) (aj cA (aa (af 2) (ah)))) (ah)) (bW) (av 2 aB (aa (aj cA (aa (af 1) (ah))) (aa (ak aE (ak aE (eC (.int 40)) (af 2)) (af 0)) (ah)))))))))
noncomputable def gH (ds:List D):M D:=cF (λds=>cI 3 jm ds) ds
noncomputable abbrev uq:List Str:=["_law_cell","_law_names_here","_law_word","_law_j","_law_wide","_law_place","_law_k","_law_name"]
noncomputable def eX:MS:=aN 2 (ak aE (af 2) (ak aT (eC (.str "abcdefghijklmnopqrstuvwxyz")) (ak eT (av 2 aB (aa (af 0) (aa (ak aE (eC (.int 32)) (af 3)) (ah)))) (eC (.int 26)))))
noncomputable def iJ:MS:=aG (aN 2 (eC (.str "q"))) (aG (fL eV (gN 3) (aa (eC (.int 7)) (ah)) eX) (cj (eFn (cJ eV oN [true,false,true] (aa (eC (.int 5)) (ah)) (bW) (eFn (j5 (af 3) (cE) (bY (ak aE (ak aE (eC (.int 1)) (ak eT (av 2 aB (aa (af 1) (aa (eC (.int 43)) (ah)))) (eC (.int 4)))) (af 0)))))))))
noncomputable def eY:MS:=aN 7 (ak aE (af 7) (ak aT (eC (.str "abcdefghijklmnopqrstuvwxyz")) (ak eT (ak aE (av 2 aB (aa (af 0) (aa (ak aE (eC (.int 32)) (af 3)) (ah)))) (ak Aa (af 6) (aj rO (aa (ak (fG false) (af 3) (af 5)) (ah))))) (eC (.int 26)))))
noncomputable def eZ:MS:=aG (iO (fH (ak (Fd false) (af 7) (eFn (aj aP (aa (eC (.str "start")) (aa (eC (.str "rule")) (aa (eC (.str "row")) (aa (eC (.str "mix")) (aa (eC (.str "many")) (aa (eC (.str "any")) (aa (eC (.str "kind")) (aa (eC (.str "not")) (aa (eC (.str "both")) (aa (eC (.str "either")) (aa (eC (.str "way")) (aa (eC (.str "mark")) (ah))))))))))))))))) (aN 7 (ak aE (af 7) (eC (.str "z")))) (bI)) (eU (bK "list" aS (af 1) (aa (af 7) (ah))))
noncomputable def fh:MS:=aG (aN 7 (eC (.str ""))) (aG (fL eV (gN 3) (aa (af 4) (ah)) eY) (eZ))
noncomputable def gJ:MS:=aG (aN 1 (aj aP (ah))) (aG (iO (fH (ak (fG false) (ak eT (av 2 aB (aa (af 0) (aa (eC (.int 40)) (ah)))) (eC (.int 3))) (eC (.int 0)))) (iJ) (bI)) (aG (aN 4 (ak aE (eC (.int 1)) (ak eT (av 2 aB (aa (af 0) (aa (eC (.int 41)) (ah)))) (eC (.int 8))))) (aG (aN 5 (ak eT (av 2 aB (aa (af 0) (aa (eC (.int 42)) (ah)))) (af 4))) (aG (fL eV (gN 6) (aa (eC (.int 5)) (ah)) fh) (cj (xm (af 1)))))))
noncomputable def jn (ds:List D):M D:=cF (λds=>cI 8 gJ ds) ds
noncomputable abbrev v9:List Str:=["_law_cells_here","_law_names_here","_law_most_here","_law_rows_here","_law_cell","_law_many","_law_k","_law_deep"]
noncomputable def eg:MS:=aG (aN 7 (ak aE (eC (.int 1)) (ak eT (av 2 aB (aa (af 4) (aa (eC (.int 4)) (ah)))) (ak aE (ak aT (ak aT (af 3) (gA (eC (.int 1)))) (eC (.int 0))) (eC (.int 1)))))) (aG (iO (fH (ak rH (af 6) (eC (.int 0)))) (aN 7 (ak aE (ak aT (ak aT (af 3) (gA (eC (.int 1)))) (eC (.int 0))) (ak eT (av 2 aB (aa (af 4) (aa (eC (.int 6)) (ah)))) (eC (.int 2))))) (bI)) (iO (fH (ak BY (aj cA (aa (af 3) (ah))) (af 2))) (eU (bK "list" aS (af 3) (aa (aj bA (aa (af 7) (aa (ak aT (af 1) (ak eT (av 2 aB (aa (af 4) (aa (ak aE (eC (.int 7)) (af 6)) (ah)))) (eC (.int 4)))) (ah)))) (ah)))) (bI)))
noncomputable def fQ:MS:=aG (aN 5 (eC (.int 1))) (aG (iO (fH (ak (fG false) (ak eT (av 2 aB (aa (af 4) (aa (eC (.int 2)) (ah)))) (eC (.int 12))) (eC (.int 5)))) (aN 5 (ak aE (eC (.int 1)) (ak eT (av 2 aB (aa (af 4) (aa (eC (.int 3)) (ah)))) (eC (.int 24))))) (bI)) (fL eV (gN 6) (aa (af 5) (ah)) eg))
noncomputable def jP:MS:=aG (aN 3 (aj aP (aa (aj bA (aa (eC (.int 0)) (aa (ak aT (af 1) (ak eT (av 2 aB (aa (ak aT (af 0) (eC (.int 0))) (aa (eC (.int 1)) (ah)))) (eC (.int 4)))) (ah)))) (ah)))) (aG (gp (gN 4) (af 0) fQ) (cj (xm (af 3))))
noncomputable def jQ (ds:List D):M D:=cF (λds=>cI 8 jP ds) ds
noncomputable abbrev wc:List Str:=["_law_cell","_law_names_here","_law_rows_here","_law_kind","_law_bits","_law_j","_law_row"]
noncomputable def eB:MS:=aN 4 (ak NX (af 4) (ak pO (aj rO (aa (ak (fG false) (ak aT (af 6) (eC (.int 1))) (af 3)) (ah))) (af 5)))
noncomputable def iC:MS:=aG (iO (fH (ak (fG false) (ak eT (av 2 aB (aa (af 0) (aa (eC (.int 10)) (ah)))) (eC (.int 5))) (eC (.int 0)))) (cj (aj bA (aa (aj bA (aa (eC (.str "any")) (ah))) (aa (ak kq (ak pO (eC (.int 1)) (aj cA (aa (af 2) (ah)))) (eC (.int 1))) (aa (eC (.int 1)) (aa (eC (.int 1)) (ah))))))) (bI)) (aG (aN 3 (ak aT (af 1) (ak eT (av 2 aB (aa (af 0) (aa (eC (.int 14)) (ah)))) (eC (.int 5))))) (aG (aN 4 (eC (.int 0))) (aG (lI (gP 5 6) (dP (aa (af 2) (ah))) eB) (cj (aj bA (aa (aj bA (aa (eC (.str "kind")) (aa (af 3) (ah)))) (aa (af 4) (aa (eC (.int 1)) (aa (eC (.int 1)) (ah))))))))))
noncomputable def dS (ds:List D):M D:=cF (λds=>cI 7 iC ds) ds
noncomputable abbrev qS:List Str:=["_law_pile","_law_cell","_law_every","_law_way","_law_one","_law_other","_law_many","_law_deep"]
noncomputable def cX:MS:=aG (aN 5 (ak aT (af 0) (gA (eC (.int 2))))) (aG (aN 6 (ak aE (ak aE (ak aT (af 4) (eC (.int 2))) (ak aT (af 5) (eC (.int 2)))) (eC (.int 1)))) (aG (aN 7 (ak aE (aj (gq λi j=>if j > i then j else i) (aa (ak aT (af 4) (eC (.int 3))) (aa (ak aT (af 5) (eC (.int 3))) (ah)))) (eC (.int 1)))) (aG (iO (jF (fH (ak BY (af 6) (eC (.int 41)))) (jF (fH (ak BY (af 7) (eC (.int 13)))) (fH (ak (fG false) (af 3) (eC (.int 1)))))) (cj (eFn (aj aP (aa (aj bA (aa (aj bA (aa (eC (.str "both")) (aa (ak aT (af 5) (eC (.int 0))) (aa (ak aT (af 4) (eC (.int 0))) (ah))))) (aa (ak AR (ak aT (af 5) (eC (.int 1))) (ak aT (af 4) (eC (.int 1)))) (aa (af 6) (aa (af 7) (ah)))))) (ah))))) (bI)) (iO (jF (fH (ak BY (af 6) (eC (.int 41)))) (fH (ak BY (af 7) (eC (.int 13))))) (cj (eFn (aj aP (aa (aj bA (aa (aj bA (aa (eC (.str "either")) (aa (ak aT (af 5) (eC (.int 0))) (aa (ak aT (af 4) (eC (.int 0))) (ah))))) (aa (ak NX (ak aT (af 5) (eC (.int 1))) (ak aT (af 4) (eC (.int 1)))) (aa (af 6) (aa (af 7) (ah)))))) (ah))))) (bI)))))
noncomputable def br:MS:=aG (aN 3 (ak eT (av 2 aB (aa (af 1) (aa (eC (.int 11)) (ah)))) (eC (.int 6)))) (aG (aN 4 (ak aT (af 0) (gA (eC (.int 1))))) (aG (iO (jF (fH (ak (fG false) (af 3) (eC (.int 0)))) (jF (fH (ak BY (ak aT (af 4) (eC (.int 3))) (eC (.int 12)))) (fH (ak BY (ak aT (af 4) (eC (.int 2))) (eC (.int 40)))))) (cj (eFn (aj aP (aa (aj bA (aa (aj bA (aa (eC (.str "not")) (aa (ak aT (af 4) (eC (.int 0))) (ah)))) (aa (ak GI (af 2) (ak aT (af 4) (eC (.int 1)))) (aa (ak aE (ak aT (af 4) (eC (.int 2))) (eC (.int 1))) (aa (ak aE (ak aT (af 4) (eC (.int 3))) (eC (.int 1))) (ah)))))) (ah))))) (bI)) (aG (iO (jF (fH (ak BY (af 3) (eC (.int 3)))) (fH (ak rH (aj cA (aa (af 0) (ah))) (eC (.int 1))))) (cX) (bI)) (cj (eFn (aj aP (ah)))))))
noncomputable def bu (ds:List D):M D:=cF (λds=>cI 8 br ds) ds
noncomputable abbrev we:List Str:=["_law_script","_law_most_here","_law_head"]
noncomputable def iD:MS:=aG (aN 2 (av 2 aB (aa (aj tG (aa (eFn (j5 (af 0) (cE) (bY (eC (.int 1))))) (ah))) (aa (eC (.int 44)) (ah))))) (aG (iO (fH (ak (fG false) (ak eT (af 2) (eC (.int 4))) (eC (.int 1)))) (cj (ak aE (eC (.int 1)) (ak eT (ak yQ (af 2) (eC (.int 4))) (eC (.int 6))))) (bI)) (cj (af 1)))
noncomputable def jR (ds:List D):M D:=cF (λds=>cI 3 iD ds) ds
noncomputable abbrev nL:List Str:=["one","parts","reached","kinds"]
noncomputable def cP:DS→M D:=av 4 dG (aa (af 3) (aa (af 2) (aa (af 0) (aa (af 1) (ah)))))
noncomputable def bz (ds:List D):M D:=λG=>iU (AK 4 cP ds G)
noncomputable abbrev Dw:List Str:=["top","parts_of","make","made","one","parts","number"]
noncomputable def gR:MS:=eU (bK "list" aS (af 5) (aa (bK "list" kN (af 3) ah) (ah)))
noncomputable def cu:MS:=aG (aN 5 (aj aP (ah))) (aG (fL eV (gN 6) (aa (aj cA (aa (jb 1 1 (λy=>XZ y [("placed_parts",aW),("look_parts",bw)]) (aa (af 4) (ah))) (ah))) (ah)) gR) (eU (bK "list" aS (af 3) (aa (kT 2 2 (λy=>XZ y [("truths_of",(2,bz))]) (aa (af 4) (aa (xm (af 5)) (ah)))) (ah)))))
noncomputable def pW:MS:=aG (aN 3 (aj aP (ah))) (aG (lI (gN 4) (CL (aa (av 2 d7 (aa (af 0) (aa (af 1) (ah)))) (ah))) cu) (cj (ak aT (af 3) (eC (.int 0)))))
noncomputable def l5 (ds:List D):M D:=cI 7 pW ds
noncomputable abbrev pX:List Str:=["tree"]
noncomputable def g7:MS:=cj (av 2 d7 (aa (aj bA (aa (aj bA (ah)) (aa (af 0) (ah)))) (aa (eC (.fn "placed_parts")) (ah))))
noncomputable def cK (ds:List D):M D:=cF (λds=>cI 1 g7 ds) ds
noncomputable abbrev ur:List Str:=["tree"]
noncomputable def jo:MS:=cj (eFn (dF (oT 2) [] (av 1 cK (aa (af 0) (ah))) (bW) (af 0)))
noncomputable def aV (ds:List D):M D:=cF (λds=>cI 1 jo ds) ds
noncomputable abbrev yk:List Str:=["tree"]
noncomputable def kU:MS:=cj (eFn (dF (oT 2) [] (av 1 cK (aa (af 0) (ah))) (bW) (ak aT (af 1) (eC (.int 0)))))
noncomputable def fZ (ds:List D):M D:=cF (λds=>cI 1 kU ds) ds
noncomputable abbrev wg:List Str:=["kinds","reached","look"]
noncomputable def gk:MS:=cj (av 3 l5 (aa (af 2) (aa (eC (.fn "look_parts")) (aa (AO "truths_of" [1,0]) (ah)))))
noncomputable def dU (ds:List D):M D:=cF (λds G=>iU (cI 3 gk ds G)) ds
noncomputable abbrev A2:List Str:=["tree","go","place","part"]
noncomputable def iV:MS:=aG (iO (fH (ak (fG false) (af 1) (eC (.str "later")))) (cj (av 2 cW (aa (af 0) (aa (af 2) (ah))))) (bI)) (aG (aN 3 (av 2 dY (aa (af 0) (aa (af 2) (ah))))) (aG (iO (fH (ak (fG false) (af 1) (eC (.str "down")))) (cj (eFn (cJ eV oN [false,false,true] (aa (aj cA (aa (ak aT (af 3) (eC (.int 1))) (ah))) (ah)) (bW) (ak aE (af 3) (aj bA (aa (af 0) (ah))))))) (bI)) (cj (eFn (dF oN [false,false,true] (eFn (j5 (av 1 aV (aa (af 3) (ah))) (bY (eC (.int 1))) (cE))) (bW) (ak aE (af 3) (af 0)))))))
noncomputable def eE (ds:List D):M D:=cF (λds=>cI 4 iV ds) ds
noncomputable abbrev uu:List Str:=["tree","numbers","number","place","reached","go"]
noncomputable def dB:MS:=pL (af 2) (af 1) (af 3)
noncomputable def f9:MS:=ju (xm (bZ oN [true,true,false,false,false,true] (AJ (af 1)) (bW) (av 2 dZ (aa (af 2) (aa (av 3 eE (aa (af 1) (aa (af 6) (aa (af 0) (ah))))) (ah)))))) (af 4) (af 5)
noncomputable def gb:MS:=aG (aN 4 (vE)) (aG (gp (gN 5) (aj bA (aa (eC (.str "down")) (aa (eC (.str "deep")) (aa (eC (.str "later")) (ah))))) f9) (cj (af 4)))
noncomputable def jq:MS:=aG (aN 1 (x9)) (aG (lI (gP 2 3) (dP (aa (av 1 aV (aa (af 0) (ah))) (ah))) dB) (gb))
noncomputable def dm (ds:List D):M D:=cI 6 jq ds
noncomputable abbrev GZ:List Str:=["tree","look","truths"]
noncomputable def n8:MS:=aG (aN 2 (av 3 dU (aa (av 1 fZ (aa (af 0) (ah))) (aa (av 1 dm (aa (af 0) (ah))) (aa (af 1) (ah)))))) (cj (eFn (bZ (oT 2) [] (iT (aa (av 1 aV (aa (af 0) (ah))) (aa (af 2) (ah)))) (iH kr (af 1)) (af 0))))
noncomputable def n9 (ds:List D):M D:=cF (λds=>cI 3 n8 ds) ds
noncomputable def iW:MS:=aG (aN 2 (av 3 dU (aa (av 1 fZ (aa (af 0) (ah))) (aa (av 1 dm (aa (af 0) (ah))) (aa (af 1) (ah)))))) (cj (bZ (oT 2) [] (iT (aa (av 1 aV (aa (af 0) (ah))) (aa (af 2) (ah)))) (iH kr (af 1)) (af 0)))
noncomputable def j9 (ds:List D):M D:=o8 (λds=>cI 3 iW ds) ds
noncomputable abbrev wj:List Str:=["_law_tree","_law_item","_law_spots_here","_law_due","_law_told"]
noncomputable def gK:MS:=aG (aN 4 (av 2 j9 (aa (af 0) (aa (ak aT (af 1) (eC (.int 0))) (ah))))) (aG (iO (Fg (yR (iH kr (FA .lst (af 4)))) (fH (ak (fG true) (af 4) (af 3)))) (cj (eC (.bl false))) (bI)) (aG (eU (bK "list" aS (af 4) (aa (aj bA (ah)) (ah)))) (cj (ak (fG false) (av 2 n9 (aa (af 0) (aa (ak aT (af 1) (eC (.int 0))) (ah)))) (af 3)))))
noncomputable def iE:MS:=aG (aN 3 (eFn (bZ (oT 2) [false,true] (dP (aa (af 2) (ah))) (fH (ak (fG false) (ak AR (ak Dj (ak aT (af 3) (eC (.int 1))) (af 0)) (eC (.int 1))) (eC (.int 1)))) (af 1)))) (gK)
noncomputable def iF (ds:List D):M D:=cF (λds=>cI 5 iE ds) ds
noncomputable abbrev Io:List Str:=["_law_script","_law_names_here","_law_rows_here","_law_tree","_law_spots_here","_law_pile","_law_cell","_law_some","_law_item"]
noncomputable def pY:MS:=aG (eU (bK "list" kN (af 5) ah)) (aG (iO (fH (ak (fG true) (ak aT (ak aT (af 8) (eC (.int 0))) (eC (.int 0))) (eC (.str "not")))) (eU (bK "list" kN (af 5) ah)) (bI)) (eU (bK "list" aS (af 5) (aa (af 8) (ah)))))
noncomputable def kW:MS:=aG (aN 7 (eFn (aj aP (ah)))) (aG (iO (fH (ak rH (aj cA (aa (af 5) (ah))) (eC (.int 0)))) (aN 7 (av 3 bu (aa (af 5) (aa (af 6) (aa (ak kq (ak pO (eC (.int 1)) (aj cA (aa (af 2) (ah)))) (eC (.int 1))) (ah)))))) (bI)) (aG (gp (gN 8) (af 7) pY) (iO (fH (ak (fG false) (af 7) (eFn (aj aP (ah))))) (eU (bK "list" aS (af 5) (aa (av 3 dS (aa (af 6) (aa (af 1) (aa (af 2) (ah))))) (ah)))) (bI))))
noncomputable def mW:MS:=iO (yR (iH kr (av 3 iF (aa (af 3) (aa (af 8) (aa (af 4) (ah))))))) (cj (eC (.bl false))) (bI)
noncomputable def yl:MS:=aG (gp (gN 8) (eFn (j5 (af 5) (bY (gA (eC (.int 6)))) (cE))) mW) (cj (ak (fG false) (af 3) (ak aT (av 1 gF (aa (af 2) (ah))) (eC (.int 0)))))
noncomputable def pZ:MS:=aG (aN 1 (av 1 jn (aa (aj tG (aa (eFn (j5 (af 0) (cE) (bY (eC (.int 1))))) (ah))) (ah)))) (aG (aN 2 (av 3 jQ (aa (av 2 gH (aa (af 0) (aa (eC (.int 0)) (ah)))) (aa (af 1) (aa (av 2 jR (aa (af 0) (aa (eC (.int 40)) (ah)))) (ah)))))) (aG (aN 3 (ak aT (av 1 gF (aa (af 2) (ah))) (eC (.int 0)))) (aG (aN 4 (av 1 jl (aa (af 2) (ah)))) (aG (aN 5 (aj aP (ah))) (aG (gp (gN 6) (av 2 gH (aa (af 0) (aa (eC (.int 1)) (ah)))) kW) (yl))))))
noncomputable def Ip (ds:List D):M D:=cF (λds G=>iU (cI 9 pZ ds G)) ds
noncomputable def defs:List GU:=[("look_parts",1,ue,tX),("all_within",2,um,tY),("folded",3,Dw,Dv),("all_places",1,ur,tZ),("tree_at",2,A1,AZ),("gone_to",3,A2,A0),("later_brothers",2,mV,mT),("placed_trees",1,pX,pT),("placed_parts",1,pV,pU),("holds",2,GZ,GY),("kinds_in",1,yk,yh),("reached_in",1,uu,t6),("numbers_at",2,uf,t7),("truths_of",3,wg,ny),("truths_by_parts",4,lZ,lY),("_law_mix",2,yj,yi),("_law_cells",2,uo,t8),("_law_names",1,uq,t9),("_law_rows",3,v9,vZ),("_law_trees",1,ug,ua),("_law_spots",1,uh,uc),("_law_leaf",3,wc,v5),("_law_truths",3,qS,qR),("_law_same",3,wj,v7),("_law_most",2,we,v8),("law",1,Io,Im)]
noncomputable def Lp:List Str:=["any","enumerate","int","isinstance","len","list","max","min","range","reversed","sum","tuple","zip"]
structure Txt (g:Bv):Prop where
  D:qQ g.K g.mg defs
  B:kB g.mg Lp
  wk:∃ c P,N3 g "truths_of" c P
theorem Lq {g:Bv} (T:Txt g) {f:Addr} {fd:FuncData} (F:BN g.K "law" "law" Im f fd):kD g.P g.w g.K g.mg g.base (nj g.P g.w) 9 f fd ["_law_script"] (gC g.K g.mg 1 Ip):=by
 obtain ⟨_,_,_,_,_,_,_,_,_,_,_,_,_,_,_,_,_,_,_,_,_,_,_,_,_,_,_⟩:=T.D
 obtain ⟨_,_,wm⟩:=T.wk
 refine bS (a:=iN g "look_parts" 1 1 bw) ?_ λ_=>bS (a:=iN g "tree_at" 1 2 dY) ?_ λ_=>bS (a:=iN g "placed_parts" 1 1 aW) ?_ λ_=>bS (a:=iN g "numbers_at" 1 2 dZ) ?_ λ_=>bS (a:=iN g "truths_by_parts" 1 4 dG) ?_ λ_=>bS (a:=iN g "_law_mix" 1 2 aB) ?_ λ_=>bS (a:=iN g "_law_trees" 1 1 gF) ?_ λ_=>bS (a:=iN g "_law_spots" 1 1 jl) ?_ λ_=>bS (a:=iN g "all_within" 2 2 d7) ?_ λ_=>bS (a:=iN g "later_brothers" 2 2 cW) ?_ λ_=>bS (a:=iN g "_law_cells" 2 2 gH) ?_ λ_=>bS (a:=iN g "_law_names" 2 1 jn) ?_ λ_=>bS (a:=iN g "_law_rows" 2 3 jQ) ?_ λ_=>bS (a:=iN g "_law_leaf" 2 3 dS) ?_ λ_=>bS (a:=iN g "_law_truths" 2 3 bu) ?_ λ_=>bS (a:=iN g "_law_most" 2 2 jR) ?_ λ_=>bS (a:=GN g "truths_of" 2 2 bz) ?_ λ_=>bS (a:=iN g "folded" 3 3 l5) ?_ λ_=>bS (a:=iN g "placed_trees" 3 1 cK) ?_ λ_=>bS (a:=iN g "all_places" 4 1 aV) ?_ λ_=>bS (a:=iN g "kinds_in" 4 1 fZ) ?_ λ_=>bS (a:=iN g "truths_of" 4 3 dU) ?_ λ_=>bS (a:=iN g "gone_to" 5 3 eE) ?_ λ_=>bS (a:=iN g "reached_in" 6 1 dm) ?_ λ_=>bS (a:=iN g "holds" 7 2 n9) ?_ λ_=>bS (a:=iN g "holds" 7 2 j9) ?_ λ_=>bS (a:=iN g "_law_same" 8 3 iF) ?_ λ_=>?_
 all_goals
  first
   | (with_reducible show GN _ "truths_of" _ _ _);refine GW (x:="truths_of") (N:=nL) (c:=jO) (by assumption) T.B rfl ⟨rfl,rfl,rfl,by symm,rfl,by symm,by symm,by symm,by symm⟩ rfl rfl (by intro _ _ _ _ _;exact GR λ_ _=>rfl) rfl λX EE hV hS=>?_
   | (with_reducible show iN _ "truths_of" _ _ _);refine GX (x:="truths_of") (c:=jO) (js:=[1,0]) (cs:=λL=>[L+1+1,L+1]) (by assumption) T.B wm rfl ⟨rfl,rfl,rfl,by symm,rfl,by symm,by symm⟩ rfl rfl (by intro _ _ _ _ _ _;exact GS λ_ _ _=>rfl) (λ_ _ _=>rfl) (λL=>by simp) (λL=>rfl) rfl (by symm) λX EE hV hS hL=>?_
   | (with_reducible show kD _ _ _ _ _ _ _ _ _ _ _);refine GV (n:=1) (N:=Io) F T.B ⟨rfl,rfl,rfl,by symm,rfl,by symm,by symm,by symm,by symm⟩ rfl (by decide) rfl λX EE hV hS=>?_
   | refine iN.pure (tW (by assumption) T.B ⟨rfl,rfl,rfl,by symm,rfl,by symm,by symm⟩ rfl rfl (by intro _ _ _ _ _ _;first | exact GQ λ_=>rfl | exact GR λ_ _=>rfl | exact GS λ_ _ _=>rfl | exact Lm λ_ _ _ _=>rfl) λX EE hV hS=>?_)
   | refine iN.fresh (tW (by assumption) T.B ⟨rfl,rfl,rfl,by symm,rfl,by symm,by symm⟩ rfl rfl (by intro _ _ _ _ _ _;first | exact GQ λ_=>rfl | exact GR λ_ _=>rfl | exact GS λ_ _ _=>rfl | exact Lm λ_ _ _ _=>rfl) λX EE hV hS=>?_)
   | refine tW (by assumption) T.B ⟨rfl,rfl,rfl,by symm,rfl,by symm,by symm⟩ rfl rfl (by intro _ _ _ _ _ _;first | exact GQ λ_=>rfl | exact GR λ_ _=>rfl | exact GS λ_ _ _=>rfl | exact Lm λ_ _ _ _=>rfl) λX EE hV hS=>?_
  delta dX mU gZ g6 jf aU jh gi gj ji eW jk bX gG dz d9 jm gJ eX iJ eY eZ fh jP eg fQ iC eB br cX iD cP pW gR cu g7 jo kU gk iV jq dB f9 gb n8 iW iE gK pZ pY kW mW yl
  repeat' first
    | with_reducible first
      | refine GO hV ?_
      | refine Qg ?_ ?_ ?_
      | exact JT
      | exact JM
      | exact JN
      | refine Ct ?_ ?_ ?_
      | refine Ga ?_ ?_
      | refine KY ?_
      | refine Nv ?_
      | (show QE _ _ _ (av _ _ _));refine vW hV (by assumption) ?_ ?_
      | (show QE _ _ (.ListComp _ _ _ _) _);first | refine vX hV hS N1 ?_ ?_ ?_ ?_ | refine vX hV hS N2 ?_ ?_ ?_ ?_ | refine r6 hV hS N1 ?_ ?_ ?_ ?_ | refine r6 hV hS N2 ?_ ?_ ?_ ?_ | refine pR hV hS N1 ?_ ?_ ?_ ?_ | refine pR hV hS N2 ?_ ?_ ?_ ?_ | refine pS hV hS N1 ?_ ?_ ?_ ?_ | refine pS hV hS N2 ?_ ?_ ?_ ?_
      | (show QS _ _ (.Assign _ (.ListComp _ _ _ _) _) _);first | refine r8 hV hS N1 ?_ (by decide+kernel) ?_ ?_ | refine r8 hV hS N2 ?_ (by decide+kernel) ?_ ?_
      | (show QE _ _ _ (eC (.fn _)));refine Ll hV (vY.has (by assumption)) ?_
      | (show QE _ _ _ (kT _ _ _ _));refine AW hV (by assumption) ?_ ?_
      | (show QS _ _ _ (ju _ _ _));first | refine Gh hV.hu ?_ ?_ ?_ (by decide+kernel) | refine vF hV.hu ?_ ?_ ?_ (by with_unfolding_all exact rfl)
      | (show QS _ _ _ (pL _ _ _));refine C2 hV.hu ?_ ?_ ?_ ?_
      | (show GB _ _ _ _ (av _ _ _));refine AY hV hL (by assumption) ?_ ?_
      | refine KA ?_ ?_ ?_ ?_
      | exact B3 hV.hu
      | exact J6
      | exact J7
      | exact J8
      | exact JY hV.hu
      | exact J1 hV.hu
      | refine JU ?_
      | refine JW ?_
      | refine JR ?_ ?_
      | refine JP ?_ ?_
      | refine JQ ?_ ?_
      | refine Fb ?_ ?_
      | refine JS ?_ ?_
      | refine GJ ?_ ?_
      | refine Lh ?_ ?_
      | refine GK ?_ ?_
      | refine Li ?_ ?_
      | refine Lj ?_ ?_
      | refine Kd ?_
      | refine Kc ?_
      | refine B5 ?_ ?_ ?_
      | refine Ff ?_
      | exact Fe
      | refine KD (hV.bl _ ?_) (hV.gl _ ?_) ?_ ?_
      | refine KO (hV.bl _ ?_) (hV.gl _ ?_) ?_ ?_
      | refine KP hV.hc (hV.bl _ ?_) (hV.gl _ ?_) ?_ ?_
      | refine FO hV.hc (hV.bl _ ?_) (hV.gl _ ?_) ?_ ?_
      | refine FP hV.hc (hV.bl _ ?_) (hV.gl _ ?_) ?_ ?_
      | refine F0 (hV.bl _ ?_) (hV.gl _ ?_) ?_ ?_
      | refine xT hV.hc (hV.bl _ ?_) (hV.gl _ ?_) (hV.bl _ ?_) (hV.gl _ ?_) ?_ ?_
      | refine vI hV.hc (hV.bl _ ?_) (hV.gl _ ?_) (hV.bl _ ?_) (hV.gl _ ?_) ?_ ?_
      | refine KG _ ?_ (hV.bl _ ?_) (hV.bl _ ?_) (hV.gl _ ?_) (hV.gl _ ?_) ?_ ?_ ?_ ?_ ?_
      | refine Au ?_ ?_ ?_ ?_ ?_
      | refine Ge ?_ ?_ ?_ ?_ ?_
      | refine KH ?_ ?_ ?_
      | refine Gu hV.hu ?_ ?_ ?_
      | refine CP hV.hu ?_ ?_ ?_ ?_ ?_ ?_
      | exact Gg
      | exact C0
      | exact MN
      | refine AV hV ?_ ?_ ?_
      | refine MQ hV.hu ?_ ?_
      | refine Ka ?_ ?_
      | refine MW ?_ ?_
      | refine J9 ?_
      | refine Q5 λX EE hV=>?_
      | refine Q6 λX EE hV=>⟨?_,?_⟩
      | refine CS (hV.bl _ ?_) (hV.gl _ ?_) ?_ ?_
      | refine Gr (hV.bl _ ?_) (hV.gl _ ?_) ?_ ?_
      | refine K0 (hV.bl _ ?_) (hV.gl _ ?_) ?_ ?_
      | refine Gf (hV.bl _ ?_) (hV.gl _ ?_) ?_ ?_
      | refine Gx ?_
      | refine KC ?_ ?_
      | refine J4 ?_
      | refine J3 ?_ ?_
      | refine Fj ?_
      | refine MU ?_ ?_
      | refine J2 ?_
      | refine PY ?_
      | refine Ke ?_
      | refine MY ?_ ?_ ?_
      | refine FT ?_ ?_
      | refine Nz ?_
      | refine GP hV hS ?_ ?_
      | refine KJ hS.po hV.hc ?_ ?_ ?_ ?_
      | refine Cu hS.po hV.hc (hV.bl _ ?_) (hV.gl _ ?_) ?_ ?_ ?_ ?_
      | refine F1 hS.po hV.hc ?_ ?_ ?_ ?_
      | refine Dl hV hS ?_
      | refine Dm hV hS ?_
      | refine CA hS.po ?_ ?_
      | refine GD ?_ ?_
      | refine De ?_ ?_ ?_
      | exact trivial
    | (with_reducible show @Eq Bool _ true);kernel_rfl
    | decide+kernel
    | (with_reducible show EX _);exact λ_ _=>rfl
    | (with_reducible show uC _ _ _ _);first | with_reducible exact Dp | refine Fp ?_ | refine Cb ?_ ?_ | exact Fo
    | (with_reducible show AU _ _ _ _);first | exact trivial | refine ⟨⟨_,by assumption,by decide⟩,?_⟩
    | (with_reducible show C7 _ _ _ _);refine Du hL ?_
    | (with_reducible show GB _ _ _ _ _);exact Dt hL rfl rfl rfl rfl rfl
    | refine vW hV (by assumption) ?_ ?_
end K34
section
open PySem PySem.Spec L2 L3
local macro_rules
 | `(tactic| simp! [$a,*])=>`(tactic| simp [cG,kr,aT,aA,cH,gq,cA,aE,bA,cT,aS,kN,qI,LP,Ty.is,$a,*])
local macro_rules
 | `(tactic| dsimp! [$a,*])=>`(tactic| simp [cG,kr,aT,aA,cH,gq,cA,QL,bA,cT,aS,kN,qI,LP,Ty.is,$a,*])
namespace K34
open PySem PySem.Spec L2 L3
theorem wo (c k:Int) (n4:Option D):∀ (its:List D) (dg:Int) (j:Option D),0≤dg→∃ (OY:Int) (j':Option D),0≤OY∧∀ G,bC (gN 3) gi its [some (.int c),some (.int k),some (.int dg),j,n4] G=.nx [some (.int c),some (.int k),some (.int OY),j',n4] G
 | [],dg,j,h=>⟨dg,j,h,λG=>by rw [dO]⟩
 | x::its,dg,j,h=>by
  obtain ⟨OY,j',h',e⟩:=wo c k n4 its (dg / 840) (some x) (by nofun)
  refine ⟨OY,j',h',λG=>?_⟩
  rw [bE rfl]
  have e1:gi [some (.int c),some (.int k),some (.int dg),some x,n4] G=.nx [some (.int c),some (.int k),some (.int (dg / 840)),some x,n4] G:=by
   simp! [gi]
  simp only [Xq,Xp,e1,fP]
  exact e G
theorem ym (c k:Int) (hk:0≤k∧k<10000):∃ v:Int,0≤v∧∀ G,aB [.int c,.int k] G=.ok (.int v) G:=by
 obtain ⟨k0,k1⟩:=hk
 have hr:=iA (j:=k % 46) (by nofun) (by nofun)
 have key:∃ dg:Int,∃ j,0≤dg∧∀ G,(iO (fH (ak OG (af 0) (ak E9 (eC (.int 10)) (eC (.int 9))))) (gj) (bI)) [some (.int c),some (.int k),some (.int 0),none,none] G=.nx [some (.int c),some (.int k),some (.int dg),j,none] G:=by
  by_cases hc:(1000000000:Int)≤c
  ·obtain ⟨dg,j,h,e⟩:=wo c k none ((Xs 0 (k % 46).toNat).map λ(k:Nat)=>.int (0+(k:Int))) c none (by nofun)
   refine ⟨dg,j,h,λG=>?_⟩
   generalize ((Xs 0 (k % 46).toNat).map λ(k:Nat)=>D.int (0+(k:Int)))=its at hr e
   simp! [hc,gj,hr,e]
  ·refine ⟨0,none,by nofun,λG=>?_⟩
   simp! [hc]
 obtain ⟨dg,j,hd,e⟩:=key
 generalize hS:iO (fH (ak OG (af 0) (ak E9 (eC (.int 10)) (eC (.int 9))))) (gj) (bI)=S at e
 by_cases h0:0<dg
 ·refine ⟨dg % 840,by nofun,λG=>?_⟩
  refine aR ?_ bB
  unfold jh
  rw [hS]
  simp! [e,h0]
 ·have p0:0≤c % 1000000007:=by nofun
  have p1:c % 1000000007<1000000007:=by nofun
  generalize hy:c % 1000000007=y at p0 p1
  have a1:-18446744073709551616<y+7919*k+13:=by nofun
  have a2:y+7919*k+13<18446744073709551616:=by nofun
  generalize hz:y+7919*k+13=z at a1 a2
  have b1:0≤z*z % 998244353:=by nofun
  have b2:z*z % 998244353<998244353:=by nofun
  have b3:-18446744073709551616<z*z % 998244353:=by nofun
  have b4:z*z % 998244353<18446744073709551616:=by nofun
  generalize hu:z*z % 998244353=u at b1 b2 b3 b4
  refine ⟨u*(u+16807*k+1) % 1000000007 / 3,by nofun,λG=>?_⟩
  refine aR ?_ bB
  unfold jh
  rw [hS]
  have h0':dg≤0:=by nofun
  simp! [e,h0,h0',hy,hz,hu,a1,a2,b3,b4]
noncomputable def mx (c k:Int):Int:=if h:0≤k∧k<10000 then Classical.choose (ym c k h) else 0
theorem jS (c k:Int):0≤mx c k:=by
 unfold mx
 split
 ·rename_i h;exact (abd (ym c k h)).1
 ·nofun
theorem dW (c k:Int) (h0:0≤k) (h1:k<10000) (G:DH):aB [.int c,.int k] G=.ok (.int (mx c k)) G:=by
 have h:0≤k∧k<10000:=⟨h0,h1⟩
 unfold mx
 rw [dif_pos h]
 exact (abd (ym c k h)).2 G
theorem Q9 (n:Nat):HT.eG n n (some 1)=min 1 n:=HT.nO n n 1
theorem p5:∀ ns:List Int,intsOf (ns.map .int)=some ns
 | []=>rfl
 | n::ns=>by rw [WU,intsOf,p5 ns];rfl
theorem wu (ns:List Int) (τ:DS) (G:DH):∃ c:Int,aj tG (aa (eFn (j5 (af 0) (cE) (bY (eC (.int 1))))) (ah)) (some (.con (ns.map .int))::τ) G=.ok (.int c) G:=by
 have z1:(1:Nat)≤WO:=lz (by nofun)
 have e:cutD (ns.map D.int) none (some 1)=(ns.take 1).map .int:=by
  unfold cutD
  rw [Q9,HT.jD]
  cases ns<;>simp
 have hc:aD ((ns.take 1).map D.int)=true:=ay λ_=>bB
 have hz:((ns.take 1).map D.int).length≤WO:=X5 (by simp;nofun) z1
 have e1:eFn (j5 (af 0) (cE) (bY (eC (.int 1)))) (some (.con (ns.map .int))::τ) G=.ok (.con ((ns.take 1).map .int)) G:=by
  rw [bG]
  have e2:j5 (af 0) (cE) (bY (eC (.int 1))) (some (.con (ns.map .int))::τ) G=aP ((ns.take 1).map .int) G:=by
   simp! [uD,e]
  rw [e2,cU hz hc]
 refine ⟨(ns.take 1).sum,?_⟩
 simp! [e1,tG,p5,← List.map_take]
theorem G4 (ns:List Int) (G:DH):∃ m:Int,1≤m∧m≤100∧jR [.con (ns.map .int),.int 40] G=.ok (.int m) G:=by
 obtain ⟨c,e⟩:=wu ns [some (.int 40),none] G
 generalize hS:aj tG (aa (eFn (j5 (af 0) (cE) (bY (eC (.int 1))))) (ah))=S at e
 have hm:=dW c 44 (by nofun) (by nofun) G
 have hn:=jS c 44
 generalize mx c 44=v at hm hn
 by_cases h:v % 4=1
 ·refine ⟨1+v / 4 % 6,by nofun,by nofun,aR ?_ bB⟩
  unfold iD
  rw [hS]
  simp! [e,hm,cN,h]
 ·refine ⟨40,by nofun,by nofun,aR ?_ bB⟩
  unfold iD
  rw [hS]
  have h':(v % 4==1)=false:=by simpa using h
  simp! [e,hm,cN,h']
noncomputable def LZ (ns:List Int):D→D
 | .int j=>.int (ns.getD j.toNat 0)
 | _=>.eO
noncomputable def N6 (n s:Int):D→D
 | .int j=>.int (mx n (40+s+j))
 | _=>.eO
theorem zk (ns:List Int) (j:Nat) (h:j<ns.length):iL (ns.map D.int) (j:Int)=some (.int (ns.getD j 0)):=by
 refine f6 ?_
 rw [Xn,W2 h]
 simp [h]
theorem wz (ns:List Int) (hl:ns.length≤63) (s:Nat) (hs:s≤1) (G:DH):∃ xs:List Int,6≤xs.length∧xs.length≤40∧gH [.con (ns.map .int),.int s] G=.ok (.con (xs.map .int)) G:=by
 have hN:lT (s:Int) (ns.length:Int) 2≤32:=by
  unfold lT
  split<;>nofun
 have hI:∀ i:Nat,i<lT (s:Int) (ns.length:Int) 2→s+i*2<ns.length:=by
  intro i hi
  unfold lT at hi
  split at hi<;>nofun
 have h64:¬ ((64:Int)<(ns.length:Int)):=by nofun
 have Ra:(ns.length:Int)≤64:=by nofun
 generalize Vk:lT (s:Int) (ns.length:Int) 2=N at hN hI
 have q1:-1073741824≤(s:Int):=by nofun
 have q2:(s:Int)<1073741824:=by nofun
 have q3:-1073741824≤(ns.length:Int):=by nofun
 have q4:(ns.length:Int)<1073741824:=by nofun
 have c1:=bQ (τ:=[some (D.con (ns.map D.int)),some (.int (s:Int)),none]) (G:=G) (gO:=oN) (ks:=[true]) (te:=ak aT (af 1) (af 0)) (own:=λx=>[x]) (f:=LZ ns) ((Xz N).map λ(i:Nat)=>D.int ((s:Int)+(i:Int)*2)) [] (by simp;nofun) (λx _=>rfl) (λx hx acc=>by
  obtain ⟨i,hi,rfl⟩:=Xf.mp hx
  have hi':=hI i (abg.mp hi)
  have ea:=zk ns (s+i*2) hi'
  rw [show ((s+i*2:Nat):Int)=(s:Int)+(i:Int)*2 by nofun] at ea
  have et:((s:Int)+(i:Int)*2).toNat=s+i*2:=by nofun
  simp! [mask,ea,LZ,et])
 have e1:eFn (bZ oN [true] (rS (aa (af 1) (aa (aj (gq λi j=>if j<i then j else i) (aa (aj cA (aa (af 0) (ah))) (aa (eC (.int 64)) (ah)))) (aa (eC (.int 2)) (ah))))) (bW) (ak aT (af 1) (af 0))) [some (D.con (ns.map D.int)),some (.int (s:Int)),none] G=.ok (.con (((Xz N).map λ(i:Nat)=>D.int ((s:Int)+(i:Int)*2)).map (LZ ns))) G:=by
  rw [bG]
  have e2:bZ oN [true] (rS (aa (af 1) (aa (aj (gq λi j=>if j<i then j else i) (aa (aj cA (aa (af 0) (ah))) (aa (eC (.int 64)) (ah)))) (aa (eC (.int 2)) (ah))))) (bW) (ak aT (af 1) (af 0)) [some (D.con (ns.map D.int)),some (.int (s:Int)),none] G=.ok (.obj G.length) (G++[.lst (((Xz N).map λ(i:Nat)=>D.int ((s:Int)+(i:Int)*2)).map (LZ ns))]):=by
   simp only [Xd] at c1
   rw [← c1,← CW]
   simp! [ints3,h64,Ra,q1,q2,q3,q4,Vk]
  rw [e2,dQ]
  rw [Xo]
  exact ay λ_=>bB
 have Vl:((Xz N).map λ(i:Nat)=>D.int ((s:Int)+(i:Int)*2)).map (LZ ns)=((Xz N).map λi=>ns.getD (s+i*2) 0).map .int:=by
  rw [Xo,Xo]
  refine YD λi _=>?_
  have et:((s:Int)+(i:Int)*2).toNat=s+i*2:=by nofun
  simp only [ZD,LZ,et]
 rw [Vl] at e1
 generalize hX:(Xz N).map (λi=>ns.getD (s+i*2) 0)=X at e1
 have WH:X.length=N:=by rw [← hX];simp
 have hr:eV [.int (6 - (X.length:Int))]=some ((Xz (6 - (X.length:Int)).toNat).map λ(k:Nat)=>.int (0+(k:Int))):=by
  show (if -(2^62)≤(6 - (X.length:Int))∧(6 - (X.length:Int))<2^62 then some ((Xz (6 - (X.length:Int)).toNat).map λ(k:Nat)=>D.int (0+(k:Int))) else none)=_
  rw [if_pos ⟨by nofun,by nofun⟩]
 have c2:=bQ (τ:=[some (D.con (ns.map D.int)),some (.int (s:Int)),some (.con (X.map .int))]) (G:=G) (gO:=oN) (ks:=[true,true]) (te:=av 2 aB (aa (aj cA (aa (af 1) (ah))) (aa (ak aE (ak aE (eC (.int 40)) (af 2)) (af 0)) (ah)))) (own:=λx=>[x]) (f:=N6 ns.length s) ((Xz (6 - (X.length:Int)).toNat).map λ(k:Nat)=>D.int (0+(k:Int))) [] (by simp;nofun) (λx _=>rfl) (λx hx acc=>by
  obtain ⟨i,hi,rfl⟩:=Xf.mp hx
  have hi':=abg.mp hi
  have hm:=dW ns.length (40+s+(0+(i:Int))) (by nofun) (by nofun) (G++[.lst acc])
  simp only [aaZ] at hm
  simp! [mask,N6,hm])
 generalize hL:(Xz (6 - (X.length:Int)).toNat).map (λ(k:Nat)=>D.int (0+(k:Int)))=L at hr c2
 have e3:eFn (cJ eV oN [true,true] (aa (ak kq (eC (.int 6)) (aj cA (aa (af 2) (ah)))) (ah)) (bW) (av 2 aB (aa (aj cA (aa (af 1) (ah))) (aa (ak aE (ak aE (eC (.int 40)) (af 2)) (af 0)) (ah))))) [some (D.con (ns.map D.int)),some (.int (s:Int)),some (.con (X.map .int))] G=.ok (.con (L.map (N6 ns.length s))) G:=by
  rw [bG]
  have e4:cJ eV oN [true,true] (aa (ak kq (eC (.int 6)) (aj cA (aa (af 2) (ah)))) (ah)) (bW) (av 2 aB (aa (aj cA (aa (af 1) (ah))) (aa (ak aE (ak aE (eC (.int 40)) (af 2)) (af 0)) (ah)))) [some (D.con (ns.map D.int)),some (.int (s:Int)),some (.con (X.map .int))] G=.ok (.obj G.length) (G++[.lst (L.map (N6 ns.length s))]):=by
   simp only [Xd] at c2
   rw [← c2]
   simp! [hr]
  rw [e4,dQ]
  rw [← hL,Xo]
  exact ay λ_=>bB
 have Vm:L.map (N6 ns.length s)=((Xz (6 - (X.length:Int)).toNat).map λ(k:Nat)=>mx ns.length (40+s+(0+(k:Int)))).map .int:=by
  rw [← hL,Xo,Xo];rfl
 rw [Vm] at e3
 generalize hY:(Xz (6 - (X.length:Int)).toNat).map (λ(k:Nat)=>mx ns.length (40+s+(0+(k:Int))))=Y at e3
 have WI:Y.length=(6 - (X.length:Int)).toNat:=by rw [← hY];simp
 refine ⟨X++Y,by simp;nofun,by simp;nofun,aR ?_ (by rw [aJ];exact ay λ_=>bB)⟩
 have hz:(X.map D.int++Y.map D.int).length≤WO:=lz (by simp;nofun)
 have hcl:aD (X.map D.int++Y.map D.int)=true:=by rw [← Xu];exact ay λ_=>bB
 have e5:eFn (ak aE (af 2) (eFn (cJ eV oN [true,true] (aa (ak kq (eC (.int 6)) (aj cA (aa (af 2) (ah)))) (ah)) (bW) (av 2 aB (aa (aj cA (aa (af 1) (ah))) (aa (ak aE (ak aE (eC (.int 40)) (af 2)) (af 0)) (ah))))))) [some (D.con (ns.map D.int)),some (.int (s:Int)),some (.con (X.map .int))] G=.ok (.con (X.map D.int++Y.map D.int)) G:=by
  rw [bG,cg]
  have e6:af 2 [some (D.con (ns.map D.int)),some (.int (s:Int)),some (.con (X.map .int))] G=.ok (.con (X.map .int)) G:=rfl
  rw [e6,ao,ai,e3,ao]
  show (aP _ G).fw G=_
  rw [cU hz hcl]
 unfold jm
 rw [Xu]
 simp! [e1,e5]
theorem Dy (x:Str) (l u:Option Int) (h:WW x=true):WW (ZH x l u)=true:=by
 unfold ZH
 split
 ·exact h
 ·unfold WW at h ⊢
  simp only [List.all_toArray,ZZ,aaj] at h ⊢
  rintro c ⟨i,_,hi⟩
  have h2:=Array.all_eq_true'.mp h c (Array.mem_of_getElem? hi)
  exact h2
noncomputable abbrev lets:Str:="abcdefghijklmnopqrstuvwxyz"
theorem zl (i:Int) (G:DH):∃ s,aT (.str lets) (.int (i % 26)) G=.ok (.str s) G∧WW s=true∧s.length=1:=
 KR lets (i % 26) G (by nofun) (by show i % 26<((26:Nat):Int);nofun) (by symm) (by symm)
theorem r9 (c:Int) (G:DH) (a1 a4 a5 a6 a7:Option D):∀ (m j:Nat) (t:Str) (a3:Option D),j+m≤100→WW t=true→t.length≤j+1 →
  ∃ (u:Str) (b3:Option D),WW u=true∧u.length≤j+m+1∧bC (gN 3) eX ((Xs j m).map λ(k:Nat)=>.int (0+(k:Int))) [some (.int c),a1,some (.str t),a3,a4,a5,a6,a7] G=.nx [some (.int c),a1,some (.str u),b3,a4,a5,a6,a7] G
 | 0,j,t,a3,h,k1,k2=>⟨t,a3,k1,by nofun,by simp [bC]⟩
 | m+1,j,t,a3,h,k1,k2=>by
  have hm:=dW c (32+(0+(j:Int))) (by nofun) (by nofun) G
  obtain ⟨s,es,ks,ls⟩:=zl (mx c (32+(0+(j:Int)))) G
  have hz:t.length+s.length≤WO:=lz (by nofun)
  obtain ⟨u,b3,ku,lu,ih⟩:=r9 c G a1 a4 a5 a6 a7 m (j+1) (t++s) (some (.int (0+(j:Int)))) (by nofun) (good_add k1 ks) (by rw [tH];nofun)
  refine ⟨u,b3,ku,by nofun,?_⟩
  rw [Ys,WU,bE rfl]
  have e:eX [some (.int c),a1,some (.str t),some (.int (0+(j:Int))),a4,a5,a6,a7] G=.nx [some (.int c),a1,some (.str (t++s)),some (.int (0+(j:Int))),a4,a5,a6,a7] G:=by
   generalize (0+(j:Int))=jj at hm es
   unfold eX
   simp only [di,cg,aQ,eN,ao,ai,cO,aI,aL,aX,W4,WX,WR,Xb,if_true,aE,hm,cH,es,if_pos hz,fO,Xq,Xp,show (0:Int)<26 from by decide,decide_true]
  simp only [Xq,Xp,e,fP]
  rw [ih]
theorem se (c w p kk:Int) (hk:-100<kk∧kk<100) (G:DH) (a1 a2:Option D):∀ (m j:Nat) (t:Str) (a3:Option D),j+m≤100→WW t=true→t.length≤j+1 →
  ∃ (u:Str) (b3:Option D),WW u=true∧u.length≤j+m+1∧bC (gN 3) eY ((Xs j m).map λ(k:Nat)=>.int (0+(k:Int))) [some (.int c),a1,a2,a3,some (.int w),some (.int p),some (.int kk),some (.str t)] G=.nx [some (.int c),a1,a2,b3,some (.int w),some (.int p),some (.int kk),some (.str u)] G
 | 0,j,t,a3,h,k1,k2=>⟨t,a3,k1,by nofun,by simp [bC]⟩
 | m+1,j,t,a3,h,k1,k2=>by
  have hm:=dW c (32+(0+(j:Int))) (by nofun) (by nofun) G
  obtain ⟨s,es,ks,ls⟩:=zl (mx c (32+(0+(j:Int)))+kk*(if (0+(j:Int))==p then 1 else 0)) G
  have hz:t.length+s.length≤WO:=lz (by nofun)
  obtain ⟨u,b3,ku,lu,ih⟩:=se c w p kk hk G a1 a2 m (j+1) (t++s) (some (.int (0+(j:Int)))) (by nofun) (good_add k1 ks) (by rw [tH];nofun)
  refine ⟨u,b3,ku,by nofun,?_⟩
  rw [Ys,WU,bE rfl]
  have hk1:(decide (-(2^64)<kk)&&decide (kk<2^64))=true:=by simp;nofun
  have e:eY [some (.int c),a1,a2,some (.int (0+(j:Int))),some (.int w),some (.int p),some (.int kk),some (.str t)] G=.nx [some (.int c),a1,a2,some (.int (0+(j:Int))),some (.int w),some (.int p),some (.int kk),some (.str (t++s))] G:=by
   generalize (0+(j:Int))=jj at hm es
   unfold eY
   simp only [di,cg,bM,aQ,eN,ao,ai,cO,aI,aL,aX,W4,WX,WR,Xb,if_true,aE,hm,cN,rO,Bool.false_xor,cH,hk1,abL,es,if_pos hz,fO,Xq,Xp,show (0:Int)<26 from by decide,decide_true]
  simp only [Xq,Xp,e,fP]
  rw [ih]
noncomputable def kept:List Str:=["start","rule","row","mix","many","any","kind","not","both","either","way","mark"]
noncomputable abbrev Iq:DS→M D:=eFn (aj aP (aa (eC (.str "start")) (aa (eC (.str "rule")) (aa (eC (.str "row")) (aa (eC (.str "mix")) (aa (eC (.str "many")) (aa (eC (.str "any")) (aa (eC (.str "kind")) (aa (eC (.str "not")) (aa (eC (.str "both")) (aa (eC (.str "either")) (aa (eC (.str "way")) (aa (eC (.str "mark")) (ah))))))))))))))
theorem Dz (τ:DS) (G:DH):Iq τ G=.ok (.con (kept.map .str)) G:=by
 unfold Iq
 rw [bG]
 have Vn:(12:Nat)≤WO:=lz (by nofun)
 have e:aj aP (aa (eC (.str "start")) (aa (eC (.str "rule")) (aa (eC (.str "row")) (aa (eC (.str "mix")) (aa (eC (.str "many")) (aa (eC (.str "any")) (aa (eC (.str "kind")) (aa (eC (.str "not")) (aa (eC (.str "both")) (aa (eC (.str "either")) (aa (eC (.str "way")) (aa (eC (.str "mark")) (ah))))))))))))) τ G=aP (kept.map .str) G:=by
  simp only [bM,aI,aL,eN,ao,ai,aX];rfl
 rw [e,cU (ds:=kept.map .str) (show (kept.map D.str).length≤WO from Vn) (ay λ_=>cB)]
theorem G5 (c w p kk:Int) (G:DH) (ws:List Str) (hw:ws.length≤100) (a2 a3:Option D) (u:Str) (ku:WW u=true) (lu:u.length≤20):∃ v:Str,WW v=true∧v.length≤21 ∧
  eZ [some (.int c),some (.obj G.length),a2,a3,some (.int w),some (.int p),some (.int kk),some (.str u)] (G++[.lst (ws.map .str)]) =
   .nx [some (.int c),some (.obj G.length),a2,a3,some (.int w),some (.int p),some (.int kk),some (.str v)] (G++[.lst ((ws++[v]).map .str)]):=by
 have hin:=vn u kept (G++[.lst (ws.map .str)]) ku (by symm)
 generalize kept.any (·==u)=bb at hin
 have hz:u.length+("z":Str).length≤WO:=by
  have:("z":Str).length=1:=by symm
  exact lz (by nofun)
 have hz2:ws.length<WO:=W0 (by nofun) (lz (n:=101) (by nofun))
 have hk:=Dz
 cases bb with
 | true=>
  refine ⟨u++"z",good_add ku (by symm),(by rw [tH];have:=(show ("z":Str).length=1 by symm);nofun),?_⟩
  unfold eZ
  simp! [hk,Fd,hin,hz,hz2]
 | false=>
  refine ⟨u,ku,by nofun,?_⟩
  unfold eZ
  simp! [hk,Fd,hin,hz2]
theorem p6 (c w p:Int) (hw:0≤w) (OZ:w≤8) (G:DH) (a2:Option D):∀ (m j:Nat) (ws:List Str) (a3 a6 a7:Option D),j+m≤5→ws.length=j→(∀ s∈ws,WW s=true∧s.length≤21) →
  ∃ (us:List Str) (b3 b6 b7:Option D),us.length=j+m∧(∀ s∈us,WW s=true∧s.length≤21) ∧
   bC (gN 6) fh ((Xs j m).map λ(k:Nat)=>.int (0+(k:Int))) [some (.int c),some (.obj G.length),a2,a3,some (.int w),some (.int p),a6,a7] (G++[.lst (ws.map .str)])=.nx [some (.int c),some (.obj G.length),a2,b3,some (.int w),some (.int p),b6,b7] (G++[.lst (us.map .str)])
 | 0,j,ws,a3,a6,a7,h,hl,hs=>⟨ws,a3,a6,a7,by nofun,hs,by simp [bC]⟩
 | m+1,j,ws,a3,a6,a7,h,hl,hs=>by
  obtain ⟨u,b3,ku,lu,e1⟩:=se c w p (0+(j:Int)) (by nofun) (G++[.lst (ws.map .str)]) (some (.obj G.length)) a2 w.toNat 0 ⟨#[]⟩ a3 (by nofun) (by symm) (by show 0≤1;nofun)
  obtain ⟨v,kv,lv,e2⟩:=G5 c w p (0+(j:Int)) G ws (by nofun) a2 b3 u ku (by nofun)
  obtain ⟨us,c3,c6,c7,Lc,nQ,ih⟩:=p6 c w p hw OZ G a2 m (j+1) (ws++[v]) b3 (some (.int (0+(j:Int)))) (some (.str v)) (by nofun) (by simp [hl]) (λs hm=>by
   rcases Xy.mp hm with h | h
   ·exact hs s h
   ·rw [Xj.mp h];exact ⟨kv,lv⟩)
  refine ⟨us,c3,c6,c7,by nofun,nQ,?_⟩
  have hr:=iA (j:=w) hw (by nofun)
  generalize ((Xs 0 w.toNat).map λ(k:Nat)=>D.int (0+(k:Int)))=its at hr e1
  rw [Ys,WU,bE rfl]
  generalize (0+(j:Int))=jj at e1 e2 ih
  have e:fh [some (.int c),some (.obj G.length),a2,a3,some (.int w),some (.int p),some (.int jj),a7] (G++[.lst (ws.map .str)])=.nx [some (.int c),some (.obj G.length),a2,b3,some (.int w),some (.int p),some (.int jj),some (.str v)] (G++[.lst ((ws++[v]).map .str)]):=by
   unfold fh
   have e0:("":Str)=⟨#[]⟩:=rfl
   rw [e0]
   simp only [bq,di,eN,fO,b9,Xq,Xp,rQ,aI,aL,aQ,ao,ai,aX,W4,WX,rR,hr,e1,e2]
  simp only [Xq,Xp,e,fP]
  exact ih
noncomputable def N7 (t:Str) (v:Int):D→D
 | .int j=>.str (ZH t none (some (1+v % 4+j)))
 | _=>.eO
theorem DA (c:Int) (G:DH):∃ ws:List Str,ws.length=5∧(∀ s∈ws,WW s=true∧s.length≤21)∧jn [.int c] G=.ok (.con (ws.map .str)) G:=by
 have z0:(0:Nat)≤WO:=XQ _
 have SD:=dW c 40 (by nofun) (by nofun)
 have Vo:=dW c 41 (by nofun) (by nofun)
 have Vp:=dW c 42 (by nofun) (by nofun)
 have Vq:=dW c 43 (by nofun) (by nofun)
 have WJ:=jS c 41
 have WK:=jS c 42
 by_cases h0:mx c 40 % 3=0
 ·obtain ⟨u,b3,ku,lu,e1⟩:=r9 c (G++[.lst []]) (some (.obj G.length)) none none none none 7 0 "q" none (by nofun) (by symm) (by symm)
  have hr:=iA (j:=7) (by nofun) (by nofun)
  rw [show (7:Int).toNat=7 from rfl] at hr
  generalize ((Xs 0 7).map λ(k:Nat)=>D.int (0+(k:Int)))=its at hr e1
  have L0:=iA (j:=5) (by nofun) (by nofun)
  rw [show (5:Int).toNat=5 from rfl] at L0
  have hsz:u.length≤WO:=lz (by nofun)
  generalize hτ:([some (.int c),some (.obj G.length),some (.str u),b3,none,none,none,none]:DS)=τ at e1
  have hc:∀ G1,eFn (cJ eV oN [true,false,true] (aa (eC (.int 5)) (ah)) (bW) (eFn (j5 (af 3) (cE) (bY (ak aE (ak aE (eC (.int 1)) (ak eT (av 2 aB (aa (af 1) (aa (eC (.int 43)) (ah)))) (eC (.int 4)))) (af 0)))))) τ G1=.ok (.con (((Xs 0 5).map λ(k:Nat)=>D.int (0+(k:Int))).map (N7 u (mx c 43)))) G1:=λG1=>by
   have c1:=bQ (τ:=τ) (G:=G1) (gO:=oN) (ks:=[true,false,true]) (te:=eFn (j5 (af 3) (cE) (bY (ak aE (ak aE (eC (.int 1)) (ak eT (av 2 aB (aa (af 1) (aa (eC (.int 43)) (ah)))) (eC (.int 4)))) (af 0))))) (own:=λx=>[x]) (f:=N7 u (mx c 43)) ((Xs 0 5).map λ(k:Nat)=>D.int (0+(k:Int))) [] (by simp) (λx _=>rfl) (λx hx acc=>by
    obtain ⟨i,hi,rfl⟩:=Xf.mp hx
    subst hτ
    generalize (0+(i:Int))=ii
    simp! [bG,mask,Vq,uD,N7,hsz])
   rw [bG]
   have e2:cJ eV oN [true,false,true] (aa (eC (.int 5)) (ah)) (bW) (eFn (j5 (af 3) (cE) (bY (ak aE (ak aE (eC (.int 1)) (ak eT (av 2 aB (aa (af 1) (aa (eC (.int 43)) (ah)))) (eC (.int 4)))) (af 0))))) τ G1=.ok (.obj G1.length) (G1++[.lst (((Xs 0 5).map λ(k:Nat)=>D.int (0+(k:Int))).map (N7 u (mx c 43)))]):=by
    simp only [Xd] at c1
    rw [← c1]
    simp only [o5,aI,aL,eN,ao,ai,aX,L0]
   rw [e2,dQ]
   rw [Xo]
   exact ay λ_=>cB
  have ex:((Xs 0 5).map λ(k:Nat)=>D.int (0+(k:Int))).map (N7 u (mx c 43))=((Xs 0 5).map λ(k:Nat)=>ZH u none (some (1+mx c 43 % 4+(0+(k:Int))))).map .str:=by
   rw [Xo,Xo];rfl
  rw [ex] at hc
  refine ⟨(Xs 0 5).map λ(k:Nat)=>ZH u none (some (1+mx c 43 % 4+(0+(k:Int)))),by simp,λs hs=>?_,?_⟩
  ·obtain ⟨i,_,rfl⟩:=Xf.mp hs
   exact ⟨Dy u _ _ ku,X5 (Txt.slice_le u _ _) (by nofun)⟩
  ·refine fj (R:=[.lst []]) ?_ (by rw [aJ];exact ay λ_=>cB)
   generalize (((Xs 0 5).map λ(k:Nat)=>ZH u none (some (1+mx c 43 % 4+(0+(k:Int))))).map D.str)=ws at hc
   generalize hC:eFn (cJ eV oN [true,false,true] (aa (eC (.int 5)) (ah)) (bW) (eFn (j5 (af 3) (cE) (bY (ak aE (ak aE (eC (.int 1)) (ak eT (av 2 aB (aa (af 1) (aa (eC (.int 43)) (ah)))) (eC (.int 4)))) (af 0))))))=C at hc
   subst hτ
   unfold gJ iJ
   rw [hC]
   have hn:aP [] G=.ok (.obj G.length) (G++[.lst []]):=if_pos z0
   simp! [hn,SD,cN,h0,hr,e1,hc]
 ·have hw1:0≤1+mx c 41 % 8:=by nofun
  have OZ:1+mx c 41 % 8≤8:=by nofun
  have SE:0<1+mx c 41 % 8:=by nofun
  obtain ⟨us,b3,b6,b7,Lc,nQ,e1⟩:=p6 c (1+mx c 41 % 8) (mx c 42 % (1+mx c 41 % 8)) hw1 OZ G none 5 0 [] none none none (by nofun) rfl (λs h=>by simp at h)
  have L0:=iA (j:=5) (by nofun) (by nofun)
  rw [show (5:Int).toNat=5 from rfl] at L0
  generalize ((Xs 0 5).map λ(k:Nat)=>D.int (0+(k:Int)))=its at L0 e1
  generalize Vr:1+mx c 41 % 8=w at e1 hw1 OZ SE
  generalize hpp:mx c 42 % w=pp at e1
  refine ⟨us,Lc,nQ,fj (R:=[.dead]) ?_ (by rw [aJ];exact ay λ_=>cB)⟩
  have hn:aP [] G=.ok (.obj G.length) (G++[.lst []]):=if_pos z0
  have h0':(mx c 40 % 3==0)=false:=by simpa using h0
  unfold gJ
  simp only [Xk] at e1
  simp! [hn,SD,Vo,Vp,cN,h0',L0,Vr,hpp,SE,e1]
noncomputable def row (p:Nat×Str):D:=.tup [.int p.1,.str p.2]
inductive Val:List (Nat×Str)→Nat→Prop
 | one (k:Str):Val [(0,k)] 0
 | snoc {rs:List (Nat×Str)} {e d:Nat} (k:Str):Val rs e→1≤d→d≤e+1→Val (rs++[(d,k)]) d
theorem Val.last {rs:List (Nat×Str)} {e:Nat} (h:Val rs e):∃ a s,rs=a++[(e,s)]:=by
 cases h with
 | one k=>exact ⟨[],k,rfl⟩
 | snoc k h1 h2 h3=>exact ⟨_,k,rfl⟩
theorem p7 {α:Type} (xs:List α) (x:α):iL (xs++[x]) (-1)=some x:=by
 have h:zW (xs++[x]).length (-1)=some xs.length:=by
  unfold zW
  simp
  nofun
 unfold iL
 rw [h]
 simp
theorem kX {a b c:MS} {τ:DS} {G:DH}:aG a (aG b c) τ G=(aG a b τ G).sq c:=by
 simp only [bq]
 cases a τ G with
 | nx τ' G'=>simp only [b9,bq]
 | _=>rfl
theorem A3 (c:Int) (ws:List Str) (hws:ws.length=5) (hok:∀ s∈ws,WW s=true∧s.length≤21) (most:Int) (hm1:most≤100) (G:DH) (a0 a5 a7:Option D) (j:Nat) (hj:j≤100) (rs:List (Nat×Str)) (e:Nat) (hv:Val rs e) (hl:(rs.length:Int)≤100) (hs:∀ p∈rs,WW p.2=true)
  (hi:j=0∨1≤e∨most≤rs.length):∃ (rs':List (Nat×Str)) (e':Nat) (b7:Option D),Val rs' e'∧(rs'.length:Int)≤100∧(∀ p∈rs',WW p.2=true)∧(1≤e'∨most≤rs'.length) ∧
   eg [a0,some (.con (ws.map .str)),some (.int most),some (.obj G.length),some (.int c),a5,some (.int (j:Int)),a7] (G++[.lst (rs.map row)])=.nx [a0,some (.con (ws.map .str)),some (.int most),some (.obj G.length),some (.int c),a5,some (.int (j:Int)),b7] (G++[.lst (rs'.map row)]):=by
 obtain ⟨ini,s0,hrs⟩:=hv.last
 have m4:=dW c 4 (by nofun) (by nofun)
 have m6:=dW c 6 (by nofun) (by nofun)
 have m7:=dW c (7+(j:Int)) (by nofun) (by nofun)
 have n4:=jS c 4
 have n6:=jS c 6
 have n7:=jS c (7+(j:Int))
 have hla:iL (rs.map row) (-1)=some (.tup [.int (e:Int),.str s0]):=by
  rw [hrs,Xu,WU,Xk,p7];rfl
 have Rb:(0:Int)<(e:Int)+1:=by nofun
 obtain ⟨nv,en,Rc⟩:=lK (xs:=ws.map D.str) (i:=mx c (7+(j:Int)) % 4) (by nofun) (by simp [hws];nofun)
 obtain ⟨nm,Rf,rfl⟩:∃ nm,nm∈ws∧D.str nm=nv:=by
  have:=XE Rc
  obtain ⟨a,b,c⟩:=Xf.mp this
  exact ⟨a,b,c⟩
 have SG:iL [D.int (e:Int),D.str s0] 0=some (.int (e:Int)):=by
  have:=f6 (xs:=[D.int (e:Int),D.str s0]) (j:=0) (v:=.int (e:Int)) rfl
  simpa using this
 have key:∃ d:Nat,d≤e+1∧((rs.length:Int)<most→1≤d)∧(aG (aN 7 (ak aE (eC (.int 1)) (ak eT (av 2 aB (aa (af 4) (aa (eC (.int 4)) (ah)))) (ak aE (ak aT (ak aT (af 3) (gA (eC (.int 1)))) (eC (.int 0))) (eC (.int 1)))))) (iO (fH (ak rH (af 6) (eC (.int 0)))) (aN 7 (ak aE (ak aT (ak aT (af 3) (gA (eC (.int 1)))) (eC (.int 0))) (ak eT (av 2 aB (aa (af 4) (aa (eC (.int 6)) (ah)))) (eC (.int 2))))) (bI)))
   [a0,some (.con (ws.map .str)),some (.int most),some (.obj G.length),some (.int c),a5,some (.int (j:Int)),a7] (G++[.lst (rs.map row)])=.nx [a0,some (.con (ws.map .str)),some (.int most),some (.obj G.length),some (.int c),a5,some (.int (j:Int)),some (.int (d:Int))] (G++[.lst (rs.map row)]):=by
  have q1:0≤mx c 4 % ((e:Int)+1):=Int.emod_nonneg _ (by nofun)
  have q2:mx c 4 % ((e:Int)+1)<(e:Int)+1:=Int.emod_lt_of_pos _ Rb
  by_cases hj0:j=0
  ·refine ⟨(1+mx c 4 % ((e:Int)+1)).toNat,by nofun,by nofun,?_⟩
   have et:(((1+mx c 4 % ((e:Int)+1)).toNat:Nat):Int)=1+mx c 4 % ((e:Int)+1):=by nofun
   rw [et]
   subst hj0
   simp! [m4,hla,SG,Rb]
  ·refine ⟨(e+mx c 6 % 2).toNat,by nofun,by nofun,?_⟩
   have et:(((e+mx c 6 % 2).toNat:Nat):Int)=e+mx c 6 % 2:=by nofun
   rw [et]
   have hj1:0<j:=by nofun
   have hj2:(0:Int)<(j:Int):=by nofun
   simp! [m4,m6,hla,SG,Rb,hj1,hj2]
 obtain ⟨d,hd1,hd2,ek⟩:=key
 have h2:(2:Nat)≤WO:=lz (by nofun)
 have hz:rs.length<WO:=W0 (by nofun) (lz (n:=101) (by nofun))
 by_cases hc:(rs.length:Int)<most
 ·refine ⟨rs++[(d,nm)],d,some (.int (d:Int)),.snoc nm hv (hd2 hc) hd1,by simp;nofun,λp hp=>?_,.inl (hd2 hc),?_⟩
  ·rcases Xy.mp hp with h | h
   ·exact hs p h
   ·rw [Xj.mp h];exact (hok nm Rf).1
  ·unfold eg
   rw [kX,ek,b9]
   simp! [hc,m7,en,h2,hz,row]
 ·refine ⟨rs,e,some (.int (d:Int)),hv,hl,hs,.inr (by nofun),?_⟩
  unfold eg
  rw [kX,ek,b9]
  simp! [hc]
theorem p8 (c:Int) (ws:List Str) (hws:ws.length=5) (hok:∀ s∈ws,WW s=true∧s.length≤21) (most:Int) (hm1:most≤100) (G:DH) (a0 a5:Option D):∀ (m j:Nat) (rs:List (Nat×Str)) (e:Nat) (a6 a7:Option D),j+m≤100→Val rs e→(rs.length:Int)≤100→(∀ p∈rs,WW p.2=true)→(j=0∨1≤e∨most≤rs.length) →
  ∃ (rs':List (Nat×Str)) (e':Nat) (b6 b7:Option D),Val rs' e'∧(rs'.length:Int)≤100∧(∀ p∈rs',WW p.2=true) ∧
   bC (gN 6) eg ((Xs j m).map λ(k:Nat)=>.int (0+(k:Int))) [a0,some (.con (ws.map .str)),some (.int most),some (.obj G.length),some (.int c),a5,a6,a7] (G++[.lst (rs.map row)])=.nx [a0,some (.con (ws.map .str)),some (.int most),some (.obj G.length),some (.int c),a5,b6,b7] (G++[.lst (rs'.map row)])
 | 0,j,rs,e,a6,a7,h,hv,hl,hs,hi=>⟨rs,e,a6,a7,hv,hl,hs,by simp [bC]⟩
 | m+1,j,rs,e,a6,a7,h,hv,hl,hs,hi=>by
  obtain ⟨K9,e1,b7,hv1,hl1,hs1,hi1,r1⟩:=A3 c ws hws hok most hm1 G a0 a5 a7 j (by nofun) rs e hv hl hs hi
  obtain ⟨Gd,e2,c6,c7,hv2,hl2,hs2,r2⟩:=p8 c ws hws hok most hm1 G a0 a5 m (j+1) K9 e1 (some (.int (j:Int))) b7 (by nofun) hv1 hl1 hs1 (.inr hi1)
  refine ⟨Gd,e2,c6,c7,hv2,hl2,hs2,?_⟩
  rw [Ys,WU,bE rfl]
  simp only [Xq,Xp,aaZ,r1,fP]
  simp only [aaZ] at r2
  exact r2
theorem p9 (ws:List Str) (hws:ws.length=5) (hok:∀ s∈ws,WW s=true∧s.length≤21) (most:Int) (hm1:most≤100) (G:DH) (a0:Option D):∀ (cs:List Int) (rs:List (Nat×Str)) (e:Nat) (a4 a5 a6 a7:Option D),Val rs e→(rs.length:Int)≤100→(∀ p∈rs,WW p.2=true) →
  ∃ (rs':List (Nat×Str)) (e':Nat) (b4 b5 b6 b7:Option D),Val rs' e'∧(rs'.length:Int)≤100∧(∀ p∈rs',WW p.2=true) ∧
   bC (gN 4) fQ (cs.map .int) [a0,some (.con (ws.map .str)),some (.int most),some (.obj G.length),a4,a5,a6,a7] (G++[.lst (rs.map row)])=.nx [a0,some (.con (ws.map .str)),some (.int most),some (.obj G.length),b4,b5,b6,b7] (G++[.lst (rs'.map row)])
 | [],rs,e,a4,a5,a6,a7,hv,hl,hs=>⟨rs,e,a4,a5,a6,a7,hv,hl,hs,by simp [bC]⟩
 | c::cs,rs,e,a4,a5,a6,a7,hv,hl,hs=>by
  have m2:=dW c 2 (by nofun) (by nofun)
  have m3:=dW c 3 (by nofun) (by nofun)
  have n3:=jS c 3
  have key:∃ mn:Int,0≤mn∧mn≤24∧∀ G1,(aG (aN 5 (eC (.int 1))) (iO (fH (ak (fG false) (ak eT (av 2 aB (aa (af 4) (aa (eC (.int 2)) (ah)))) (eC (.int 12))) (eC (.int 5)))) (aN 5 (ak aE (eC (.int 1)) (ak eT (av 2 aB (aa (af 4) (aa (eC (.int 3)) (ah)))) (eC (.int 24))))) (bI)))
    [a0,some (.con (ws.map .str)),some (.int most),some (.obj G.length),some (.int c),a5,a6,a7] G1=.nx [a0,some (.con (ws.map .str)),some (.int most),some (.obj G.length),some (.int c),some (.int mn),a6,a7] G1:=by
   by_cases h5:mx c 2 % 12=5
   ·refine ⟨1+mx c 3 % 24,by nofun,by nofun,λG1=>?_⟩
    simp! [m2,m3,cN,h5]
   ·have Gn:(mx c 2 % 12==5)=false:=by simpa using h5
    refine ⟨1,by nofun,by nofun,λG1=>?_⟩
    simp! [m2,cN,Gn]
  obtain ⟨mn,hn1,hn2,ek⟩:=key
  obtain ⟨K9,e1,b6,b7,hv1,hl1,hs1,r1⟩:=p8 c ws hws hok most hm1 G a0 (some (.int mn)) mn.toNat 0 rs e a6 a7 (by nofun) hv hl hs (.inl rfl)
  obtain ⟨Gd,e2,c4,c5,c6,c7,hv2,hl2,hs2,r2⟩:=p9 ws hws hok most hm1 G a0 cs K9 e1 (some (.int c)) (some (.int mn)) b6 b7 hv1 hl1 hs1
  refine ⟨Gd,e2,c4,c5,c6,c7,hv2,hl2,hs2,?_⟩
  have hr:=iA (j:=mn) hn1 (by nofun)
  generalize ((Xs 0 mn.toNat).map λ(k:Nat)=>D.int (0+(k:Int)))=its at hr r1
  rw [WU,bE rfl]
  have el:fQ [a0,some (.con (ws.map .str)),some (.int most),some (.obj G.length),some (.int c),a5,a6,a7] (G++[.lst (rs.map row)])=.nx [a0,some (.con (ws.map .str)),some (.int most),some (.obj G.length),some (.int c),some (.int mn),b6,b7] (G++[.lst (K9.map row)]):=by
   unfold fQ
   rw [kX,ek,b9]
   simp only [rQ,aI,aL,aQ,ao,ai,aX,W4,WX,rR,hr,r1]
  simp only [Xq,Xp,el,fP]
  exact r2
theorem G6 (cs:List Int) (hcs:1≤cs.length) (ws:List Str) (hws:ws.length=5) (hok:∀ s∈ws,WW s=true∧s.length≤21) (most:Int) (hm1:most≤100) (G:DH) :
  ∃ (rs:List (Nat×Str)) (e:Nat),Val rs e∧rs.length≤100∧(∀ p∈rs,WW p.2=true)∧jQ [.con (cs.map .int),.con (ws.map .str),.int most] G=.ok (.con (rs.map row)) G:=by
 have z1:(1:Nat)≤WO:=lz (by nofun)
 have z2:(2:Nat)≤WO:=lz (by nofun)
 have hc0:=zk cs 0 (by nofun)
 rw [show ((0:Nat):Int)=0 from rfl] at hc0
 have m1:=dW (cs.getD 0 0) 1 (by nofun) (by nofun)
 have n1:=jS (cs.getD 0 0) 1
 generalize cs.getD 0 0=c0 at hc0 m1 n1
 obtain ⟨nv,en,Rc⟩:=lK (xs:=ws.map D.str) (i:=mx c0 1 % 4) (by nofun) (by simp [hws];nofun)
 obtain ⟨nm,Rf,rfl⟩:∃ nm,nm∈ws∧D.str nm=nv:=by
  have:=XE Rc
  obtain ⟨a,b,c⟩:=Xf.mp this
  exact ⟨a,b,c⟩
 obtain ⟨rs,e,b4,b5,b6,b7,hv,hl,hs,r⟩:=p9 ws hws hok most hm1 G (some (.con (cs.map .int))) cs [(0,nm)] 0 none none none none (.one nm) (by simp) (λp hp=>by rw [Xj.mp hp];exact (hok nm Rf).1)
 refine ⟨rs,e,hv,by nofun,hs,fj (R:=[.dead]) ?_ (by rw [aJ];exact ay λp=>by rw [row,fC];simp [aH,bB,cB,bh])⟩
 have hn:aP [.tup [.int 0,.str nm]] G=.ok (.obj G.length) (G++[.lst [.tup [.int 0,.str nm]]]):=if_pos z1
 have er:([(0,nm)].map row:List D)=[.tup [.int 0,.str nm]]:=rfl
 rw [er] at r
 unfold jP
 simp! [hc0,m1,en,z2,hn,r]
inductive T where
 | nd (k:Str) (ps:List T)
mutual
noncomputable def T.d:T→D
 | .nd k ps=>.tup [.str k,.tup (dL ps)]
noncomputable def dL:List T→List D
 | []=>[]
 | t::r=>t.d::dL r
end
mutual
noncomputable def T.prs (p:List Int):T→List (List Int×T)
 | .nd k ps=>(p,.nd k ps)::cL p 0 ps
noncomputable def cL (p:List Int) (j:Int):List T→List (List Int×T)
 | []=>[]
 | t::r=>t.prs (p++[j])++cL p (j+1) r
end
mutual
noncomputable def T.pre (n:Nat):T→List (Nat×Str)
 | .nd k ps=>(n,k)::gm (n+1) ps
noncomputable def gm (n:Nat):List T→List (Nat×Str)
 | []=>[]
 | t::r=>t.pre n++gm n r
end
mutual
noncomputable def T.subs:T→List T
 | .nd k ps=>.nd k ps::bO ps
noncomputable def bO:List T→List T
 | []=>[]
 | t::r=>t.subs++bO r
end
theorem qc:∀ ts:List T,dL ts=ts.map T.d
 | []=>rfl
 | t::r=>by rw [dL,qc r,WU]
mutual
theorem dw (p:List Int):∀ t:T,(t.prs p).map (·.2)=t.subs
 | .nd k ps=>by rw [T.prs,T.subs,WU,sf p 0 ps]
theorem sf (p:List Int) (j:Int):∀ ts:List T,(cL p j ts).map (·.2)=bO ts
 | []=>rfl
 | t::r=>by rw [cL,bO,Xu,dw _ t,sf p (j+1) r]
end
mutual
theorem zm (n:Nat):∀ t:T,(t.pre n).length=t.subs.length
 | .nd k ps=>by rw [T.pre,T.subs,WR,WR,qe (n+1) ps]
theorem qe (n:Nat):∀ ts:List T,(gm n ts).length=(bO ts).length
 | []=>rfl
 | t::r=>by rw [gm,bO,W9,W9,zm n t,qe n r]
end
mutual
theorem jT:∀ t:T,t.d.closed=true
 | .nd k ps=>by rw [T.d,fC,aH,aH,cB,fC,mX ps];rfl
theorem mX:∀ ts:List T,aD (dL ts)=true
 | []=>rfl
 | t::r=>by rw [dL,aH,jT t,mX r];rfl
end
mutual
theorem G7 (n:Nat):∀ t:T,(∀ p∈t.pre n,WW p.2=true)→t.d.plain=true
 | .nd k ps,h=>by
  have hk:WW k=true:=h (n,k) (by simp [T.pre])
  have hp:=wA (n+1) ps λp hp=>h p (by simp [T.pre,hp])
  simp [T.d,D.plain,bR,hk,hp]
theorem wA (n:Nat):∀ ts:List T,(∀ p∈gm n ts,WW p.2=true)→bR (dL ts)=true
 | [],_=>rfl
 | t::r,h=>by
  have h1:=G7 n t λp hp=>h p (by simp [gm,hp])
  have h2:=wA n r λp hp=>h p (by simp [gm,hp])
  rw [dL,bR,h1,h2];rfl
end
mutual
theorem N8:∀ t:T,t.d.dp≤2*t.subs.length
 | .nd k ps=>by
  have:=Ir ps
  simp [T.d,D.dp,pG,T.subs];nofun
theorem Ir:∀ ts:List T,pG (dL ts)≤2*(bO ts).length
 | []=>XQ _
 | t::r=>by
  have h1:=N8 t
  have h2:=Ir r
  rw [dL,pG,bO,W9];nofun
end
mutual
theorem sub_le:∀ (t s:T),s∈t.subs→s.subs.length≤t.subs.length
 | .nd k ps,s,h=>by
  rw [T.subs] at h
  rcases Xl.mp h with rfl | h
  ·exact WZ _
  ·have:=zo ps s h
   rw [T.subs,WR];nofun
theorem zo:∀ (ts:List T) (s:T),s∈bO ts→s.subs.length≤(bO ts).length
 | [],s,h=>by simp [bO] at h
 | t::r,s,h=>by
  rw [bO] at h ⊢
  rw [W9]
  rcases Xy.mp h with h | h
  ·have:=sub_le t s h;nofun
  ·have:=zo r s h;nofun
end
mutual
noncomputable def T.good:T→Bool
 | .nd k ps=>WW k&&jA ps
noncomputable def jA:List T→Bool
 | []=>true
 | t::r=>t.good&&jA r
end
mutual
theorem qf:∀ t:T,t.good=true→t.d.plain=true
 | .nd k ps,h=>by
  have h':WW k=true∧jA ps=true:=by simpa [T.good] using h
  have hp:=nA ps h'.2
  simp [T.d,D.plain,bR,h'.1,hp]
theorem nA:∀ ts:List T,jA ts=true→bR (dL ts)=true
 | [],_=>rfl
 | t::r,h=>by
  have h':t.good=true∧jA r=true:=by simpa [jA] using h
  rw [dL,bR,qf t h'.1,nA r h'.2];rfl
end
mutual
theorem DB:∀ (t s:T),t.good=true→s∈t.subs→s.good=true
 | .nd k ps,s,h,hs=>by
  have h':WW k=true∧jA ps=true:=by simpa [T.good] using h
  rw [T.subs] at hs
  rcases Xl.mp hs with rfl | hs
  ·exact h
  ·exact sj ps s h'.2 hs
theorem sj:∀ (ts:List T) (s:T),jA ts=true→s∈bO ts→s.good=true
 | [],s,_,hs=>by simp [bO] at hs
 | t::r,s,h,hs=>by
  have h':t.good=true∧jA r=true:=by simpa [jA] using h
  rw [bO] at hs
  rcases Xy.mp hs with hs | hs
  ·exact DB t s h'.1 hs
  ·exact sj r s h'.2 hs
end
mutual
theorem wB (n:Nat):∀ t:T,(∀ p∈t.pre n,WW p.2=true)→t.good=true
 | .nd k ps,h=>by
  have hk:WW k=true:=h (n,k) (by simp [T.pre])
  have hp:=sr (n+1) ps λp hp=>h p (by simp [T.pre,hp])
  simp [T.good,hk,hp]
theorem sr (n:Nat):∀ ts:List T,(∀ p∈gm n ts,WW p.2=true)→jA ts=true
 | [],_=>rfl
 | t::r,h=>by
  have h1:=wB n t λp hp=>h p (by simp [gm,hp])
  have h2:=sr n r λp hp=>h p (by simp [gm,hp])
  rw [jA,h1,h2];rfl
end
mutual
noncomputable def T.bo (n:Nat):T→List ((Nat×Str)×T)
 | .nd k ps=>((n,k),.nd k ps)::A4 (n+1) ps
noncomputable def A4 (n:Nat):List T→List ((Nat×Str)×T)
 | []=>[]
 | t::r=>t.bo n++A4 n r
end
mutual
theorem Lr (n:Nat):∀ t:T,(t.bo n).map (·.1)=t.pre n
 | .nd k ps=>by rw [T.bo,T.pre,WU,uv (n+1) ps]
theorem uv (n:Nat):∀ ts:List T,(A4 n ts).map (·.1)=gm n ts
 | []=>rfl
 | t::r=>by rw [A4,gm,Xu,Lr n t,uv n r]
end
mutual
theorem G8 (n:Nat):∀ t:T,(t.bo n).map (·.2)=t.subs
 | .nd k ps=>by rw [T.bo,T.subs,WU,qg (n+1) ps]
theorem qg (n:Nat):∀ ts:List T,(A4 n ts).map (·.2)=bO ts
 | []=>rfl
 | t::r=>by rw [A4,bO,Xu,G8 n t,qg n r]
end
noncomputable def flat (f:Nat→List T):Nat→List ((Nat×Str)×T)
 | 0=>A4 0 (f 0)
 | n+1=>A4 (n+1) (f (n+1))++flat f n
noncomputable def stp (f:Nat→List T) (p:Nat×Str):Nat→List T:=λn=>if n=p.1 then T.nd p.2 (f (p.1+1))::f p.1 else if n=p.1+1 then [] else f n
theorem qh {f g:Nat→List T}:∀ n,(∀ m,m≤n→f m=g m)→flat f n=flat g n
 | 0,h=>by rw [flat,flat,h 0 (WZ _)]
 | n+1,h=>by rw [flat,flat,h (n+1) (WZ _),qh n λm hm=>h m (by nofun)]
theorem DC (f:Nat→List T) (d:Nat) (k:Str):flat (stp f (d,k)) d=((d,k),T.nd k (f (d+1)))::flat f (d+1):=by
 have h0:stp f (d,k) d=T.nd k (f (d+1))::f d:=by simp [stp]
 cases d with
 | zero=>
  rw [flat,h0,A4,T.bo,flat,flat];simp
 | succ d=>
  have h1:flat (stp f (d+1,k)) d=flat f d:=qh d λm hm=>by
   simp only [stp]
   rw [if_neg (by nofun),if_neg (by nofun)]
  rw [flat,h0,h1,A4,T.bo,flat,flat];simp
theorem zp {f:Nat→List T} {b:Nat} (h:∀ n,b<n→f n=[]):∀ m,b≤m→flat f m=flat f b
 | 0,hm=>by rw [show b=0 by nofun]
 | m+1,hm=>by
  by_cases e:b=m+1
  ·rw [e]
  ·rw [flat,h (m+1) (by nofun),A4,Xd,zp h m (by nofun)]
noncomputable def RC (b:Nat):List (Nat×Str)→Prop
 | []=>True
 | p::q=>b≤p.1+1∧RC p.1 q
noncomputable def mY (f:Nat→List T):List (Nat×Str)→List T
 | []=>[]
 | p::q=>T.nd p.2 (f (p.1+1))::mY (stp f p) q
noncomputable def su (b:Nat):List (Nat×Str)→Nat
 | []=>b
 | p::q=>su p.1 q
theorem l6:∀ (q:List (Nat×Str)) (f:Nat→List T),(mY f q).length=q.length
 | [],f=>rfl
 | p::q,f=>by rw [mY,WR,l6 q,WR]
theorem wC:∀ (q:List (Nat×Str)) (f:Nat→List T) (b:Nat),RC b q→(∀ n,b<n→f n=[]) →
  (∀ n,su b q<n→q.foldl stp f n=[])∧flat (q.foldl stp f) (su b q)=(q.zip (mY f q)).reverse++flat f b
 | [],f,b,h,hb=>⟨hb,by simp [su]⟩
 | p::q,f,b,h,hb=>by
  obtain ⟨d,k⟩:=p
  obtain ⟨h1,h2⟩:b≤d+1∧RC d q:=h
  have hb':∀ n,d<n→stp f (d,k) n=[]:=λn hn=>by
   simp only [stp]
   rw [if_neg (by nofun)]
   by_cases e:n=d+1
   ·rw [if_pos e]
   ·rw [if_neg e];exact hb n (by nofun)
  obtain ⟨i1,i2⟩:=wC q (stp f (d,k)) d h2 hb'
  refine ⟨i1,?_⟩
  show flat (q.foldl stp (stp f (d,k))) (su d q)=_
  rw [i2,DC,zp hb (d+1) h1,mY]
  simp
theorem Val.rc {rs:List (Nat×Str)} {e:Nat} (h:Val rs e):∀ b,b≤e+1→RC b rs.reverse:=by
 induction h with
 | one k=>intro b hb;exact ⟨hb,trivial⟩
 | snoc k hv h1 h2 ih=>
  intro b hb
  rw [abw]
  exact ⟨hb,ih _ h2⟩
theorem Val.head {rs:List (Nat×Str)} {e:Nat} (h:Val rs e):∃ k r,rs=(0,k)::r∧∀ p∈r,1≤p.1:=by
 induction h with
 | one k=>exact ⟨k,[],rfl,λp hp=>by simp at hp⟩
 | snoc k hv h1 h2 ih=>
  obtain ⟨k0,r,rfl,hr⟩:=ih
  refine ⟨k0,r++[(_,k)],rfl,λp hp=>?_⟩
  rcases Xy.mp hp with hp | hp
  ·exact hr p hp
  ·rw [Xj.mp hp];exact h1
theorem sy:∀ (q:List (Nat×Str)) (f:Nat→List T),(∀ p∈q,1≤p.1)→q.foldl stp f 0=f 0
 | [],f,_=>rfl
 | p::q,f,h=>by
  have hp:=h p (by simp)
  rw [List.foldl_cons,sy q _ λx hx=>h x (by simp [hx])]
  simp only [stp]
  rw [if_neg (by nofun),if_neg (by nofun)]
theorem sA:∀ (q:List (Nat×Str)) (b:Nat) (p:Nat×Str),su b (q++[p])=p.1
 | [],b,p=>rfl
 | x::q,b,p=>sA q x.1 p
theorem G9 {rs:List (Nat×Str)} {e:Nat} (h:Val rs e):∃ t:T,rs=t.pre 0∧(mY (λ_=>[]) rs.reverse).reverse=t.subs:=by
 obtain ⟨k0,r,rfl,hr⟩:=h.head
 have rc:=h.rc 0 (by nofun)
 obtain ⟨i1,i2⟩:=wC _ (λ_=>[]) 0 rc (λ_ _=>rfl)
 have N9:((0,k0)::r).reverse=r.reverse++[(0,k0)]:=by simp
 rw [N9] at i1 i2
 rw [sA,List.foldl_append] at i2
 have hz:(r.reverse.foldl stp (λ_=>[])) 0=[]:=sy r.reverse _ λp hp=>hr p (by simpa using hp)
 have h0:([(0,k0)].foldl stp (r.reverse.foldl stp λ_=>[])) 0=[T.nd k0 ((r.reverse.foldl stp λ_=>[]) 1)]:=by
  show stp _ (0,k0) 0=_
  simp [stp,hz]
 rw [flat,h0] at i2
 refine ⟨T.nd k0 ((r.reverse.foldl stp λ_=>[]) 1),?_,?_⟩
 ·have:=congrArg (List.map (·.1)) i2
  rw [uv,gm,gm,Xv] at this
  rw [this,flat,A4]
  rw [Xv,Zu,List.map_fst_zip (by rw [l6];exact WZ _)]
  simp
 ·have:=congrArg (List.map (·.2)) i2
  rw [qg,bO,bO,Xv] at this
  rw [this,flat,A4]
  rw [Xv,Zu,List.map_snd_zip (by rw [l6];exact WZ _)]
  rw [N9]
theorem fR {κ:Type} [DecidableEq κ] {p:κ×D} {r:List (κ×D)} {k:κ} (e:p.1=k):fJ (p::r) k=some p.2:=by simp [fJ,YA,e]
theorem fS {κ:Type} [DecidableEq κ] {p:κ×D} {r:List (κ×D)} {k:κ} (e:¬ p.1=k):fJ (p::r) k=fJ r k:=by simp [fJ,YA,e]
theorem qk {κ:Type} [DecidableEq κ] (k:κ):∀ kvs:List (κ×D),(kvs.any λkv=>decide (kv.1=k))=(fJ kvs k).isSome
 | []=>rfl
 | p::r=>by
  rw [aaA]
  by_cases e:p.1=k
  ·simp only [fR e,decide_eq_true e,abL,Option.isSome_some]
  ·rw [fS e,decide_eq_false e,Bool.false_or];exact qk k r
theorem wF {κ:Type} [DecidableEq κ] (k j:κ) (y:D):∀ kvs:List (κ×D),fJ (kvs.map λkv=>if kv.1=k then (kv.1,y) else kv) j=(fJ kvs j).map λx=>if j=k then y else x
 | []=>rfl
 | p::r=>by
  have ih:=wF k j y r
  rw [WU]
  by_cases h:p.1=k
  ·rw [if_pos h]
   by_cases e:p.1=j
   ·rw [fR (p:=(p.1,y)) e,fR e,Option.map_some,if_pos (e.symm.trans h)]
   ·rw [fS (p:=(p.1,y)) e,fS e,ih]
  ·rw [if_neg h]
   by_cases e:p.1=j
   ·rw [fR (p:=p) e,fR e,Option.map_some,if_neg (λz=>h (e.trans z))]
   ·rw [fS (p:=p) e,fS e,ih]
theorem sC {κ:Type} [DecidableEq κ] (k j:κ) (y:D):∀ kvs:List (κ×D),fJ kvs k=none→fJ (kvs++[(k,y)]) j=if j=k then some y else fJ kvs j
 | [],_=>by
  by_cases e:k=j
  ·rw [if_pos e.symm];exact fR (p:=(k,y)) e
  ·rw [if_neg (λz=>e z.symm)];exact fS (p:=(k,y)) e
 | p::r,hn=>by
  rw [XT]
  have hk:¬ p.1=k:=λz=>by rw [fR z] at hn;cases hn
  rw [fS hk] at hn
  have ih:=sC k j y r hn
  by_cases e:p.1=j
  ·rw [fR e,fR e,if_neg (λz=>hk (e.trans z))]
  ·rw [fS e,fS e,ih]
theorem jU {κ:Type} [DecidableEq κ] (kvs:List (κ×D)) (k j:κ) (y:D):fJ (fT kvs k y) j=if j=k then some y else fJ kvs j:=by
 unfold fT
 by_cases a:(kvs.any λkv=>decide (kv.1=k))=true
 ·rw [if_pos a,wF]
  rw [qk] at a
  by_cases e:j=k
  ·obtain ⟨x,hx⟩:=Option.isSome_iff_exists.mp a
   rw [if_pos e,e,hx,Option.map_some,if_pos rfl]
  ·rw [if_neg e]
   cases fJ kvs j with
   | none=>rfl
   | some x=>rw [Option.map_some,if_neg e]
 ·rw [if_neg a]
  refine sC k j y kvs ?_
  rw [qk] at a
  cases q:fJ kvs k with
  | none=>rfl
  | some x=>rw [q] at a;exact (a rfl).elim
theorem oh {κ:Type} [DecidableEq κ] (kvs:List (κ×D)) (k:κ) (v:D):(fT kvs k v).length≤kvs.length+1:=by
 unfold fT
 split
 ·rw [W8];nofun
 ·rw [W9,WR,Xb];nofun
noncomputable def HK (f:Nat→List T) (kvs:List (Key×D)):Prop:=∀ n:Nat,(fJ kvs (Sum.inl (n:Int))).getD (.con [])=.con (dL (f n)).reverse
theorem mZ (τ:DS) (G:DH):eFn (aj aP (ah)) τ G=.ok (.con []) G:=by
 rw [bG,bM,aL,ao,cU (XQ _) rfl]
theorem zu {E:DS→M D} {τ:DS} {A B:DH} {kvs:List (Key×D)} {n:Int} (h1:τ[1]?=some (some (.obj A.length))) (h2:E τ (A++.dct kvs::B)=.ok (.int n) (A++.dct kvs::B)) :
  iI (af 1) E (eFn (aj aP (ah))) τ (A++.dct kvs::B)=.ok ((fJ kvs (Sum.inl n)).getD (.con [])) (A++.dct kvs::B):=by
 simp only [CV,aQ,h1,ao,rT,oY,if_true,h2,ai,mZ,yY,lU]
theorem Hf {E:DS→M D} {τ:DS} {H:DH} {xs:List D} {x:D} (h1:E τ H=.ok (.con xs) H) (h2:τ[6]?=some (some x)) (hc:aD xs=true) (hx:x.closed=true) (hz:xs.length+1≤WO) :
  eFn (ak aE E (eFn (aj aP (aa (af 6) (ah))))) τ H=.ok (.con (xs++[x])) H:=by
 have e1:eFn (aj aP (aa (af 6) (ah))) τ H=.ok (.con [x]) H:=by
  rw [bG]
  simp only [bM,aI,aL,aQ,h2,ao,ai,aX]
  rw [cU (by simp;nofun) (by simp [aH,hx,bh])]
 rw [bG,cg,h1,ao,ai,e1,ao]
 show (aP (xs++[x]) H).fw H=_
 rw [cU (by simp;nofun) (by rw [iB,hc];simp [aH,hx,bh])]
theorem jr {xs:List D} (h:aD xs=true):aD xs.reverse=true:=by
 induction xs with
 | nil=>rfl
 | cons x xs ih=>
  rw [aH] at h
  have h':x.closed=true∧aD xs=true:=by simpa using h
  rw [XU,iB,ih h'.2];simp [aH,h'.1,bh]
theorem yo (G:DH) (a0 a5 a6:Option D) (d:Nat) (k:Str) (f:Nat→List T) (kvs:List (Key×D)) (acc:List T) (M:Nat) (hM:M≤200) (hk:HK f kvs) (hf:∀ n,(f n).length≤M) (Kp:kvs.length≤2*M) (ha:acc.length≤M) :
  ∃ (b5:Option D) (kvs':List (Key×D)),HK (stp f (d,k)) kvs'∧kvs'.length≤2*(M+1) ∧
   eW [a0,some (.obj G.length),some (.obj (G.length+1)),some (.int (d:Int)),some (.str k),a5,a6] (G++[.dct kvs,.lst (acc.map T.d)]) =
    .nx [a0,some (.obj G.length),some (.obj (G.length+1)),some (.int (d:Int)),some (.str k),b5,some (T.nd k (f (d+1))).d] (G++[.dct kvs',.lst ((acc++[T.nd k (f (d+1))]).map T.d)]):=by
 have hd1:=hk (d+1)
 have ei:((d+1:Nat):Int)=(d:Int)+1:=by nofun
 rw [ei] at hd1
 have hd0:=hk d
 have hlen:∀ n,(dL (f n)).length≤M:=λn=>by rw [qc,W8];exact hf n
 have hcl:∀ n,aD (dL (f n)).reverse=true:=λn=>jr (mX _)
 generalize hk1:fT kvs (Sum.inl ((d:Int)+1)) (.con [])=qT
 have hne:(Sum.inl (d:Int):Key)≠Sum.inl ((d:Int)+1):=λe=>by have:=abf e;nofun
 have hv1:(fJ qT (Sum.inl (d:Int))).getD (.con [])=.con (dL (f d)).reverse:=by
  rw [← hk1,jU,if_neg hne];exact hd0
 generalize hk2:fT qT (Sum.inl (d:Int)) (.con ((dL (f d)).reverse++[(T.nd k (f (d+1))).d]))=Hg
 have l1:qT.length≤2*M+1:=by rw [← hk1];have:=oh kvs (Sum.inl ((d:Int)+1)) (.con []);nofun
 have l2:Hg.length≤2*M+2:=by rw [← hk2];have:=oh qT (Sum.inl (d:Int)) (.con ((dL (f d)).reverse++[(T.nd k (f (d+1))).d]));nofun
 have z0:kvs.length<WO:=W0 (by nofun) (lz (n:=1001) (by nofun))
 have z1:qT.length<WO:=W0 (by nofun) (lz (n:=1001) (by nofun))
 have z2:(2:Nat)≤WO:=lz (by nofun)
 have z3:(dL (f (d+1))).length≤WO:=lz (by have:=hlen (d+1);nofun)
 have z4:(dL (f d)).reverse.length+1≤WO:=lz (by rw [Zy];have:=hlen d;nofun)
 have z5:acc.length<WO:=W0 (by nofun) (lz (n:=1001) (by nofun))
 refine ⟨some (.con (dL (f (d+1))).reverse),Hg,λn=>?_,by nofun,?_⟩
 ·rw [← hk2,jU]
  by_cases e:n=d
  ·subst e
   rw [if_pos rfl]
   simp [stp,dL]
  ·have ne2:(Sum.inl (n:Int):Key)≠Sum.inl (d:Int):=λz=>e (by have:=abf z;nofun)
   rw [if_neg ne2,← hk1,jU]
   by_cases e1:n=d+1
   ·subst e1
    rw [if_pos (by rw [ei])]
    simp only [stp]
    rw [if_neg (by nofun)]
    simp [dL]
   ·have ne3:(Sum.inl (n:Int):Key)≠Sum.inl ((d:Int)+1):=λz=>e1 (by have:=abf z;nofun)
    rw [if_neg ne3]
    simp only [stp]
    rw [if_neg e,if_neg e1]
    exact hk n
 ·have g1:=zu (E:=ak aE (af 3) (eC (.int 1))) (τ:=[a0,some (.obj G.length),some (.obj (G.length+1)),some (.int (d:Int)),some (.str k),a5,a6]) (A:=G) (B:=[.lst (acc.map T.d)]) (kvs:=kvs) (n:=(d:Int)+1) rfl (by simp! [])
  rw [hd1] at g1
  have g2:∀ x,iI (af 1) (af 3) (eFn (aj aP (ah))) [a0,some (.obj G.length),some (.obj (G.length+1)),some (.int (d:Int)),some (.str k),some (.con (dL (f (d+1))).reverse),x] (G++.dct qT::[.lst (acc.map T.d)])=.ok (.con (dL (f d)).reverse) (G++.dct qT::[.lst (acc.map T.d)]):=λx=>by
   have:=zu (E:=af 3) (τ:=[a0,some (.obj G.length),some (.obj (G.length+1)),some (.int (d:Int)),some (.str k),some (.con (dL (f (d+1))).reverse),x]) (A:=G) (B:=[.lst (acc.map T.d)]) (kvs:=qT) (n:=(d:Int)) rfl rfl
   rw [hv1] at this
   exact this
  have g3:=Hf (x:=(T.nd k (f (d+1))).d) (g2 (some (T.nd k (f (d+1))).d)) rfl (hcl d) (jT _) z4
  have et:(T.nd k (f (d+1))).d=.tup [.str k,.tup (dL (f (d+1)))]:=by rw [T.d]
  rw [et] at g3 hk2 ⊢
  generalize Vs:iI (af 1) (ak aE (af 3) (eC (.int 1))) (eFn (aj aP (ah)))=E1 at g1
  generalize Vt:eFn (ak aE (iI (af 1) (af 3) (eFn (aj aP (ah)))) (eFn (aj aP (aa (af 6) (ah)))))=E2 at g3
  unfold eW
  rw [Vs,Vt]
  simp! [g1,mZ,rV,lU,vm,hk1,z0,g3,hk2,z1,vH,z2,z3,z5,H8,Qm,et]
theorem Hh {f:Nat→List T} {M:Nat} (h:∀ n,(f n).length≤M) (p:Nat×Str) (n:Nat):(stp f p n).length≤M+1:=by
 simp only [stp]
 split
 ·have:=h p.1
  simp;nofun
 ·split
  ·simp
  ·have:=h n
   nofun
theorem ql (G:DH) (a0:Option D):∀ (q:List (Nat×Str)) (f:Nat→List T) (kvs:List (Key×D)) (acc:List T) (M:Nat) (a3 a4 a5 a6:Option D),M+q.length≤200→HK f kvs→(∀ n,(f n).length≤M)→kvs.length≤2*M→acc.length≤M →
  ∃ (b3 b4 b5 b6:Option D) (kvs':List (Key×D)),bC (gP 3 4) eW (q.map row) [a0,some (.obj G.length),some (.obj (G.length+1)),a3,a4,a5,a6] (G++[.dct kvs,.lst (acc.map T.d)]) =
   .nx [a0,some (.obj G.length),some (.obj (G.length+1)),b3,b4,b5,b6] (G++[.dct kvs',.lst ((acc++mY f q).map T.d)])
 | [],f,kvs,acc,M,a3,a4,a5,a6,hM,hk,hf,Kp,ha=>⟨a3,a4,a5,a6,kvs,by simp [bC,mY]⟩
 | (d,k)::q,f,kvs,acc,M,a3,a4,a5,a6,hM,hk,hf,Kp,ha=>by
  simp only [WR] at hM
  obtain ⟨b5,qT,h1,h2,e1⟩:=yo G a0 a5 a6 d k f kvs acc M (by nofun) hk hf Kp ha
  obtain ⟨c3,c4,c5,c6,Hg,e2⟩:=ql G a0 q (stp f (d,k)) qT (acc++[T.nd k (f (d+1))]) (M+1) (some (.int (d:Int))) (some (.str k)) b5 (some (T.nd k (f (d+1))).d) (by nofun) h1 (Hh hf (d,k)) h2 (by simp;nofun)
  refine ⟨c3,c4,c5,c6,Hg,?_⟩
  rw [WU,bE (τ1:=[a0,some (.obj G.length),some (.obj (G.length+1)),some (.int (d:Int)),some (.str k),a5,a6]) rfl,e1,fP,e2,mY]
  simp
theorem Hi {τ:DS} {H:DH} {n:Nat} {L:List D} (h:τ[2]?=some (some (.obj n))) (hg:H[n]?=some (.lst L)) (hz:L.length≤WO) (hc:aD L=true):eFn (aj kF (aa (af 2) (ah))) τ H=.ok (.con L.reverse) H:=by
 rw [bG]
 simp only [bM,aI,aL,aQ,h,ao,ai,aX,kF,aA,hg]
 rw [cU (by simpa using hz) (jr hc)]
theorem DE (rs:List (Nat×Str)) (hl:rs.length≤100) (G:DH):gF [.con (rs.map row)] G=.ok (.con ((mY (λ_=>[]) rs.reverse).reverse.map T.d)) G:=by
 obtain ⟨b3,b4,b5,b6,kvs,e⟩:=ql G (some (.con (rs.map row))) rs.reverse (λ_=>[]) [] [] 0 none none none none (by simp;nofun) (λn=>rfl) (λn=>WZ _) (by simp) (by simp)
 have hz:((mY (λ_=>[]) rs.reverse).map T.d).length≤WO:=lz (by rw [W8,l6,Zy];nofun)
 have hc:aD ((mY (λ_=>[]) rs.reverse).map T.d)=true:=ay jT
 simp only [Xd,Xk] at e
 rw [Zu]
 generalize (mY (λ_=>[]) rs.reverse).map T.d=L at e hz hc
 refine fj (R:=[.dct kvs,.lst L]) ?_ (by rw [aJ];exact jr hc)
 have hn:aP [] (G++[.dct []])=.ok (.obj (G.length+1)) (G++[.dct [],.lst []]):=by simp [aP]
 rw [Zu] at e
 generalize rs.map row=xs at e
 have er:=Hi (τ:=[some (.con xs),some (.obj G.length),some (.obj (G.length+1)),b3,b4,b5,b6]) (H:=G++[.dct kvs,.lst L]) (n:=G.length+1) rfl (H8 _ _ _ _) hz hc
 unfold ji
 simp! [hn,yZ,e,er]
noncomputable def pl (p:List Int):D:=.tup (p.map .int)
theorem A5 (xs ys:List D) (G:DH) (h:xs.length+ys.length≤WO):aE (.tup xs) (.tup ys) G=.ok (.tup (xs++ys)) G:=by
 cases xs with
 | nil=>rfl
 | cons x xs=>show bA (x::xs++ys) G=_;rw [bA,if_pos (by simp at h ⊢;nofun)]
noncomputable def Lst (p:List Int) (j:Int) (q:List Int):Prop:=(j=0∧q=p)∨∃ i r,j=i+1∧q=p++i::r
theorem Hj (p r:List Int) (i:Int):iL ((p++i::r).map D.int) (p.length:Int)=some (.int i):=by
 refine f6 ?_
 rw [Xn]
 simp
theorem yp (G:DH) (a0 b4:Option D) (k:Str) (p q:List Int) (j:Int) (ini:List (List Int)) (h:Lst p j q) (hp:p.length≤1000) (hi:ini.length≤1000) :
  bX [a0,some (.obj G.length),some (.int ((p.length+1:Nat):Int)),some (.str k),b4] (G++[.lst ((ini++[q]).map pl)]) =
   .nx [a0,some (.obj G.length),some (.int ((p.length+1:Nat):Int)),some (.str k),some (pl q)] (G++[.lst ((ini++[q]++[p++[j]]).map pl)]):=by
 have hla:iL ((ini++[q]).map pl) (-1)=some (pl q):=by
  rw [Xu,WU,Xk,p7]
 have z1:((ini++[q]).map pl).length<WO:=W0 (by simp;nofun) (lz (n:=2001) (by nofun))
 have z2:(1:Nat)≤WO:=lz (by nofun)
 have hadd:=A5
 have ex:(ini++[q]++[p++[j]]).map pl=(ini++[q]).map pl++[pl (p++[j])]:=by rw [Xu,WU,Xk]
 rw [ex]
 generalize (ini++[q]).map pl=L at hla z1
 rcases h with ⟨rfl,rfl⟩ | ⟨i,r,rfl,rfl⟩
 ·have z3:q.length+1≤WO:=lz (by nofun)
  have hA:=A5 (q.map .int) [.int 0]
  simp only [W8,WR,Xb] at hA
  have Ls:∀ G,aE (pl q) (.tup [.int 0]) G=.ok (pl (q++[0])) G:=λG=>by
   unfold pl
   rw [hA G (by nofun)];simp
  have hlen:∀ G,cA [pl q] G=.ok (.int (q.length:Int)) G:=λG=>by simp [cA,pl,aA]
  have hd:((q.length:Int)<((q.length+1:Nat):Int)):=by nofun
  generalize pl q=pq at hla Ls hlen
  generalize pl (q++[0])=pn at Ls
  generalize ((q.length+1:Nat):Int)=dd at hd
  have z4:0+1≤WO:=z2
  unfold bX
  simp only [bq,di,cg,tK,tL,aQ,eN,ao,ai,W4,WX,aT,aA,oY,hla,fO,b9,iQ,gh,bM,aI,aL,aX,hlen,cH,if_true,dM,qL,qM,f7,dN,cT,aS,if_pos z1,vm,jI,bA,WR,Xb,Xq,Xp,beq_self_eq_true,decide_eq_true hd,Ls,if_pos z4]
 ·have z3:p.length+1≤WO:=lz (by nofun)
  have hlen:∀ G,cA [pl (p++i::r)] G=.ok (.int ((p++i::r).length:Int)) G:=λG=>by simp [cA,pl,aA]
  have hd:¬ (((p++i::r).length:Int)<((p.length+1:Nat):Int)):=by simp;nofun
  have hix:∀ G,aT (pl (p++i::r)) (.int (p.length:Int)) G=.ok (.int i) G:=λG=>by
   simp only [aT,pl,aA,Hj]
  have hsl:∀ G,uD (pl (p++i::r)) none (some (p.length:Int)) G=.ok (pl p) G:=λG=>by
   unfold pl
   simp only [uD,aA]
   have hs:HT.eG ((p++i::r).map D.int).length ((p++i::r).map D.int).length (some (p.length:Int))=p.length:=by
    rw [HT.nO];simp
   rw [if_neg (by rw [hs];simp),bA]
   have o7:cutD ((p++i::r).map D.int) none (some (p.length:Int))=p.map .int:=by
    unfold cutD
    rw [hs,HT.jD];simp
   rw [o7,if_pos (by simp;nofun)]
  have hA:=A5 (p.map .int) [.int (i+1)]
  simp only [W8,WR,Xb] at hA
  have Ls:∀ G,aE (pl p) (.tup [.int (i+1)]) G=.ok (pl (p++[i+1])) G:=λG=>by
   unfold pl
   rw [hA G (by nofun)];simp
  have Vu:∀ G,aE (.int i) (.int 1) G=.ok (.int (i+1)) G:=λG=>rfl
  have Rg:((p.length+1:Nat):Int) - 1=(p.length:Int):=by nofun
  have hfw:∀ G,(Out.ok (pl p) G).fw G=.ok (pl p) G:=λG=>CU
  generalize pl (p++i::r)=pq at hla hlen hix hsl
  generalize ((p++i::r).length:Int)=ll at hlen hd
  generalize pl (p++[i+1])=pn at Ls
  generalize pl p=pp at hsl Ls hfw
  generalize ((p.length+1:Nat):Int)=dd at hd Rg
  have z4:0+1≤WO:=z2
  unfold bX
  rw [bq,di]
  have e1:ak aT (af 1) (gA (eC (.int 1))) [a0,some (.obj G.length),some (.int dd),some (.str k),b4] (G++[.lst L])=.ok pq (G++[.lst L]):=by
   simp only [bq,di,cg,tK,tL,aQ,eN,ao,ai,W4,WX,aT,aA,oY,hla,fO,b9,iQ,gh,bM,aI,aL,aX,hlen,cH,if_true,dM,qL,qM,f7,dN,cT,aS,if_pos z1,vm,jI,bA,WR,Xb,Xq,Xp,beq_self_eq_true]
  rw [e1,fO,b9,iQ]
  have e2:fH (ak rH (af 2) (aj cA (aa (af 4) (ah)))) [a0,some (.obj G.length),some (.int dd),some (.str k),some pq] (G++[.lst L])=.ok false (G++[.lst L]):=by
   simp only [gh,cg,aQ,bM,aI,aL,ao,ai,aX,W4,WX,hlen,cH,if_true,dM,decide_eq_false hd]
  simp only [Xq,Xp]
  rw [e2,qM]
  have e3:∀ τ,eFn (j5 (af 4) (cE) (bY (ak kq (af 2) (eC (.int 1))))) (a0::some (.obj G.length)::some (.int dd)::some (.str k)::some pq::τ) (G++[.lst L])=.ok pp (G++[.lst L]):=λτ=>by
   rw [bG]
   simp only [vq,aQ,W4,WX,ao,ai,lM,lN,cg,eN,cH,if_true,aX,lO,Rg,hsl,hfw]
  have e4:∀ τ,ak aT (af 4) (ak kq (af 2) (eC (.int 1))) (a0::some (.obj G.length)::some (.int dd)::some (.str k)::some pq::τ) (G++[.lst L])=.ok (.int i) (G++[.lst L]):=λτ=>by
   simp only [aQ,W4,WX,ao,ai,cg,eN,cH,if_true,aX,Rg,hix]
  generalize eFn (j5 (af 4) (cE) (bY (ak kq (af 2) (eC (.int 1)))))=E3 at e3
  generalize ak aT (af 4) (ak kq (af 2) (eC (.int 1)))=E4 at e4
  simp only [f7,dN,aQ,W4,WX,ao,cT,oY,beq_self_eq_true,if_true,aI,cg,e3,ai,bM,e4,eN,Vu,aL,aX,bA,WR,Xb,if_pos z4,Ls,aS,if_pos z1,vm,jI]
mutual
theorem Ho (G:DH) (a0:Option D):∀ (t:T) (p q:List Int) (j:Int) (ini:List (List Int)) (b2 b3 b4:Option D) (rest:List D),Lst p j q→p.length+t.subs.length≤1000→ini.length+t.subs.length≤1000 →
  ∃ (c2 c3 c4:Option D) (yq:List (List Int)) (r:List Int),yq++[p++j::r]=ini++[q]++(t.prs (p++[j])).map (·.1) ∧
   bC (gP 2 3) bX ((t.pre (p.length+1)).map row++rest) [a0,some (.obj G.length),b2,b3,b4] (G++[.lst ((ini++[q]).map pl)]) =
    bC (gP 2 3) bX rest [a0,some (.obj G.length),c2,c3,c4] (G++[.lst ((yq++[p++j::r]).map pl)])
 | .nd k ps,p,q,j,ini,b2,b3,b4,rest,h,hp,hi=>by
  rw [T.subs,WR] at hp hi
  have e1:=yp G a0 b4 k p q j ini h (by nofun) (by nofun)
  obtain ⟨c2,c3,c4,yq,r,e2,e3⟩:=uw G a0 ps (p++[j]) (p++[j]) 0 (ini++[q]) (some (.int ((p.length+1:Nat):Int))) (some (.str k)) (some (pl q)) rest (.inl ⟨rfl,rfl⟩) (by simp;nofun) (by simp;nofun)
  have hl:(p++[j]).length+1=p.length+1+1:=by simp
  rw [hl] at e3
  refine ⟨c2,c3,c4,yq,r,?_,?_⟩
  ·rw [T.prs,WU]
   rw [show p++j::r=p++[j]++r by simp,e2];simp
  ·rw [T.pre,WU,XT,bE (τ1:=[a0,some (.obj G.length),some (.int ((p.length+1:Nat):Int)),some (.str k),b4]) rfl,e1,fP]
   rw [e3,show p++j::r=p++[j]++r by simp]
theorem uw (G:DH) (a0:Option D):∀ (ts:List T) (p q:List Int) (j:Int) (ini:List (List Int)) (b2 b3 b4:Option D) (rest:List D),Lst p j q→p.length+(bO ts).length≤1000→ini.length+(bO ts).length≤1000 →
  ∃ (c2 c3 c4:Option D) (yq:List (List Int)) (r:List Int),yq++[p++r]=ini++[q]++(cL p j ts).map (·.1) ∧
   bC (gP 2 3) bX ((gm (p.length+1) ts).map row++rest) [a0,some (.obj G.length),b2,b3,b4] (G++[.lst ((ini++[q]).map pl)]) =
    bC (gP 2 3) bX rest [a0,some (.obj G.length),c2,c3,c4] (G++[.lst ((yq++[p++r]).map pl)])
 | [],p,q,j,ini,b2,b3,b4,rest,h,hp,hi=>by
  obtain ⟨r,hr⟩:∃ r,q=p++r:=by
   rcases h with ⟨_,rfl⟩ | ⟨i,r,_,rfl⟩
   ·exact ⟨[],by simp⟩
   ·exact ⟨_,rfl⟩
  subst hr
  exact ⟨b2,b3,b4,ini,r,by simp [cL],by simp [gm]⟩
 | t::ts,p,q,j,ini,b2,b3,b4,rest,h,hp,hi=>by
  rw [bO,W9] at hp hi
  obtain ⟨c2,c3,c4,Oa,r1,e1,f1⟩:=Ho G a0 t p q j ini b2 b3 b4 ((gm (p.length+1) ts).map row++rest) h (by nofun) (by nofun)
  have hlen:Oa.length=ini.length+(t.prs (p++[j])).length:=by
   have:=congrArg ZF e1
   simp at this;nofun
  have hpl:(t.prs (p++[j])).length=t.subs.length:=by rw [← dw (p++[j]) t,W8]
  obtain ⟨d2,d3,d4,Rh,r2,e2,f2⟩:=uw G a0 ts p (p++j::r1) (j+1) Oa c2 c3 c4 rest (.inr ⟨j,r1,rfl,rfl⟩) (by nofun) (by nofun)
  refine ⟨d2,d3,d4,Rh,r2,?_,?_⟩
  ·rw [e2,e1,cL];simp
  ·rw [gm,Xu,Yk,f1,f2]
end
theorem A6 (p:List Int):(pl p).closed=true:=by rw [pl,fC];exact ay λ_=>bB
theorem DF (t:T) (ht:t.subs.length≤100) (G:DH):jl [.con ((t.pre 0).map row)] G=.ok (.con (((t.prs []).map (·.1)).map pl)) G:=by
 obtain ⟨k,ps⟩:=t
 rw [T.subs,WR] at ht
 have z1:(1:Nat)≤WO:=lz (by nofun)
 obtain ⟨c2,c3,c4,ini,r,e1,e2⟩:=uw G (some (.con (((T.nd k ps).pre 0).map row))) ps [] [] 0 [] none none none [] (.inl ⟨rfl,rfl⟩) (by simp;nofun) (by simp;nofun)
 have e3:(((T.nd k ps).prs []).map (·.1))=ini++[[]++r]:=by rw [e1,T.prs];simp
 rw [e3]
 rw [Xv,dO] at e2
 generalize (ini++[[]++r])=L at e2
 refine fj (R:=[.dead]) ?_ (by rw [aJ];exact ay A6)
 have hpre:((T.nd k ps).pre 0).map row=row (0,k)::(gm 1 ps).map row:=by rw [T.pre,WU]
 have hl:(gm 1 ps).length=(bO ps).length:=qe 1 ps
 simp only [Xb,aag] at e2
 have hsl:∀ τ G,eFn (j5 (af 0) (bY (eC (.int 1))) (cE)) (some (.con (((T.nd k ps).pre 0).map row))::τ) G=.ok (.con ((gm 1 ps).map row)) G:=λτ G=>by
  rw [bG]
  have hs:HT.eG (((T.nd k ps).pre 0).map row).length 0 (some 1)=1:=by
   have:=HT.nO (((T.nd k ps).pre 0).map row).length 0 1
   rw [show ((1:Nat):Int)=1 from rfl] at this
   rw [this,hpre];simp
  have o7:cutD (((T.nd k ps).pre 0).map row) (some 1) none=(gm 1 ps).map row:=by
   unfold cutD
   rw [hs,HT.jD,hpre];simp
   exact aa0 (by simp)
  have e:j5 (af 0) (bY (eC (.int 1))) (cE) (some (.con (((T.nd k ps).pre 0).map row))::τ) G=aP ((gm 1 ps).map row) G:=by
   simp only [vq,aQ,WX,ao,ai,lN,eN,lO,lM,uD,aA,o7]
  rw [e,cU (lz (by simp;nofun)) (ay λp=>by rw [row,fC];simp [aH,bB,cB,bh])]
 generalize ((T.nd k ps).pre 0).map row=xs at e2 hsl
 generalize (gm 1 ps).map row=ys at e2 hsl
 have hn:aP [.tup []] G=.ok (.obj G.length) (G++[.lst [.tup []]]):=by simp [aP,z1]
 have ep:([[]]:List (List Int)).map pl=[.tup []]:=rfl
 simp only [Xd,ep] at e2
 generalize hE:eFn (j5 (af 0) (bY (eC (.int 1))) (cE))=E at hsl
 unfold jk
 rw [hE]
 simp! [hn,hsl,e2]
noncomputable def gc (x:List Int×T):D:=.tup [pl x.1,x.2.d]
theorem g8 (p:List Int):(pl p).closed=true:=by rw [pl,fC];exact ay λ_=>bB
theorem g9 (x:List Int×T):(gc x).closed=true:=by
 rw [gc,fC,aH,aH,g8,jT];rfl
noncomputable def kids (p:List Int) (j:Int):List T→List (List Int×T)
 | []=>[]
 | t::r=>(p++[j],t)::kids p (j+1) r
theorem wG (p:List Int):∀ (ts:List T) (j:Int),(kids p j ts).length=ts.length
 | [],j=>rfl
 | t::r,j=>by rw [kids,WR,wG p r,WR]
theorem sD (p:List Int):∀ (ts:List T) (j:Int),cL p j ts=(kids p j ts).flatMap λx=>x.2.prs x.1
 | [],j=>rfl
 | t::r,j=>by rw [cL,kids,Zo,sD p r]
noncomputable def kf (p:List Int):D→D
 | .tup [.int i,y]=>.tup [.tup (p.map .int++[.int i]),y]
 | _=>.eO
noncomputable def A7:D→List D
 | .tup xs=>xs
 | _=>[]
theorem wH (p:List Int):∀ (ts:List T) (j:Nat),((dL ts).mapIdx λi x=>D.tup [.int ((i+j:Nat):Int),x]).map (kf p)=(kids p (j:Int) ts).map gc
 | [],j=>rfl
 | t::r,j=>by
  have ih:=wH p r (j+1)
  rw [dL,kids,ab0,WU,WU]
  congr 1
  ·simp [kf,gc,pl]
  ·rw [show ((j+1:Nat):Int)=(j:Int)+1 by nofun] at ih
   rw [← ih]
   congr 1
   apply abR
   intro i
   simp only [Zs]
   congr 1
   funext x
   rw [show i+1+j=i+(j+1) by nofun]
theorem DG (p:List Int) (k:Str) (ps:List T) (hp:p.length≤1000) (hs:ps.length≤1000) (G:DH):aW [gc (p,.nd k ps)] G=.ok (.con ((kids p 0 ps).map gc)) G:=by
 have z1:(1:Nat)≤WO:=lz (by nofun)
 have z2:(2:Nat)≤WO:=lz (by nofun)
 have SH:gc (p,.nd k ps)=.tup [.tup (p.map .int),.tup [.str k,.tup (dL ps)]]:=by rw [gc,T.d];rfl
 have hdl:(dL ps).length=ps.length:=by rw [qc,W8]
 have a0:∀ (x y:D),iL [x,y] 0=some x:=λx y=>by
  have:=f6 (xs:=[x,y]) (j:=0) (v:=x) rfl
  simpa using this
 have a1:∀ (x y:D),iL [x,y] 1=some y:=λx y=>by
  have:=f6 (xs:=[x,y]) (j:=1) (v:=y) rfl
  simpa using this
 have km:=wH p ps 0
 simp only [Nat.add_zero,ab1] at km
 have c1:=bQ (τ:=[some (gc (p,.nd k ps))]) (G:=G) (gO:=oT 2) (ks:=[true]) (te:=aj bA (aa (ak aE (ak aT (af 2) (eC (.int 0))) (aj bA (aa (af 0) (ah)))) (aa (af 1) (ah)))) (own:=A7) (f:=kf p) ((dL ps).mapIdx λi x=>D.tup [.int (i:Int),x]) [] (by simp;nofun) (λx hx=>by
   obtain ⟨i,hi,rfl⟩:=ZE.mp hx
   simp [oT,A7]) (λx hx acc=>by
   obtain ⟨i,hi,rfl⟩:=ZE.mp hx
   rw [SH]
   have hA:=A5 (p.map .int) [.int (i:Int)] (G++[.lst acc]) (lz (by simp;nofun))
   generalize (dL ps)[i]=y
   simp only [A7,kf] at hA ⊢
   generalize p.map D.int=pp at hA ⊢
   simp only [ WU,Xk,mask,XT,Xd,if_true,bM,aI,aL,cg,aQ,eN,W4,WX,ao,ai,aX,aT,aA,a0,bA,WR,Xb,if_pos (show 0+1≤WO from z1),if_pos (show 0+1+1≤WO from z2),hA])
 rw [km,Xd] at c1
 refine aR ?_ (by rw [aJ];exact ay g9)
 have e2:eFn (bZ (oT 2) [true] (dP (aa (ak aT (ak aT (af 0) (eC (.int 1))) (eC (.int 1))) (ah))) (bW) (aj bA (aa (ak aE (ak aT (af 2) (eC (.int 0))) (aj bA (aa (af 0) (ah)))) (aa (af 1) (ah))))) [some (gc (p,.nd k ps))] G=.ok (.con ((kids p 0 ps).map gc)) G:=by
  rw [bG]
  have e3:bZ (oT 2) [true] (dP (aa (ak aT (ak aT (af 0) (eC (.int 1))) (eC (.int 1))) (ah))) (bW) (aj bA (aa (ak aE (ak aT (af 2) (eC (.int 0))) (aj bA (aa (af 0) (ah)))) (aa (af 1) (ah)))) [some (gc (p,.nd k ps))] G=.ok (.obj G.length) (G++[.lst ((kids p 0 ps).map gc)]):=by
   rw [← c1,← xZ]
   have hq:∀ G,dP (aa (ak aT (ak aT (af 0) (eC (.int 1))) (eC (.int 1))) (ah)) [some (gc (p,.nd k ps))] G=.ok ((dL ps).length+1,jL (dL ps)) G:=λG=>by
    rw [SH]
    simp only [pC,aI,aL,cg,aQ,eN,WX,ao,ai,aX,aT,aA,a1]
   rw [jJ,hq,ao]
  rw [e3,dQ (ay g9)]
 unfold g6
 simp only [fB,WU,Xk,WR,Xb,aa1,Zz,Xv,fY,e2,iR,iS]
noncomputable def tot:List (List Int×T)→Nat
 | []=>0
 | x::r=>x.2.subs.length+tot r
theorem ux:∀ xs ys:List (List Int×T),tot (xs++ys)=tot xs+tot ys
 | [],ys=>by simp [tot]
 | x::xs,ys=>by rw [XT,tot,tot,ux xs ys];nofun
theorem wI (p:List Int):∀ (ts:List T) (j:Int),tot (kids p j ts)=(bO ts).length
 | [],j=>rfl
 | t::r,j=>by rw [kids,tot,wI p r,bO,W9]
theorem l7 (t:T):1≤t.subs.length:=by cases t;rw [T.subs,WR];nofun
theorem m5:∀ ts:List T,ts.length≤(bO ts).length
 | []=>XQ _
 | t::r=>by
  have:=l7 t
  have:=m5 r
  rw [bO,W9,WR];nofun
theorem zv:∀ ws:List (List Int×T),ws.length≤tot ws
 | []=>XQ _
 | x::r=>by
  have:=l7 x.2
  have:=zv r
  rw [tot,WR];nofun
theorem Ob:XZ ("placed_parts":Str) [("placed_parts",aW),("look_parts",bw)]=some aW:=by simp [XZ]
theorem nB {y:Str} {mp:List D→M D} (hlk:XZ y [("placed_parts",aW),("look_parts",bw)]=some mp) (A:DH) (a0 a4:Option D) (F R P:List D) (d:D) (hp:∀ H,mp [d] H=.ok (.con P) H) (hcl:aD P=true) (hF:F.length≤1000) (hR:R.length+P.length≤2000) :
  dz [a0,some (.fn y),some (.obj A.length),some (.obj (A.length+1)),a4] (A++[.lst F,.lst (R++[d])])=.nx [a0,some (.fn y),some (.obj A.length),some (.obj (A.length+1)),some d] (A++[.lst (F++[d]),.lst (R++P.reverse)]):=by
 have z1:F.length<WO:=W0 (by nofun) (lz (n:=1001) (by nofun))
 have z2:R.length+P.reverse.length≤WO:=lz (by simp;nofun)
 have z3:P.reverse.length≤WO:=lz (by simp;nofun)
 have e1:∀ H,eFn (aj kF (aa (jb 1 1 (λy=>XZ y [("placed_parts",aW),("look_parts",bw)]) (aa (af 4) (ah))) (ah))) [a0,some (.fn y),some (.obj A.length),some (.obj (A.length+1)),some d] H=.ok (.con P.reverse) H:=λH=>by
  rw [bG]
  simp only [bM,aI,aL,CH,cO,aQ,W4,WX,hlk,ao,ai,aX,WR,Xb,if_true,hp,kF,aA]
  rw [cU z3 (jr hcl)]
 generalize hE:eFn (aj kF (aa (jb 1 1 (λy=>XZ y [("placed_parts",aW),("look_parts",bw)]) (aa (af 4) (ah))) (ah)))=E at e1
 have hg:(R++[d])[(R++[d]).length - 1]?=some d:=by simp
 have hd:(R++[d]).dropLast=R:=by simp
 unfold dz
 rw [hE]
 simp only [bq,di,f7,dN,aQ,W4,WX,ao,cT,oY,H8,beq_self_eq_true,if_true,aL,kN,hg,hd,Qm,fO,b9,Xq,Xp,aI,ai,aX,aS,if_pos z1,vm,jI,e1,vz,mP,if_pos z2]
theorem nD (A:DH) (a0:Option D):∀ (n:Nat) (F:List (List Int×T)) (ws:List (List Int×T)) (a4:Option D),tot ws<n→F.length+tot ws≤1000→(∀ x∈ws,x.1.length+x.2.subs.length≤1000) →
  ∃ b4,fy (fH (ak rH (aj cA (aa (af 3) (ah))) (eC (.int 0)))) dz n [a0,some (.fn "placed_parts"),some (.obj A.length),some (.obj (A.length+1)),a4] (A++[.lst (F.map gc),.lst (ws.map gc).reverse]) =
   .nx [a0,some (.fn "placed_parts"),some (.obj A.length),some (.obj (A.length+1)),b4] (A++[.lst ((F++ws.flatMap λx=>x.2.prs x.1).map gc),.lst []])
 | 0,F,ws,a4,h,_,_=>by nofun
 | n+1,F,[],a4,h,hF,hw=>by
  refine ⟨a4,?_⟩
  simp only [lQ,gh,cg,bM,aI,aL,aQ,eN,W4,WX,ao,ai,aX,cA,aA,H8,Xk,aaM,Xb,cH,if_true,dM,ab2,Xv]
  rw [show decide ((0:Int)<((0:Nat):Int))=false from by decide,qM,jc]
 | n+1,F,(p,.nd k ps)::ws,a4,h,hF,hw=>by
  have h0:=hw (p,.nd k ps) (by simp)
  simp only [T.subs,WR] at h0
  rw [tot] at h hF
  simp only [T.subs,WR] at h hF
  have hl:=m5 ps
  have hk:=wI p ps 0
  have hlt:=zv ws
  have Kp:=wG p ps 0
  obtain ⟨b4,e2⟩:=nD A a0 n (F++[(p,.nd k ps)]) (kids p 0 ps++ws) (some (gc (p,.nd k ps))) (by rw [ux];nofun) (by rw [ux];simp;nofun) (λx hx=>by
   rcases Xy.mp hx with hx | hx
   ·have key:∀ (ts:List T) (j:Int),x∈kids p j ts→x.1.length=p.length+1∧x.2.subs.length≤(bO ts).length:=by
     intro ts
     induction ts with
     | nil=>intro j hx;simp [kids] at hx
     | cons t r ih=>
      intro j hx
      rw [kids] at hx
      rw [bO,W9]
      rcases Xl.mp hx with rfl | hx
      ·exact ⟨by simp,by simp⟩
      ·obtain ⟨i1,i2⟩:=ih _ hx
       exact ⟨i1,by nofun⟩
    obtain ⟨i1,i2⟩:=key ps 0 hx
    nofun
   ·exact hw x (by simp [hx]))
  refine ⟨b4,?_⟩
  have e1:=nB Ob A a0 a4 (F.map gc) (ws.map gc).reverse ((kids p 0 ps).map gc) (gc (p,.nd k ps)) (DG p k ps (by nofun) (by nofun)) (ay g9) (by simp;nofun) (by simp;nofun)
  have er:(((p,T.nd k ps)::ws).map gc).reverse=(ws.map gc).reverse++[gc (p,.nd k ps)]:=by simp
  have Vv:((ws.map gc).reverse++((kids p 0 ps).map gc).reverse)=((kids p 0 ps++ws).map gc).reverse:=by simp
  have ef:F.map gc++[gc (p,T.nd k ps)]=(F++[(p,T.nd k ps)]).map gc:=by simp
  have eb:(F++((p,T.nd k ps)::ws).flatMap λx=>x.2.prs x.1)=(F++[(p,.nd k ps)]++(kids p 0 ps++ws).flatMap λx=>x.2.prs x.1):=by
   rw [Zo,T.prs,abx,← sD];simp
  rw [Vv,ef] at e1
  rw [er,eb]
  have hpos:decide ((0:Int)<(((ws.map gc).reverse++[gc (p,.nd k ps)]).length:Int))=true:=by simp
  have et:fH (ak rH (aj cA (aa (af 3) (ah))) (eC (.int 0))) [a0,some (.fn "placed_parts"),some (.obj A.length),some (.obj (A.length+1)),a4] (A++[.lst (F.map gc),.lst ((ws.map gc).reverse++[gc (p,.nd k ps)])])=.ok true (A++[.lst (F.map gc),.lst ((ws.map gc).reverse++[gc (p,.nd k ps)])]):=by
   generalize (ws.map gc).reverse++[gc (p,.nd k ps)]=L at hpos
   simp only [gh,cg,bM,aI,aL,aQ,eN,W4,WX,ao,ai,aX,cA,aA,H8,cH,if_true,dM,hpos]
  rw [lQ,et,qL,Ib,e1,fP,e2]
theorem A8 (t:T) (ht:t.subs.length≤500) (G:DH):d7 [gc ([],t),.fn "placed_parts"] G=.ok (.con ((t.prs []).map gc)) G:=by
 have z1:(1:Nat)≤WO:=lz (by nofun)
 obtain ⟨b4,e⟩:=nD G (some (gc ([],t))) fuel [] [([],t)] none (by simp [tot,fuel];nofun) (by simp [tot];nofun) (λx hx=>by rw [Xj.mp hx];simp;nofun)
 simp only [Xk,WU,XU,aaM,Xd,Zo,ab2,Xv] at e
 refine fj (R:=[.dead,.lst []]) ?_ (by rw [aJ];exact ay g9)
 have hn:aP [] G=.ok (.obj G.length) (G++[.lst []]):=by simp [aP]
 generalize (t.prs []).map gc=L at e
 generalize gc ([],t)=d at e
 have hn2:aP [d] (G++[.lst []])=.ok (.obj (G.length+1)) (G++[.lst [],.lst [d]]):=by simp [aP,z1]
 unfold gG
 simp! [hn,hn2,e]
theorem sE (t:T) (ht:t.subs.length≤500) (G:DH):cK [t.d] G=.ok (.con ((t.prs []).map gc)) G:=by
 have z0:(0:Nat)≤WO:=XQ _
 have z2:(2:Nat)≤WO:=lz (by nofun)
 have e:=A8 t ht G
 have ep:gc ([],t)=.tup [.tup [],t.d]:=rfl
 rw [ep] at e
 refine aR ?_ (by rw [aJ];exact ay g9)
 generalize t.d=d at e
 unfold g7
 simp! [e,z2]
noncomputable def Oc:D→D
 | .tup [x,_]=>x
 | _=>.eO
theorem wJ (t:T) (ht:t.subs.length≤500) (G:DH):dF (oT 2) [] (av 1 cK (aa (af 0) (ah))) (bW) (af 0) [some t.d] G=.ok (.obj G.length) (G++[.lst (((t.prs []).map (·.1)).map pl)]):=by
 have hl:(t.prs []).length=t.subs.length:=by rw [← dw [] t,W8]
 have c1:=bQ (τ:=[some t.d]) (G:=G) (gO:=oT 2) (ks:=[]) (te:=af 0) (own:=A7) (f:=Oc) ((t.prs []).map gc) [] (by simp;nofun) (λx hx=>by
   obtain ⟨y,_,rfl⟩:=Xf.mp hx
   rfl) (λx hx acc=>by
   obtain ⟨y,_,rfl⟩:=Xf.mp hx
   rfl)
 have ef:((t.prs []).map gc).map Oc=((t.prs []).map (·.1)).map pl:=by
  rw [Xo,Xo];rfl
 rw [ef,Xd] at c1
 have e:=sE t ht G
 rw [← c1]
 generalize ((t.prs []).map gc)=L at e
 generalize t.d=d at e
 simp only [jd,cO,aI,aL,aQ,WX,ao,ai,aX,WR,Xb,if_true,e]
theorem places_eq (t:T) (ht:t.subs.length≤500) (G:DH):aV [t.d] G=.ok (.con (((t.prs []).map (·.1)).map pl)) G:=by
 have hc:aD (((t.prs []).map (·.1)).map pl)=true:=ay g8
 refine aR ?_ (by rw [aJ];exact hc)
 have e:=wJ t ht G
 have e2:eFn (dF (oT 2) [] (av 1 cK (aa (af 0) (ah))) (bW) (af 0)) [some t.d] G=.ok (.con (((t.prs []).map (·.1)).map pl)) G:=by rw [bG,e,dQ hc]
 unfold jo
 simp only [fB,WU,Xk,WR,Xb,aa1,Zz,Xv,fY,e2,iR,iS]
theorem qp (p:List Int):∀ (ts:List T) (j:Int) (x:List Int×T),x∈cL p j ts→∃ (i:Nat) (t:T),ts[i]?=some t∧x∈t.prs (p++[j+(i:Int)])
 | [],j,x,h=>by simp [cL] at h
 | t::r,j,x,h=>by
  rw [cL] at h
  rcases Xy.mp h with h | h
  ·exact ⟨0,t,rfl,by simpa using h⟩
  ·obtain ⟨i,t',e,m⟩:=qp p r (j+1) x h
   refine ⟨i+1,t',by simpa using e,?_⟩
   rw [show j+((i+1:Nat):Int)=j+1+(i:Int) by nofun];exact m
theorem uy:∀ (ts:List T) (i:Nat) (t:T),ts[i]?=some t→t.subs.length≤(bO ts).length
 | [],i,t,h=>by simp at h
 | x::r,0,t,h=>by
  simp at h;subst h
  rw [bO,W9];nofun
 | x::r,i+1,t,h=>by
  have:=uy r i t (by simpa using h)
  rw [bO,W9];nofun
theorem Hq (k:Str) (ps:List T) (i:Nat) (t:T) (h:ps[i]?=some t) (b1:Option D) (G:DH):gZ [some (T.nd k ps).d,b1,some (.int (i:Int))] G=.nx [some t.d,b1,some (.int (i:Int))] G:=by
 have a1:∀ (x y:D),iL [x,y] 1=some y:=λx y=>by
  have:=f6 (xs:=[x,y]) (j:=1) (v:=y) rfl
  simpa using this
 have a2:iL (dL ps) (i:Int)=some t.d:=by
  refine f6 ?_
  rw [qc,Xn,h];rfl
 rw [T.d]
 generalize t.d=d at a2
 unfold gZ
 simp only [di,cg,aQ,eN,W4,WX,ao,ai,aT,aA,a1,a2,fO,Xp]
theorem zw (b1:Option D) (G:DH):∀ (n:Nat) (t:T) (p:List Int) (x:List Int×T),t.subs.length≤n→x∈t.prs p→∃ w:List Int,x.1=p++w∧∀ b2,∃ c2,bC (gN 2) gZ (w.map .int) [some t.d,b1,b2] G=.nx [some x.2.d,b1,c2] G
 | 0,t,p,x,hn,h=>by have:=l7 t;nofun
 | n+1,.nd k ps,p,x,hn,h=>by
  rw [T.prs] at h
  rcases Xl.mp h with rfl | h
  ·exact ⟨[],by simp,λb2=>⟨b2,by simp [bC]⟩⟩
  ·obtain ⟨i,t,e,m⟩:=qp p ps 0 x h
   have hs:=uy ps i t e
   rw [T.subs,WR] at hn
   obtain ⟨w,e1,e2⟩:=zw b1 G n t _ x (by nofun) m
   refine ⟨(0+(i:Int))::w,by rw [e1];simp,λb2=>?_⟩
   obtain ⟨c2,e3⟩:=e2 (some (.int (i:Int)))
   refine ⟨c2,?_⟩
   rw [WU,bE rfl]
   have:=Hq k ps i t e b1 G
   simp only [Xq,Xp,aaZ,this,fP]
   exact e3
theorem DI (t:T) (x:List Int×T) (h:x∈t.prs []) (G:DH):dY [t.d,pl x.1] G=.ok x.2.d G:=by
 obtain ⟨w,e1,e2⟩:=zw (some (pl x.1)) G _ t [] x (WZ _) h
 obtain ⟨c2,e3⟩:=e2 none
 rw [Xd] at e1
 refine aR ?_ (jT _)
 have hp:pl x.1=.tup (w.map .int):=by rw [e1];rfl
 rw [hp] at e3 ⊢
 generalize x.2.d=y at e3
 generalize t.d=z at e3
 generalize w.map D.int=ws at e3
 unfold mU
 simp! [e3]
theorem jV (p:List Int):(pl p).plain=true:=by
 rw [pl,D.plain]
 exact mR λx hx=>by
  obtain ⟨i,_,rfl⟩:=Xf.mp hx
  simp [D.plain]
theorem DJ (p:List Int):(pl p).dp≤1:=by
 rw [pl,D.dp]
 have:pG (p.map D.int)≤0:=x6 λx hx=>by
  obtain ⟨i,_,rfl⟩:=Xf.mp hx
  simp [D.dp]
 nofun
theorem sF (ps:List (List Int)):bR (ps.map pl)=true:=mR λx hx=>by
 obtain ⟨p,_,rfl⟩:=Xf.mp hx
 exact jV p
theorem DK (ps:List (List Int)):pG (ps.map pl)≤1:=x6 λx hx=>by
 obtain ⟨p,_,rfl⟩:=Xf.mp hx
 exact DJ p
noncomputable def jB (p q:List Int):Bool:=decide (p.length<q.length)&&(q.take p.length==p)
noncomputable def kH (p q:List Int):Bool:=(q.length==p.length+1)&&(q.take p.length==p)
noncomputable def T.parts:T→List T
 | .nd _ ps=>ps
mutual
theorem uz:∀ (t:T) (r:List Int) (x:List Int×T),x∈t.prs r→∃ w,x.1=r++w
 | .nd k ps,r,x,h=>by
  rw [T.prs] at h
  rcases Xl.mp h with rfl | h
  ·exact ⟨[],by simp⟩
  ·obtain ⟨i,w,_,e⟩:=ia ps r 0 x h
   exact ⟨i::w,e⟩
theorem ia:∀ (ts:List T) (r:List Int) (j:Int) (x:List Int×T),x∈cL r j ts→∃ i w,j≤i∧x.1=r++i::w
 | [],r,j,x,h=>by simp [cL] at h
 | t::ts,r,j,x,h=>by
  rw [cL] at h
  rcases Xy.mp h with h | h
  ·obtain ⟨w,e⟩:=uz t _ x h
   exact ⟨j,w,Int.le_refl _,by rw [e];simp⟩
  ·obtain ⟨i,w,h1,e⟩:=ia ts r (j+1) x h
   exact ⟨i,w,by nofun,e⟩
end
theorem DL (r:List Int) (i:Int) (w:List Int):jB r (r++i::w)=true:=by simp [jB]
theorem zx (r:List Int) (i j:Int) (v w:List Int) (h:i≠j):jB (r++i::v) (r++j::w)=false:=by
 unfold jB
 rw [Bool.and_eq_false_iff]
 right
 have e:(r++j::w).take (r++i::v).length=r++j::w.take v.length:=by
  rw [W9,WR,List.take_length_add_append]
  rw [List.take_succ_cons]
 rw [e]
 rw [beq_eq_false_iff_ne]
 intro z
 have:=List.append_cancel_left z
 exact h (List.cons.inj this).1.symm
theorem qu (p q:List Int) (h:q.length≤p.length):jB p q=false:=by
 unfold jB
 rw [decide_eq_false (by nofun),Bool.false_and]
theorem filter_none {α:Type} {f:α→Bool} {l:List α} (h:∀ x∈l,f x=false):l.filter f=[]:=List.filter_eq_nil_iff.mpr λx hx=>by rw [h x hx];decide
theorem filter_all {α:Type} {f:α→Bool} {l:List α} (h:∀ x∈l,f x=true):l.filter f=l:=List.filter_eq_self.mpr h
mutual
theorem yr:∀ (t:T) (r:List Int) (x:List Int×T),x∈t.prs r→((t.prs r).map (·.1)).filter (jB x.1)=(cL x.1 0 x.2.parts).map (·.1)
 | .nd k ps,r,x,h=>by
  rw [T.prs] at h ⊢
  rw [WU]
  rcases Xl.mp h with rfl | h
  ·rw [Ze (by rw [qu _ _ (WZ _)];decide)]
   refine filter_all λq hq=>?_
   obtain ⟨y,hy,rfl⟩:=Xf.mp hq
   obtain ⟨i,w,_,e⟩:=ia ps r 0 y hy
   rw [e];exact DL _ _ _
  ·obtain ⟨i,w,_,e⟩:=ia ps r 0 x h
   rw [Ze (by rw [qu _ _ (by rw [e];simp)];decide)]
   exact DM ps r 0 x h
theorem DM:∀ (ts:List T) (r:List Int) (j:Int) (x:List Int×T),x∈cL r j ts→((cL r j ts).map (·.1)).filter (jB x.1)=(cL x.1 0 x.2.parts).map (·.1)
 | [],r,j,x,h=>by simp [cL] at h
 | t::ts,r,j,x,h=>by
  rw [cL] at h ⊢
  rw [Xu,abD]
  rcases Xy.mp h with h | h
  ·obtain ⟨w,e⟩:=uz t _ x h
   rw [yr t _ x h,filter_none,Xv]
   intro q hq
   obtain ⟨y,hy,rfl⟩:=Xf.mp hq
   obtain ⟨i,v,hi,ey⟩:=ia ts r (j+1) y hy
   rw [e,ey,show r++[j]++w=r++j::w by simp]
   exact zx r j i w v (by nofun)
  ·obtain ⟨i,v,hi,ex⟩:=ia ts r (j+1) x h
   rw [DM ts r (j+1) x h,filter_none,Xd]
   intro q hq
   obtain ⟨y,hy,rfl⟩:=Xf.mp hq
   obtain ⟨w,ey⟩:=uz t _ y hy
   rw [ex,ey,show r++[j]++w=r++j::w by simp]
   exact zx r i j v w (by nofun)
end
theorem yt (p q:List Int):kH p q=(jB p q&&(q.length==p.length+1)):=by
 unfold kH jB
 by_cases h:q.length=p.length+1
 ·rw [h];simp
 ·have:(q.length==p.length+1)=false:=by simpa using h
  rw [this];simp
theorem nE (p:List Int):∀ (ts:List T) (j:Int),((cL p j ts).map (·.1)).filter (λq=>q.length==p.length+1)=(kids p j ts).map (·.1)
 | [],j=>rfl
 | t::ts,j=>by
  rw [cL,kids,Xu,abD,nE p ts (j+1),WU]
  have:((t.prs (p++[j])).map (·.1)).filter (λq=>q.length==p.length+1)=[p++[j]]:=by
   obtain ⟨k,ps⟩:=t
   rw [T.prs,WU,ZJ (by simp),filter_none]
   intro q hq
   obtain ⟨y,hy,rfl⟩:=Xf.mp hq
   obtain ⟨i,w,_,e⟩:=ia ps _ 0 y hy
   rw [e];simp
  rw [this];rfl
theorem DP (t:T) (r:List Int) (x:List Int×T) (h:x∈t.prs r):((t.prs r).map (·.1)).filter (kH x.1)=(kids x.1 0 x.2.parts).map (·.1):=by
 have e:kH x.1=λq=>jB x.1 q&&(q.length==x.1.length+1):=funext (yt x.1)
 rw [e,← nE,← yr t r x h,abE]
 congr 1
 funext q
 rw [Bool.and_comm]
theorem kY (p:List Int):∀ (ts:List T) (j:Nat),(kids p (j:Int) ts).map (·.1)=(Xs j ts.length).map λ(k:Nat)=>p++[(k:Int)]
 | [],j=>rfl
 | t::ts,j=>by
  rw [kids,WR,Ys,WU,WU]
  have:=kY p ts (j+1)
  rw [show ((j+1:Nat):Int)=(j:Int)+1 by nofun] at this
  rw [this]
theorem kg (a:List Int) (i:Int):(a++[i]).getLastD 0=i:=by simp [List.getLastD_eq_getLast?]
noncomputable def qv (p q:List Int):Bool:=(q.length==p.length)&&((q.dropLast==p.dropLast)&&decide (p.getLastD 0<q.getLastD 0))
theorem wK (a:List Int) (i:Int) (q:List Int):qv (a++[i]) q=(kH a q&&decide (i<q.getLastD 0)):=by
 unfold qv kH
 by_cases h:q.length=a.length+1
 ·have hd:q.dropLast=q.take a.length:=by rw [Zk,h];rfl
  have h1:(q.length==(a++[i]).length)=true:=by simp [h]
  have h2:(q.length==a.length+1)=true:=by simp [h]
  rw [h1,h2,hd]
  have h3:(a++[i]).dropLast=a:=by simp
  have h4:(a++[i]).getLastD 0=i:=kg a i
  rw [h3,h4];simp
 ·have h1:(q.length==(a++[i]).length)=false:=by simpa using h
  have h2:(q.length==a.length+1)=false:=by simpa using h
  rw [h1,h2];simp
theorem l8 (i0:Nat):∀ (n j:Nat),j≤i0+1→(Xs j n).filter (λ(k:Nat)=>decide (i0<k))=Xs (i0+1) (j+n - (i0+1))
 | 0,j,h=>by
  have:j+0 - (i0+1)=0:=by nofun
  rw [this];rfl
 | n+1,j,h=>by
  rw [Ys]
  by_cases hj:j≤i0
  ·rw [Ze (by simp;nofun),l8 i0 n (j+1) (by nofun)]
   congr 1;nofun
  ·have e:j=i0+1:=by nofun
   subst e
   rw [ZJ (by simp),filter_all (λk hk=>by
    have:=List.mem_range'.mp hk
    obtain ⟨m,_,rfl⟩:=this
    simp;nofun)]
   have:i0+1+(n+1) - (i0+1)=n+1:=by nofun
   rw [this,Ys]
theorem Hr (t:T) (r a:List Int) (s:T) (i0:Nat) (h:(a,s)∈t.prs r):((t.prs r).map (·.1)).filter (qv (a++[(i0:Int)]))=(Xs (i0+1) (s.parts.length - (i0+1))).map λ(k:Nat)=>a++[(k:Int)]:=by
 have e:qv (a++[(i0:Int)])=λq=>kH a q&&decide ((i0:Int)<q.getLastD 0):=funext (wK a i0)
 have e2:((t.prs r).map (·.1)).filter (λq=>kH a q&&decide ((i0:Int)<q.getLastD 0))=(((t.prs r).map (·.1)).filter (kH a)).filter λq=>decide ((i0:Int)<q.getLastD 0):=by
  rw [abE]
  congr 1
  funext q
  rw [Bool.and_comm]
 have hk:=kY a s.parts 0
 rw [show ((0:Nat):Int)=0 from rfl] at hk
 rw [e,e2,DP t r (a,s) h,hk,ab8]
 have e3:((λq:List Int=>decide ((i0:Int)<q.getLastD 0))∘λ(k:Nat)=>a++[(k:Int)])=λ(k:Nat)=>decide (i0<k):=by
  funext k
  simp only [ZD,kg]
  by_cases h:i0<k
  ·rw [decide_eq_true h,decide_eq_true (by nofun)]
  ·rw [decide_eq_false h,decide_eq_false (by nofun)]
 rw [e3,l8 i0 s.parts.length 0 (by nofun),aag]
theorem wL (r:List Int):∀ (ts:List T) (j:Int) (i:Nat) (t:T) (y:List Int×T),ts[i]?=some t→y∈t.prs (r++[j+(i:Int)])→y∈cL r j ts
 | [],j,i,t,y,h,hy=>by simp at h
 | x::ts,j,0,t,y,h,hy=>by
  simp at h;subst h
  rw [cL]
  refine Xy.mpr (.inl ?_)
  simpa using hy
 | x::ts,j,i+1,t,y,h,hy=>by
  rw [cL]
  refine Xy.mpr (.inr (wL r ts (j+1) i t y (by simpa using h) ?_))
  rw [show j+1+(i:Int)=j+((i+1:Nat):Int) by nofun];exact hy
theorem above:∀ (n:Nat) (t:T) (r:List Int) (x:List Int×T),t.subs.length≤n→x∈t.prs r→x=(r,t)∨∃ (a:List Int) (i:Nat) (s:T),x.1=a++[(i:Int)]∧(a,s)∈t.prs r∧i<s.parts.length
 | 0,t,r,x,hn,h=>by have:=l7 t;nofun
 | n+1,.nd k ps,r,x,hn,h=>by
  rw [T.prs] at h
  rcases Xl.mp h with h | h
  ·exact .inl h
  ·obtain ⟨i,t,e,m⟩:=qp r ps 0 x h
   have hs:=uy ps i t e
   rw [T.subs,WR] at hn
   right
   rcases above n t _ x (by nofun) m with hx | ⟨a,i',s,e1,e2,e3⟩
   ·exact ⟨r,i,.nd k ps,by rw [hx];simp,by rw [T.prs];simp,(WS.mp e).1⟩
   ·refine ⟨a,i',s,e1,?_,e3⟩
    rw [T.prs]
    exact XI _ (wL r ps 0 i t _ e e2)
mutual
theorem A9 (p:List Int):∀ (t:T) (r:List Int),(t.prs (p++r)).map (·.1)=((t.prs r).map (·.1)).map (p++·)
 | .nd k ps,r=>by rw [T.prs,T.prs,WU,WU,WU,kZ p ps r 0]
theorem kZ (p:List Int):∀ (ts:List T) (r:List Int) (j:Int),(cL (p++r) j ts).map (·.1)=((cL r j ts).map (·.1)).map (p++·)
 | [],r,j=>rfl
 | t::ts,r,j=>by
  have:=A9 p t (r++[j])
  rw [← Yk] at this
  rw [cL,cL,Xu,Xu,Xu,this,kZ p ts r (j+1)]
end
theorem wM:∀ p q:List Int,Zj (nX (p.map .int)) (nX (q.map .int))=(p==q)
 | [],[]=>rfl
 | [],y::q=>by rw [Xk,WU,nX,nX,Zj];rfl
 | x::p,[]=>by rw [Xk,WU,nX,nX,Zj];rfl
 | x::p,y::q=>by
  rw [WU,WU,nX,nX,Zj,wM p q,D.pd,D.pd,X4];rfl
theorem Lu (g:Bool) (p q:List Int) (G:DH):fG g (pl p) (pl q) G=.ok (.bl (g ^^ (p==q))) G:=by
 have h1:=vK (pl p)
 have h2:=DJ p
 have h3:=DJ q
 unfold fG tw
 rw [kP G (pl p) deep (jV p) (by show (pl p).dp<600;nofun),kP G (pl q) deep (jV q) (by show (pl q).dp<600;nofun)]
 dsimp only
 rw [if_pos (by rw [lay_of _ (jV p),lay_of _ (jV q)];simp;nofun)]
 show Out.ok (D.bl (g ^^ X4 (pl p).pd (pl q).pd)) G=_
 rw [pl,pl,D.pd,D.pd,X4,wM]
theorem Hs (q:List Int) (h:1≤q.length) (hz:q.length≤100000) (G:DH):uD (pl q) none (some (-1)) G=.ok (pl q.dropLast) G:=by
 unfold pl
 simp only [uD,aA]
 have hs:HT.eG (q.map D.int).length (q.map D.int).length (some (-1))=q.length - 1:=by
  unfold HT.eG
  dsimp only
  rw [if_pos (by nofun)];simp;nofun
 rw [if_neg (by rw [hs];simp;nofun),bA]
 have o7:cutD (q.map D.int) none (some (-1))=q.dropLast.map .int:=by
  unfold cutD
  rw [hs,HT.jD,Zk];simp
 rw [o7,if_pos (lz (by simp;nofun))]
theorem Ht (q:List Int) (h:1≤q.length) (G:DH):aT (pl q) (.int (-1)) G=.ok (.int (q.getLastD 0)) G:=by
 obtain ⟨a,i,rfl⟩:∃ a i,q=a++[i]:=⟨q.dropLast,q.getLast (by intro e;rw [e] at h;simp at h),by rw [Zi]⟩
 have:=p7 (a.map D.int) (.int i)
 unfold pl
 rw [Xu,WU,Xk,kg]
 simp only [aT,aA,this]
theorem Od (q:List Int) (G:DH):(Out.ok (pl q) G).fw G=.ok (pl q) G:=CU
mutual
theorem m8:∀ (t:T) (p:List Int) (x:List Int×T),x∈t.prs p→x.1.length≤p.length+t.subs.length
 | .nd k ps,p,x,h=>by
  rw [T.prs] at h
  rw [T.subs,WR]
  rcases Xl.mp h with rfl | h
  ·simp
  ·have:=k6 ps p 0 x h;nofun
theorem k6:∀ (ts:List T) (p:List Int) (j:Int) (x:List Int×T),x∈cL p j ts→x.1.length≤p.length+1+(bO ts).length
 | [],p,j,x,h=>by simp [cL] at h
 | t::r,p,j,x,h=>by
  rw [cL] at h
  rw [bO,W9]
  rcases Xy.mp h with h | h
  ·have:=m8 t (p++[j]) x h
   simp at this;nofun
  ·have:=k6 r p (j+1) x h;nofun
end
noncomputable def m9 (p:List Int):D→D
 | .int i=>.tup (p.map .int++[.int i])
 | .tup xs=>.tup (p.map .int++xs)
 | _=>.eO
noncomputable abbrev yu:DS→M D:=ak aE (af 3) (aj bA (aa (af 0) (ah)))
theorem wN (p:List Int) (hp:p.length≤1000) (i:Int) (x1 x2:Option D) (τ:DS) (G:DH):yu (some (.int i)::x1::x2::some (pl p)::τ) G=.ok (m9 p (.int i)) G:=by
 have hA:=A5 (p.map .int) [.int i] G (lz (by simp;nofun))
 have z1:(0+1:Nat)≤WO:=lz (by nofun)
 unfold pl m9
 generalize p.map D.int=pp at hA
 simp only [cg,bM,aI,aL,aQ,W4,WX,ao,ai,aX,bA,WR,Xb,if_pos z1,hA]
theorem DQ (p q:List Int) (hp:p.length≤1000) (hq:q.length≤1000) (x1 x2:Option D) (τ:DS) (G:DH):ak aE (af 3) (af 0) (some (pl q)::x1::x2::some (pl p)::τ) G=.ok (m9 p (pl q)) G:=by
 have hA:=A5 (p.map .int) (q.map .int) G (lz (by simp;nofun))
 unfold pl m9
 generalize p.map D.int=pp at hA
 generalize q.map D.int=qq at hA
 simp only [cg,aQ,W4,WX,ao,ai,hA]
theorem Ri (x y:D):iL [x,y] 1=some y:=by
 have:=f6 (xs:=[x,y]) (j:=1) (v:=y) rfl
 simpa using this
theorem wO (s:T) (G:DH):aT s.d (.int 1) G=.ok (.tup (dL s.parts)) G:=by
 obtain ⟨k,ps⟩:=s
 rw [T.d]
 simp only [aT,aA,Ri];rfl
theorem sG (s:T) (G:DH):cA [.tup (dL s.parts)] G=.ok (.int (s.parts.length:Int)) G:=by
 simp [cA,aA,qc]
theorem qw (s:T):s.parts.length≤s.subs.length:=by
 obtain ⟨k,ps⟩:=s
 have:=m5 ps
 rw [T.subs,WR]
 show ps.length≤_
 nofun
theorem Hu (s:T) (hs:s.subs.length≤1000) (p:List Int) (hp:p.length≤1000) (x0 x1:Option D) (G:DH):cJ eV oN [false,false,true] (aa (aj cA (aa (ak aT (af 3) (eC (.int 1))) (ah))) (ah)) (bW) yu [x0,x1,some (pl p),some s.d] G=.ok (.obj G.length) (G++[.lst (((kids p 0 s.parts).map (·.1)).map pl)]):=by
 have hpl:=qw s
 have hr:=iA (j:=(s.parts.length:Int)) (by nofun) (by nofun)
 rw [show ((s.parts.length:Int)).toNat=s.parts.length by nofun] at hr
 have c1:=bQ (τ:=[x0,x1,some (pl p),some s.d]) (G:=G) (gO:=oN) (ks:=[false,false,true]) (te:=yu) (own:=λx=>[x]) (f:=m9 p) ((Xs 0 s.parts.length).map λ(k:Nat)=>D.int (0+(k:Int))) [] (by simp;nofun) (λx _=>rfl) (λx hx acc=>by
  obtain ⟨i,_,rfl⟩:=Xf.mp hx
  exact wN p hp _ _ _ _ _)
 have ek:=kY p s.parts 0
 rw [show ((0:Nat):Int)=0 from rfl] at ek
 have ef:((Xs 0 s.parts.length).map λ(k:Nat)=>D.int (0+(k:Int))).map (m9 p)=((kids p 0 s.parts).map (·.1)).map pl:=by
  rw [ek,Xo,Xo]
  refine YD λk _=>?_
  simp [m9,pl,ZD]
 rw [ef,Xd] at c1
 generalize ((Xs 0 s.parts.length).map λ(k:Nat)=>D.int (0+(k:Int)))=L at hr c1
 have e1:=wO s G
 have e2:=sG s G
 rw [← c1]
 generalize s.d=sd at e1
 generalize D.tup (dL s.parts)=st at e1 e2
 simp only [o5,aI,aL,bM,cg,aQ,eN,W4,WX,ao,ai,aX,e1,e2,hr]
theorem Hv (s:T) (hs:s.subs.length≤500) (p:List Int) (hp:p.length≤1000) (x0 x1:Option D) (G:DH):dF oN [false,false,true] (eFn (j5 (av 1 aV (aa (af 3) (ah))) (bY (eC (.int 1))) (cE))) (bW) (ak aE (af 3) (af 0)) [x0,x1,some (pl p),some s.d] G=.ok (.obj G.length) (G++[.lst (((cL p 0 s.parts).map (·.1)).map pl)]):=by
 have e1:=places_eq s hs G
 have hpre:((s.prs []).map (·.1)).map pl=pl []::((cL [] 0 s.parts).map (·.1)).map pl:=by
  obtain ⟨k,ps⟩:=s
  rw [T.prs];rfl
 have hlen:(cL [] 0 s.parts).length+1=s.subs.length:=by
  have:=congrArg ZF (dw [] s)
  obtain ⟨k,ps⟩:=s
  rw [T.prs,WU,WR,W8] at this
  exact this
 have Lv:∀ q∈(cL [] 0 s.parts).map (·.1),q.length≤1000:=λq hq=>by
  obtain ⟨y,hy,rfl⟩:=Xf.mp hq
  have:=k6 s.parts [] 0 y hy
  have h2:(bO s.parts).length+1=s.subs.length:=by
   obtain ⟨k,ps⟩:=s
   rw [T.subs,WR];rfl
  simp at this;nofun
 have c1:=bQ (τ:=[x0,x1,some (pl p),some s.d]) (G:=G) (gO:=oN) (ks:=[false,false,true]) (te:=ak aE (af 3) (af 0)) (own:=λx=>[x]) (f:=m9 p) (((cL [] 0 s.parts).map (·.1)).map pl) [] (by simp;nofun) (λx _=>rfl) (λx hx acc=>by
  obtain ⟨q,hq,rfl⟩:=Xf.mp hx
  exact DQ p q hp (Lv q hq) _ _ _ _)
 have SI:=kZ p s.parts [] 0
 rw [Xv] at SI
 have ef:(((cL [] 0 s.parts).map (·.1)).map pl).map (m9 p)=((cL p 0 s.parts).map (·.1)).map pl:=by
  rw [SI,Xo (f:=λx=>p++x),Xo (f:=pl)]
  refine YD λq _=>?_
  simp [m9,pl,ZD]
 rw [ef,Xd] at c1
 have hsl:eFn (j5 (av 1 aV (aa (af 3) (ah))) (bY (eC (.int 1))) (cE)) [x0,x1,some (pl p),some s.d] G=.ok (.con (((cL [] 0 s.parts).map (·.1)).map pl)) G:=by
  rw [bG]
  have hs1:HT.eG (((s.prs []).map (·.1)).map pl).length 0 (some 1)=1:=by
   have:=HT.nO (((s.prs []).map (·.1)).map pl).length 0 1
   rw [show ((1:Nat):Int)=1 from rfl] at this
   rw [this,hpre];simp
  have o7:cutD (((s.prs []).map (·.1)).map pl) (some 1) none=((cL [] 0 s.parts).map (·.1)).map pl:=by
   unfold cutD
   rw [hs1,HT.jD,hpre];simp
   exact aa0 (by simp)
  have e:j5 (av 1 aV (aa (af 3) (ah))) (bY (eC (.int 1))) (cE) [x0,x1,some (pl p),some s.d] G=aP (((cL [] 0 s.parts).map (·.1)).map pl) G:=by
   rw [← o7]
   generalize ((s.prs []).map (·.1)).map pl=L at e1
   generalize s.d=sd at e1
   simp only [vq,cO,aI,aL,aQ,W4,WX,ao,ai,aX,WR,Xb,if_true,e1,lN,eN,lO,lM,uD,aA]
  rw [e,cU (lz (by simp;nofun)) (ay g8)]
 rw [jd,hsl,ao]
 exact c1
theorem DR (t s:T) (a:List Int) (i0:Nat) (h:(a,s)∈t.prs []) (ha:a.length≤1000) (hi:i0≤100000) (hs:s.subs.length≤1000) (G:DH):cJ nI oN [false,false,true] (aa (ak aE (ak aT (af 1) (gA (eC (.int 1)))) (eC (.int 1))) (aa (aj cA (aa (ak aT (av 2 dY (aa (af 0) (aa (af 2) (ah)))) (eC (.int 1))) (ah))) (ah))) (bW) yu [some t.d,some (pl (a++[(i0:Int)])),some (pl a)] G =
  .ok (.obj G.length) (G++[.lst (((Xs (i0+1) (s.parts.length - (i0+1))).map λ(k:Nat)=>a++[(k:Int)]).map pl)]):=by
 have hpl:=qw s
 have e0:=DI t (a,s) h G
 have e1:=wO s G
 have e2:=sG s G
 have e3:=Ht (a++[(i0:Int)]) (by simp) G
 rw [kg] at e3
 have hr:nI [.int ((i0:Int)+1),.int (s.parts.length:Int)]=some ((Xz (s.parts.length - (i0+1))).map λ(k:Nat)=>.int ((i0:Int)+1+(k:Int))):=by
  unfold nI
  dsimp only
  rw [if_pos ⟨by nofun,by nofun,by nofun,by nofun⟩,show ((s.parts.length:Int) - ((i0:Int)+1)).toNat=s.parts.length - (i0+1) by nofun]
 have c1:=bQ (τ:=[some t.d,some (pl (a++[(i0:Int)])),some (pl a)]) (G:=G) (gO:=oN) (ks:=[false,false,true]) (te:=yu) (own:=λx=>[x]) (f:=m9 a) ((Xz (s.parts.length - (i0+1))).map λ(k:Nat)=>D.int ((i0:Int)+1+(k:Int))) [] (by simp;nofun) (λx _=>rfl) (λx hx acc=>by
  obtain ⟨i,_,rfl⟩:=Xf.mp hx
  exact wN a ha _ _ _ _ _)
 have ef:((Xz (s.parts.length - (i0+1))).map λ(k:Nat)=>D.int ((i0:Int)+1+(k:Int))).map (m9 a)=((Xs (i0+1) (s.parts.length - (i0+1))).map λ(k:Nat)=>a++[(k:Int)]).map pl:=by
  rw [List.range'_eq_map_range,Xo,Xo,Xo]
  refine YD λk _=>?_
  simp [m9,pl,ZD]
 rw [ef,Xd] at c1
 rw [← c1]
 generalize ((Xz (s.parts.length - (i0+1))).map λ(k:Nat)=>D.int ((i0:Int)+1+(k:Int)))=L at hr
 generalize pl (a++[(i0:Int)])=pp at e3
 have O0:dY [t.d,pl a] G=.ok s.d G:=e0
 generalize pl a=pa at O0
 generalize t.d=td at O0
 generalize s.d=sd at O0 e1
 generalize D.tup (dL s.parts)=st at e1 e2
 have hadd:∀ G,aE (.int (i0:Int)) (.int 1) G=.ok (.int ((i0:Int)+1)) G:=λG=>rfl
 simp only [o5,aI,aL,bM,cg,tK,tL,cO,aQ,eN,W4,WX,ao,ai,aX,WR,Xb,if_true,e3,hadd,O0,e1,e2,hr]
theorem yw {a b:Str} (ha:WW a=true) (hb:WW b=true) (h:(a==b)=false) (G:DH):fG false (.str a) (.str b) G=.ok (.bl false) G:=by
 rw [lJ _ _ _ _ ha hb,h];rfl
theorem DT {a:Str} (ha:WW a=true) (G:DH):fG false (.str a) (.str a) G=.ok (.bl true) G:=by
 rw [lJ _ _ _ _ ha ha];simp
theorem uA (ps:List (List Int)):aD (ps.map pl)=true:=ay g8
theorem Ba (t s:T) (p:List Int) (h:(p,s)∈t.prs []) (hs:s.subs.length≤500) (hp:p.length≤1000) (G:DH) :
  eE [t.d,.str "down",pl p] G=.ok (.con (((kids p 0 s.parts).map (·.1)).map pl)) G:=by
 have e0:dY [t.d,pl p] G=.ok s.d G:=DI t (p,s) h G
 have e1:=Hu s (by nofun) p hp (some t.d) (some (.str "down")) G
 have hc:=uA ((kids p 0 s.parts).map (·.1))
 have q1:=yw (a:="down") (b:="later") (by symm) (by symm) (by symm) G
 have q2:=DT (a:="down") (by symm) G
 unfold yu at e1
 generalize hE:cJ eV oN [false,false,true] (aa (aj cA (aa (ak aT (af 3) (eC (.int 1))) (ah))) (ah)) (bW) (ak aE (af 3) (aj bA (aa (af 0) (ah))))=E at e1
 have e2:eFn E [some t.d,some (.str "down"),some (pl p),some s.d] G=.ok (.con (((kids p 0 s.parts).map (·.1)).map pl)) G:=by rw [bG,e1,dQ hc]
 refine aR ?_ (by rw [aJ];exact hc)
 unfold iV
 rw [hE]
 generalize ((kids p 0 s.parts).map (·.1)).map pl=L at e2
 generalize t.d=td at e0 e2
 generalize s.d=sd at e0 e2
 generalize pl p=pp at e0 e2
 simp only [fB,WU,Xk,WR,Xb,Xi,XT,Xd,bq,di,cO,aI,aL,aQ,eN,W4,WX,ao,ai,aX,fO,b9,Xq,Xp,iQ,gh,cg,q1,q2,dM,qL,qM,jc,if_true,e0,fY,e2,iR,vp,iS]
theorem Bb (t s:T) (p:List Int) (h:(p,s)∈t.prs []) (hs:s.subs.length≤500) (hp:p.length≤1000) (G:DH) :
  eE [t.d,.str "deep",pl p] G=.ok (.con (((cL p 0 s.parts).map (·.1)).map pl)) G:=by
 have e0:dY [t.d,pl p] G=.ok s.d G:=DI t (p,s) h G
 have e1:=Hv s hs p hp (some t.d) (some (.str "deep")) G
 have hc:=uA ((cL p 0 s.parts).map (·.1))
 have q1:=yw (a:="deep") (b:="later") (by symm) (by symm) (by symm) G
 have q2:=yw (a:="deep") (b:="down") (by symm) (by symm) (by symm) G
 generalize hE:dF oN [false,false,true] (eFn (j5 (av 1 aV (aa (af 3) (ah))) (bY (eC (.int 1))) (cE))) (bW) (ak aE (af 3) (af 0))=E at e1
 have e2:eFn E [some t.d,some (.str "deep"),some (pl p),some s.d] G=.ok (.con (((cL p 0 s.parts).map (·.1)).map pl)) G:=by rw [bG,e1,dQ hc]
 refine aR ?_ (by rw [aJ];exact hc)
 unfold iV
 rw [hE]
 generalize ((cL p 0 s.parts).map (·.1)).map pl=L at e2
 generalize t.d=td at e0 e2
 generalize s.d=sd at e0 e2
 generalize pl p=pp at e0 e2
 simp only [fB,WU,Xk,WR,Xb,Xi,XT,Xd,bq,di,cO,aI,aL,aQ,eN,W4,WX,ao,ai,aX,fO,b9,Xq,Xp,iQ,gh,cg,q1,q2,dM,qL,qM,jc,if_true,e0,fY,e2,iR,vp,iS]
theorem kI (t:T) (p:List Int) (L:List (List Int)) (G:DH) (h1:cW [t.d,pl p] G=.ok (.con (L.map pl)) G) :
  eE [t.d,.str "later",pl p] G=.ok (.con (L.map pl)) G:=by
 have hc:=uA L
 have q1:=DT (a:="later") (by symm) G
 refine aR ?_ (by rw [aJ];exact hc)
 unfold iV
 generalize L.map pl=L' at h1
 generalize t.d=td at h1
 generalize pl p=pp at h1
 simp only [fB,WU,Xk,WR,Xb,Xi,XT,Xd,bq,cO,aI,aL,aQ,eN,W4,WX,ao,ai,aX,iQ,gh,cg,q1,dM,qL,if_true,fY,h1,iR,vp,iS]
theorem zy (p:List Int) (G:DH):fG false (pl p) (.tup []) G=.ok (.bl (p==[])) G:=by
 have:=Lu false p [] G
 rw [Bool.false_xor] at this
 exact this
theorem Bc (t:T) (G:DH):cW [t.d,pl []] G=.ok (.con []) G:=by
 have q:=zy [] G
 rw [show (([]:List Int)==[])=true from rfl] at q
 have z0:(0:Nat)≤WO:=XQ _
 have hn:aP [] G=.ok (.obj G.length) (G++[.lst []]):=if_pos z0
 refine aR ?_ (by rw [aJ];rfl)
 unfold d9
 generalize t.d=td
 generalize pl []=pp at q
 simp only [fB,WU,Xk,WR,Xb,Xi,XT,Xd,bq,bM,aL,aQ,W4,WX,ao,ai,bA,if_pos z0,iQ,gh,cg,q,dM,qL,fY,mZ,iR,vp,iS]
theorem DU (t s:T) (a:List Int) (i0:Nat) (h:(a,s)∈t.prs []) (ha:a.length≤900) (hi:i0≤100000) (hs:s.subs.length≤1000) (G:DH) :
  cW [t.d,pl (a++[(i0:Int)])] G=.ok (.con (((Xs (i0+1) (s.parts.length - (i0+1))).map λ(k:Nat)=>a++[(k:Int)]).map pl)) G:=by
 have q:=zy (a++[(i0:Int)]) G
 rw [show ((a++[(i0:Int)])==[])=false by simp] at q
 have z0:(0:Nat)≤WO:=XQ _
 have hc:=uA ((Xs (i0+1) (s.parts.length - (i0+1))).map λ(k:Nat)=>a++[(k:Int)])
 have e1:=DR t s a i0 h (by nofun) hi hs G
 have e3:=Hs (a++[(i0:Int)]) (by simp) (by simp;nofun) G
 rw [show (a++[(i0:Int)]).dropLast=a by simp] at e3
 have e4:=Od a G
 unfold yu at e1
 generalize hE:cJ nI oN [false,false,true] (aa (ak aE (ak aT (af 1) (gA (eC (.int 1)))) (eC (.int 1))) (aa (aj cA (aa (ak aT (av 2 dY (aa (af 0) (aa (af 2) (ah)))) (eC (.int 1))) (ah))) (ah))) (bW) (ak aE (af 3) (aj bA (aa (af 0) (ah))))=E at e1
 have e2:eFn E [some t.d,some (pl (a++[(i0:Int)])),some (pl a)] G=.ok (.con (((Xs (i0+1) (s.parts.length - (i0+1))).map λ(k:Nat)=>a++[(k:Int)]).map pl)) G:=by rw [bG,e1,dQ hc]
 have e5:∀ x,eFn (j5 (af 1) (cE) (bY (gA (eC (.int 1))))) [some t.d,some (pl (a++[(i0:Int)])),x] G=.ok (pl a) G:=λx=>by
  rw [bG]
  generalize pl (a++[(i0:Int)])=pp at e3
  generalize pl a=pa at e3 e4
  simp only [vq,aQ,W4,WX,ao,ai,lM,lN,tK,eN,tL,lO,e3,e4]
 generalize Vw:eFn (j5 (af 1) (cE) (bY (gA (eC (.int 1)))))=E5 at e5
 refine aR ?_ (by rw [aJ];exact hc)
 unfold d9
 rw [hE,Vw]
 generalize (((Xs (i0+1) (s.parts.length - (i0+1))).map λ(k:Nat)=>a++[(k:Int)]).map pl)=L at e2
 generalize pl (a++[(i0:Int)])=pp at q e2 e5
 generalize t.d=td at e2 e5
 simp only [fB,WU,Xk,WR,Xb,Xi,XT,Xd,bq,di,bM,aL,aQ,W4,WX,ao,ai,bA,if_pos z0,iQ,gh,cg,q,dM,qM,jc,b9,e5,fO,Xq,Xp,fY,e2,iR,vp,iS]
noncomputable def kd:T→D
 | .nd k _=>.str k
noncomputable def knd (x:D):D:=match x with
 | .tup [_,.tup (k::_)]=>k
 | _=>.eO
theorem Hw (t:T) (G:DH):aT t.d (.int 0) G=.ok (kd t) G:=by
 cases t with
 | nd k ps=>rw [T.d,aT];rfl
theorem Bd (t:T):(kd t).closed=true:=by cases t;exact cB
theorem DV (t:T) (ht:t.subs.length≤500) (G:DH):fZ [t.d] G=.ok (.con (t.subs.map kd)) G:=by
 have hc:aD (t.subs.map kd)=true:=ay Bd
 refine aR ?_ (by rw [aJ];exact hc)
 have hl:(t.prs []).length=t.subs.length:=by rw [← dw [] t,W8]
 have c1:=bQ (τ:=[some t.d]) (G:=G) (gO:=oT 2) (ks:=[]) (te:=ak aT (af 1) (eC (.int 0))) (own:=A7) (f:=knd) ((t.prs []).map gc) [] (by simp;nofun) (λx hx=>by
   obtain ⟨y,_,rfl⟩:=Xf.mp hx
   rfl) (λx hx acc=>by
   obtain ⟨⟨p,y⟩,_,rfl⟩:=Xf.mp hx
   show ak aT (af 1) (eC (.int 0)) [some (pl p),some y.d] _=_
   rw [N4,Hw]
   cases y with
   | nd k ps=>rfl)
 have ef:((t.prs []).map gc).map knd=t.subs.map kd:=by
  rw [← dw [] t,Xo,Xo]
  refine YD λx _=>?_
  obtain ⟨p,y⟩:=x
  cases y with
  | nd k ps=>rfl
 rw [ef,Xd] at c1
 have e:=sE t ht G
 have e2:eFn (dF (oT 2) [] (av 1 cK (aa (af 0) (ah))) (bW) (ak aT (af 1) (eC (.int 0)))) [some t.d] G=.ok (.con (t.subs.map kd)) G:=by
  rw [bG,← dQ hc,← c1]
  generalize ((t.prs []).map gc)=L at e
  generalize t.d=d at e
  simp only [jd,cO,aI,aL,aQ,WX,ao,ai,aX,WR,Xb,if_true,e]
 unfold kU
 simp only [fB,WU,Xk,WR,Xb,aa1,Zz,Xv,fY,e2,iR,iS]
noncomputable def Lw:List Str:=["down","deep","later"]
theorem Hx (t:T) (hl:t.subs.length≤100) (x:List Int×T) (hx:x∈t.prs []) (go:Str) (hgo:go∈Lw):∃ L:List (List Int),L.length≤1000∧(∀ q∈L,q∈(t.prs []).map (·.1))∧∀ G,eE [t.d,.str go,pl x.1] G=.ok (.con (L.map pl)) G:=by
 obtain ⟨p,s⟩:=x
 have hsub:s∈t.subs:=by rw [← dw [] t];exact Xf.mpr ⟨(p,s),hx,rfl⟩
 have hs:=sub_le t s hsub
 have hp:=m8 t [] (p,s) hx
 have hz:(t.prs []).length=t.subs.length:=by rw [← dw [] t,W8]
 have fl:∀ (c:List Int→Bool),(((t.prs []).map (·.1)).filter c).length≤1000:=λc=>by
  have:=abe c ((t.prs []).map (·.1))
  rw [W8] at this;nofun
 have fm:∀ (c:List Int→Bool),∀ q∈((t.prs []).map (·.1)).filter c,q∈(t.prs []).map (·.1):=λc q h=>(aa3.mp h).1
 simp only [Lw,Xl,Z3,or_false] at hgo
 simp only [Xb,aag] at hp
 rcases hgo with rfl | rfl | rfl
 ·exact ⟨_,fl (kH p),fm _,λG=>by rw [DP t [] (p,s) hx];exact Ba t s p hx (by nofun) (by nofun) G⟩
 ·exact ⟨_,fl (jB p),fm _,λG=>by rw [yr t [] (p,s) hx];exact Bb t s p hx (by nofun) (by nofun) G⟩
 ·rcases above _ t [] (p,s) (WZ _) hx with h | ⟨a,i,u,h1,h2,h3⟩
  ·cases h
   exact ⟨[],by simp,by simp,λG=>kI t [] [] G (Bc t G)⟩
  ·have hu:u∈t.subs:=by rw [← dw [] t];exact Xf.mpr ⟨(a,u),h2,rfl⟩
   have nQ:=sub_le t u hu
   have hup:=qw u
   have ha:=m8 t [] (a,u) h2
   simp only [Xb,aag] at ha
   dsimp only at h1
   subst h1
   exact ⟨_,fl (qv (a++[(i:Int)])),fm _,λG=>by rw [Hr t [] a u i h2];exact kI t _ _ G (DU t u a i h2 (by nofun) (by nofun) (by nofun) G)⟩
noncomputable def ky (p:List Int):List Key:=p.map Sum.inl
theorem yx (p:List Int):pK (pl p)=some (ky p):=by
 show bP lU (p.map .int)=some (p.map Sum.inl)
 induction p with
 | nil=>rfl
 | cons i r ih=>rw [WU,WU,bP,ih];rfl
theorem Oe (p:List Int):D.tup ((ky p).map vN)=pl p:=by
 rw [ky,pl,Xo];rfl
theorem Lx (n:Nat) (kvs:List (List Key×D)) (fz:Bool) (p:List Int) (v:D) (hv:fJ kvs (ky p)=some v) (G:DH) (hg:G[n]?=some (.fE fz kvs)):C1 (.obj n) (pl p) G=.ok v G:=by
 unfold C1
 rw [yx]
 dsimp only
 rw [hg]
 dsimp only
 rw [hv]
theorem Hy {κ:Type} [DecidableEq κ] (kvs:List (κ×D)) (k:κ) (v:D):∀ x∈(fT kvs k v).map (·.1),x=k∨x∈kvs.map (·.1):=by
 intro x hx
 unfold fT at hx
 split at hx
 ·rw [Xo] at hx
  obtain ⟨y,hy,rfl⟩:=Xf.mp hx
  right
  dsimp only [ZD]
  split
  ·exact Xf.mpr ⟨y,hy,rfl⟩
  ·exact Xf.mpr ⟨y,hy,rfl⟩
 ·rw [Xu,Xy] at hx
  rcases hx with h | h
  ·exact .inr h
  ·simp at h;exact .inl h
noncomputable def vf (kvs:List (List Key×D)) (x:D):D:=(fJ kvs ((pK x).getD [])).getD .eO
noncomputable def Num (kvs:List (List Key×D)) (q:List Int):Prop:=∃ v:Int,fJ kvs (ky q)=some (.int v)
theorem DW {kvs:List (List Key×D)} {q:List Int} (h:Num kvs q):∃ v:Int,vf kvs (pl q)=.int v∧fJ kvs (ky q)=some (vf kvs (pl q)):=by
 obtain ⟨v,e⟩:=h
 refine ⟨v,?_,?_⟩<;>· rw [vf,yx,Option.getD_some,e];rfl
theorem yy (n:Nat) (kvs:List (List Key×D)) (fz:Bool) (L:List (List Int)) (hL:L.length≤1000) (hv:∀ q∈L,Num kvs q) (G:DH) (hg:G[n]?=some (.fE fz kvs)) :
  dZ [.obj n,.con (L.map pl)] G=.ok (.con ((L.map pl).map (vf kvs))) G:=by
 have hn:n<G.length:=(WS.mp hg).1
 have hc:aD ((L.map pl).map (vf kvs))=true:=by
  refine gY λx hx=>?_
  obtain ⟨y,hy,rfl⟩:=Xf.mp hx
  obtain ⟨q,hq,rfl⟩:=Xf.mp hy
  obtain ⟨v,e,_⟩:=DW (hv q hq)
  rw [e];exact bB
 have c1:=bQ (τ:=[some (.obj n),some (.con (L.map pl))]) (G:=G) (gO:=oN) (ks:=[true]) (te:=vR (af 1) (af 0)) (own:=λd=>[d]) (f:=vf kvs) (L.map pl) [] (by simp;nofun) (λx _=>rfl) (λx hx acc=>by
   obtain ⟨q,hq,rfl⟩:=Xf.mp hx
   obtain ⟨v,_,e⟩:=DW (hv q hq)
   have:=Lx n kvs fz q _ e (G++[.lst acc]) (by rw [W7 hn];exact hg)
   show (af 1 [some (pl q),some (.obj n),none]).bind (λd=>(af 0 [some (pl q),some (.obj n),none]).bind λk=>C1 d k) _=_
   rw [ai,OX,ao,ai,NB,ao,this])
 rw [Xd] at c1
 refine aR ?_ (by rw [aJ];exact hc)
 have e2:eFn (dF oN [true] (af 1) (bW) (vR (af 1) (af 0))) [some (.obj n),some (.con (L.map pl))] G=.ok (.con ((L.map pl).map (vf kvs))) G:=by
  rw [bG,← dQ hc,← c1]
  generalize L.map pl=LL
  simp only [jd,OX,ao]
 unfold jf
 simp only [fB,WU,Xk,WR,Xb,aa1,Zz,Xv,fY,e2,iR,iS]
theorem Be (A:DH) (kvs:List (List Key×D)) (hk:kvs.length≤1000) (a0 a4 a5:Option D) (i:Int) (p:List Int) :
  dB [a0,some (.obj A.length),some (.int i),some (pl p),a4,a5] (A++[.fE false kvs])=.nx [a0,some (.obj A.length),some (.int i),some (pl p),a4,a5] (A++[.fE false (fT kvs (ky p) (.int i))]):=by
 have z:kvs.length<WO:=W0 (by nofun) (lz (n:=1001) (by nofun))
 unfold dB pL
 dsimp only [bN]
 rw [ai,OT,ao,ai,OX,ao,ai,Q7,ao]
 unfold vS
 rw [yx]
 dsimp only
 rw [oY]
 dsimp only
 rw [if_pos z,vm]
theorem sH (A:DH) (a0 a4 a5:Option D):∀ (ps:List (Int×List Int)) (kvs:List (List Key×D)) (a2 a3:Option D),kvs.length+ps.length≤1000→∃ (kvs':List (List Key×D)) (b2 b3:Option D),
  bC (gP 2 3) dB (ps.map λq=>.tup [.int q.1,pl q.2]) [a0,some (.obj A.length),a2,a3,a4,a5] (A++[.fE false kvs])=.nx [a0,some (.obj A.length),b2,b3,a4,a5] (A++[.fE false kvs']) ∧
  kvs'.length≤kvs.length+ps.length∧(∀ q∈ps,Num kvs' q.2)∧(∀ q,Num kvs q→Num kvs' q)∧∀ x∈kvs'.map (·.1),x∈kvs.map (·.1)∨∃ q∈ps,x=ky q.2
 | [],kvs,a2,a3,h=>⟨kvs,a2,a3,by rw [Xk,dO],WZ _,by simp,λ_ h=>h,λ_ h=>.inl h⟩
 | (i,p)::ps,kvs,a2,a3,h=>by
  rw [WR] at h
  have hl:=oh kvs (ky p) (.int i)
  have n1:Num (fT kvs (ky p) (.int i)) p:=⟨i,by rw [jU,if_pos rfl]⟩
  have n2:∀ q,Num kvs q→Num (fT kvs (ky p) (.int i)) q:=λq zz=>by
   obtain ⟨v,e⟩:=zz
   unfold Num
   rw [jU]
   by_cases hq:ky q=ky p
   ·rw [if_pos hq];exact ⟨i,rfl⟩
   ·rw [if_neg hq];exact ⟨v,e⟩
  obtain ⟨kvs',b2,b3,e,e1,e2,e3,e4⟩:=sH A a0 a4 a5 ps (fT kvs (ky p) (.int i)) (some (.int i)) (some (pl p)) (by nofun)
  refine ⟨kvs',b2,b3,?_,by rw [WR];nofun,λq hq=>?_,λq hq=>e3 q (n2 q hq),λx hx=>?_⟩
  ·rw [WU,bE (τ1:=[a0,some (.obj A.length),some (.int i),some (pl p),a4,a5]) rfl,Be A kvs (by nofun),fP]
   exact e
  ·rcases Xl.mp hq with rfl | hq
   ·exact e3 _ n1
   ·exact e2 q hq
  ·rcases e4 x hx with h1 | ⟨q,hq,h1⟩
   ·rcases Hy kvs (ky p) (.int i) x h1 with h2 | h2
    ·exact .inr ⟨(i,p),by simp,h2⟩
    ·exact .inl h2
   ·exact .inr ⟨q,by simp [hq],h1⟩
theorem DX {gO:D→Option (List D)} {ks:List Bool} {tt:DS→M Bool} {te:DS→M D} {n:Nat} {kvs:List (List Key×D)} {τ:DS} {G:DH}:iy gO ks tt te n (yc kvs) (kvs.length+1) 0 τ G=bU gO ks tt te n (kvs.map λkv=>D.tup (kv.1.map vN)) τ G:=by
 have:=gQ (n:=n) (gO:=gO) (ks:=ks) (tt:=tt) (te:=te) (xs:=kvs.map λkv=>D.tup (kv.1.map vN)) (vw:=yc kvs) (λG i h=>by
  simp only [W8] at h
  simp only [yc,if_pos h,Xn]) (kvs.length+1) 0 τ G (by simp) (by simp)
 simpa using this
noncomputable def DY:DS→M D:=bZ oN [true,true,false,false,false,true] (AJ (af 1)) (bW) (av 2 dZ (aa (af 2) (aa (av 3 eE (aa (af 1) (aa (af 6) (aa (af 0) (ah))))) (ah))))
theorem Ly (t:T) (hl:t.subs.length≤100) (A B:DH) (fz:Bool) (kvs:List (List Key×D)) (hk:kvs.length≤1000) (hn:∀ q∈(t.prs []).map (·.1),Num kvs q) (hK:∀ x∈kvs.map (·.1),∃ y∈t.prs [],x=ky y.1) (go:Str) (hgo:go∈Lw) (a2 a3 a4:Option D) :
  ∃ xs:List D,aD xs=true∧DY [some t.d,some (.obj A.length),a2,a3,a4,some (.str go)] (A++.fE fz kvs::B)=.ok (.obj (A++.fE true kvs::B).length) ((A++.fE true kvs::B)++[.lst xs]):=by
 have gl:∀ kv∈kvs,∃ xs:List D,aD xs=true∧∀ acc,av 2 dZ (aa (af 2) (aa (av 3 eE (aa (af 1) (aa (af 6) (aa (af 0) (ah))))) (ah))) [some (.tup (kv.1.map vN)),some t.d,some (.obj A.length),none,none,none,some (.str go)] ((A++.fE true kvs::B)++[.lst acc])=.ok (.con xs) ((A++.fE true kvs::B)++[.lst acc]):=λkv hkv=>by
  obtain ⟨y,hy,ey⟩:=hK kv.1 (Xf.mpr ⟨kv,hkv,rfl⟩)
  obtain ⟨L,hL,hm,hg⟩:=Hx t hl y hy go hgo
  have e2:=λG hG=>yy A.length kvs true L hL (λq hq=>hn q (hm q hq)) G hG
  refine ⟨(L.map pl).map (vf kvs),?_,λacc=>?_⟩
  ·refine gY λx hx=>?_
   obtain ⟨z,hz,rfl⟩:=Xf.mp hx
   obtain ⟨q,hq,rfl⟩:=Xf.mp hz
   obtain ⟨v,e,_⟩:=DW (hn q (hm q hq))
   rw [e];exact bB
  ·have e3:=e2 ((A++.fE true kvs::B)++[.lst acc]) (by rw [Yk];exact oY A _ _)
   rw [ey,Oe]
   have e4:=hg ((A++.fE true kvs::B)++[.lst acc])
   generalize (L.map pl).map (vf kvs)=xs at e3
   generalize L.map pl=LL at e3 e4
   generalize pl y.1=pp at e4
   generalize t.d=td at e4
   generalize (A++.fE true kvs::B)++[.lst acc]=G at e3 e4
   simp [cO,aI,aL,ao,ai,aX,e3,e4]
 have c1:∀ (ks:List (List Key×D)) (acc:List D),(∀ kv∈ks,kv∈kvs)→acc.length+ks.length≤1000000→aD acc=true→∃ xs:List D,aD xs=true ∧
   bU oN [true,true,false,false,false,true] bW (av 2 dZ (aa (af 2) (aa (av 3 eE (aa (af 1) (aa (af 6) (aa (af 0) (ah))))) (ah)))) (A++.fE true kvs::B).length (ks.map λkv=>D.tup (kv.1.map vN)) [some t.d,some (.obj A.length),a2,a3,a4,some (.str go)] ((A++.fE true kvs::B)++[.lst acc])=.ok (.obj (A++.fE true kvs::B).length) ((A++.fE true kvs::B)++[.lst xs]):=by
  intro ks
  induction ks with
  | nil=>intro acc _ _ hc;exact ⟨acc,hc,by simp [bU]⟩
  | cons kv ks ih=>
   intro acc hs hz hc
   obtain ⟨xs,hx,e⟩:=gl kv (hs kv (by simp))
   rw [WR] at hz
   obtain ⟨ys,hy,e'⟩:=ih (acc++[.con xs]) (λk hk=>hs k (by simp [hk])) (by rw [W9,ZU];nofun) (by rw [iB,hc,aH,aJ,hx];rfl)
   refine ⟨ys,hy,?_⟩
   have hz':acc.length<WO:=W0 (by nofun) (lz (n:=1000001) (by nofun))
   rw [WU,bU,pF (os:=[D.tup (kv.1.map vN)]) rfl (e acc) hz']
   exact e'
 obtain ⟨xs,hx,e⟩:=c1 kvs [] (λ_ h=>h) (by rw [Xb];nofun) rfl
 refine ⟨xs,hx,?_⟩
 rw [← e,← DX]
 unfold DY
 rw [jJ]
 have hi:AJ (af 1) [some t.d,some (.obj A.length),a2,a3,a4,some (.str go)] (A++.fE fz kvs::B)=.ok (kvs.length+1,yc kvs) (A++.fE true kvs::B):=by
  unfold AJ
  rw [ai,OX,ao]
  dsimp only
  rw [oY]
  dsimp only
  rw [vm]
 rw [hi,ao]
theorem Bf (t:T) (hl:t.subs.length≤100) (A R:DH) (fz:Bool) (kvs:List (List Key×D)) (ds:List (Key×D)) (hd:ds.length≤1000) (hk:kvs.length≤1000) (hn:∀ q∈(t.prs []).map (·.1),Num kvs q) (hK:∀ x∈kvs.map (·.1),∃ y∈t.prs [],x=ky y.1) (go:Str) (hgo:go∈Lw) (a2 a3:Option D) :
  ∃ (ds':List (Key×D)) (R':DH),ds'.length≤ds.length+1∧f9 [some t.d,some (.obj A.length),a2,a3,some (.obj (A.length+1)),some (.str go)] (A++.fE fz kvs::.dct ds::R)=.nx [some t.d,some (.obj A.length),a2,a3,some (.obj (A.length+1)),some (.str go)] (A++.fE true kvs::.dct ds'::R'):=by
 obtain ⟨xs,hx,e⟩:=Ly t hl A (.dct ds::R) fz kvs hk hn hK go hgo a2 a3 (some (.obj (A.length+1)))
 have e2:xm DY [some t.d,some (.obj A.length),a2,a3,some (.obj (A.length+1)),some (.str go)] (A++.fE fz kvs::.dct ds::R)=.ok (.con xs) (A++.fE true kvs::.dct ds::(R++[.dead])):=by
  rw [NF,e,Ic]
  simp
 have z:ds.length<WO:=W0 (by nofun) (lz (n:=1001) (by nofun))
 refine ⟨fT ds (Sum.inr go) (.con xs),R++[.dead],oh _ _ _,?_⟩
 show ju (xm DY) (af 4) (af 5) _ _=_
 generalize xm DY=E at e2
 rw [Gk]
 simp [e2,ao,ai,rV,lU,H8,z,Qm,jI]
theorem sI (t:T) (hl:t.subs.length≤100) (A:DH) (kvs:List (List Key×D)) (hk:kvs.length≤1000) (hn:∀ q∈(t.prs []).map (·.1),Num kvs q) (hK:∀ x∈kvs.map (·.1),∃ y∈t.prs [],x=ky y.1) (a2 a3:Option D):∀ (gs:List Str) (fz:Bool) (ds:List (Key×D)) (R:DH) (a5:Option D),(∀ g∈gs,g∈Lw)→ds.length+gs.length≤1000 →
  ∃ (L1:Bool) (ds':List (Key×D)) (R':DH) (b5:Option D),bC (gN 5) f9 (gs.map .str) [some t.d,some (.obj A.length),a2,a3,some (.obj (A.length+1)),a5] (A++.fE fz kvs::.dct ds::R)=.nx [some t.d,some (.obj A.length),a2,a3,some (.obj (A.length+1)),b5] (A++.fE L1 kvs::.dct ds'::R')
 | [],fz,ds,R,a5,_,_=>⟨fz,ds,R,a5,by rw [Xk,dO]⟩
 | g::gs,fz,ds,R,a5,hg,hz=>by
  rw [WR] at hz
  obtain ⟨Vx,R1,h1,e1⟩:=Bf t hl A R fz kvs ds (by nofun) hk hn hK g (hg g (by simp)) a2 a3
  obtain ⟨L1,ds',R',b5,e2⟩:=sI t hl A kvs hk hn hK a2 a3 gs true Vx R1 (some (.str g)) (λx hx=>hg x (by simp [hx])) (by nofun)
  exact ⟨L1,ds',R',b5,by rw [WU,bE (τ1:=[some t.d,some (.obj A.length),a2,a3,some (.obj (A.length+1)),some (.str g)]) rfl,e1,fP,e2]⟩
theorem wQ {g:kL} {body:MS} {xs:List D} {τ:DS} {G:DH}:nJ g body (iz (.con xs)) (xs.length+1) 0 τ G=bC g body (xs.mapIdx λi x=>.tup [.int i,x]) τ G:=by
 have:=lV (g:=g) (body:=body) (xs:=xs.mapIdx λi x=>D.tup [.int i,x]) (vw:=iz (.con xs)) (λG i h=>by
  simp only [iz,aA,Zs]) (xs.length+1) 0 τ G (by simp) (by simp)
 simpa using this
theorem yz (t:T) (hl:t.subs.length≤100) (G:DH):∃ R:DH,dm [t.d] G=.ok (.obj (G.length+1)) (G++R):=by
 have hz:(t.prs []).length=t.subs.length:=by rw [← dw [] t,W8]
 have e1:=places_eq t (by nofun) (G++[.fE false []])
 obtain ⟨kvs,b2,b3,e2,k1,k2,k3,k4⟩:=sH G (some t.d) none none ((t.prs []).mapIdx λi x=>((i:Int),x.1)) [] none none (by simp;nofun)
 have hn:∀ q∈(t.prs []).map (·.1),Num kvs q:=λq hq=>by
  obtain ⟨x,hx,rfl⟩:=Xf.mp hq
  obtain ⟨i,hi,rfl⟩:=Yo hx
  exact k2 ((i:Int),(t.prs [])[i].1) (ZE.mpr ⟨i,hi,rfl⟩)
 have hK:∀ x∈kvs.map (·.1),∃ y∈t.prs [],x=ky y.1:=λx hx=>by
  rcases k4 x hx with h | ⟨q,hq,rfl⟩
  ·simp at h
  ·obtain ⟨i,hi,rfl⟩:=ZE.mp hq
   exact ⟨_,aaL hi,rfl⟩
 obtain ⟨L1,ds',R',b5,e3⟩:=sI t hl G kvs (by simp at k1;nofun) hn hK b2 b3 Lw false [] [] none (λ_ h=>h) (by decide)
 refine ⟨.fE L1 kvs::.dct ds'::R',?_⟩
 have eL:(((t.prs []).mapIdx λi x=>((i:Int),x.1)).map λq=>D.tup [.int q.1,pl q.2])=((((t.prs []).map (·.1)).map pl).mapIdx λi x=>D.tup [.int (i:Int),x]):=by
  apply YJ
  ·simp
  ·intro i h1 h2;simp
 rw [eL] at e2
 have g3:Lw.map D.str=[.str "down",.str "deep",.str "later"]:=rfl
 rw [g3] at e3
 have z3:3≤WO:=lz (by nofun)
 unfold dm jq
 have hlen:(((t.prs []).map (·.1)).map pl).length=((t.prs []).map (·.1)).length:=by simp
 generalize ((t.prs []).map (·.1)).map pl=PL at e1 e2
 generalize t.d=td at e1 e2 e3
 rw [fB]
 have s1:∀ k,aG (aN 1 (x9)) k [some td,none,none,none,none,none] G=k [some td,some (.obj G.length),none,none,none,none] (G++[.fE false []]):=λk=>rfl
 have s2:lI (gP 2 3) (dP (aa (av 1 aV (aa (af 0) (ah))) (ah))) dB [some td,some (.obj G.length),none,none,none,none] (G++[.fE false []])=.nx [some td,some (.obj G.length),b2,b3,none,none] (G++[.fE false kvs]):=by
  have q:dP (aa (av 1 aV (aa (af 0) (ah))) (ah)) [some td,some (.obj G.length),none,none,none,none] (G++[.fE false []])=.ok (PL.length+1,iz (.con PL)) (G++[.fE false []]):=by
   simp [pC,cO,aI,aL,ao,ai,aX,e1,aA]
  rw [F6,q,rR,wQ,e2]
 have s3:gb [some td,some (.obj G.length),b2,b3,none,none] (G++[.fE false kvs])=.rt (.obj (G.length+1)) (G++.fE L1 kvs::.dct ds'::R'):=by
  have q:∀ k,aG (aN 4 (vE)) k [some td,some (.obj G.length),b2,b3,none,none] (G++[.fE false kvs])=k [some td,some (.obj G.length),b2,b3,some (.obj (G.length+1)),none] (G++.fE false kvs::[.dct []]):=λk=>by
   rw [bq,di,Gj,fO,Ss,b9]
   simp
  unfold gb
  rw [q,bq,oZ]
  have q2:aj bA (aa (eC (.str "down")) (aa (eC (.str "deep")) (aa (eC (.str "later")) (ah)))) [some td,some (.obj G.length),b2,b3,some (.obj (G.length+1)),none] (G++.fE false kvs::[.dct []])=.ok (.tup [.str "down",.str "deep",.str "later"]) (G++.fE false kvs::[.dct []]):=by
   simp [bM,aI,aL,ao,ai,aX,bA,z3]
  rw [q2,rR]
  dsimp only
  rw [e3,b9,fY,Su,iR]
 have e0:([td].map some++Xi (6 - [td].length) none)=[some td,none,none,none,none,none]:=rfl
 rw [e0,s1,bq,s2,b9,s3,iS]
theorem Of {a b:D}:iL [a,b] 0=some a:=rfl
theorem SJ {a b:D}:iL [a,b] 1=some b:=rfl
theorem Rj {a b c:D}:iL [a,b,c] 0=some a:=rfl
theorem O1 {a:D}:iL [a] 0=some a:=rfl
inductive Lk where
 | any
 | kind (s:Str)
 | not (l:Lk)
 | bin (e:Bool) (l r:Lk)
noncomputable def jW (e:Bool):Str:=if e then "either" else "both"
noncomputable def Lk.D:Lk→L3.D
 | .any=>.tup [.str "any"]
 | .kind s=>.tup [.str "kind",.str s]
 | .not l=>.tup [.str "not",l.D]
 | .bin e l r=>.tup [.str (jW e),l.D,r.D]
noncomputable def Lk.sz:Lk→Nat
 | .any=>1
 | .kind _=>1
 | .not l=>1+l.sz
 | .bin _ l r=>1+(l.sz+r.sz)
noncomputable def Lk.Ok:Lk→Prop
 | .any=>True
 | .kind s=>WW s=true
 | .not l=>l.Ok
 | .bin _ l r=>l.Ok∧r.Ok
noncomputable def csl:Lk→List Lk
 | .not l=>[l]
 | .bin _ l r=>[l,r]
 | _=>[]
noncomputable def Lk.pre:Lk→List Lk
 | .any=>[.any]
 | .kind s=>[.kind s]
 | .not l=>.not l::l.pre
 | .bin e l r=>.bin e l r::(l.pre++r.pre)
theorem jX:WW ("any":Str)=true:=by symm
theorem gM:WW ("kind":Str)=true:=by symm
theorem gw:WW ("not":Str)=true:=by symm
theorem qx:WW ("way":Str)=true:=by symm
theorem kh:WW ("both":Str)=true:=by symm
theorem gS:WW ("either":Str)=true:=by symm
theorem oj (e:Bool):WW (jW e)=true:=by cases e<;>symm
theorem qU:∀ (l:Lk),l.D.closed=true
 | .any=>by simp [Lk.D,D.closed,aH,bh,cB]
 | .kind nm=>by simp [Lk.D,D.closed,aH,bh,cB]
 | .not l=>by simp [Lk.D,D.closed,aH,bh,cB,qU l]
 | .bin e l r=>by simp [Lk.D,D.closed,aH,bh,cB,qU l,qU r]
noncomputable def szl:List Lk→Nat
 | []=>0
 | l::ls=>l.sz+szl ls
theorem zz:∀ a b:List Lk,szl (a++b)=szl a+szl b
 | [],b=>by simp [szl]
 | l::a,b=>by rw [XT,szl,szl,zz a b];nofun
theorem wR (l:Lk):l.sz=1+szl (csl l):=by cases l<;>simp [Lk.sz,csl,szl]
theorem DZ:∀ ls:List Lk,ls.length≤szl ls
 | []=>WZ _
 | l::ls=>by have:=DZ ls;have:=wR l;rw [szl,WR];nofun
theorem D0 (l:Lk):l.pre=l::(csl l).flatMap Lk.pre:=by cases l<;>simp [Lk.pre,csl]
theorem eqs (s t:Str) (G:DH) (hs:WW s=true) (ht:WW t=true) {b:Bool} (h:(s==t)=b):fG false (.str s) (.str t) G=.ok (.bl b) G:=by
 rw [lJ _ _ _ _ hs ht,h];simp
theorem ins (s:Str) (ws:List Str) (G:DH) (hs:WW s=true) (hw:Yl (ws.map Z0)=true) {b:Bool} (h:ws.any (·==s)=b):Fd false (.str s) (.tup (ws.map .str)) G=.ok (.bl b) G:=by
 have hk:=vn s ws G hs hw
 rw [h] at hk
 simp [Fd,aA,hk]
theorem O2 (s:Str) (G:DH) (hs:WW s=true) {b:Bool} (h:(["not","both","either"]:List Str).any (·==s)=b):Fd false (.str s) (.tup [.str "not",.str "both",.str "either"]) G=.ok (.bl b) G:=ins s ["not","both","either"] G hs (by symm) h
theorem Lz (l:Lk) (G:DH):uD (.tup [.str "not",l.D]) (some 1) none G=.ok (.tup [l.D]) G:=by
 have z1:(1:Nat)≤WO:=lz (by nofun)
 simp [uD,aA,cutD,HT.eG,bA,z1]
theorem LA (s:Str) (l r:Lk) (G:DH):uD (.tup [.str s,l.D,r.D]) (some 1) none G=.ok (.tup [l.D,r.D]) G:=by
 have z2:(2:Nat)≤WO:=lz (by nofun)
 simp [uD,aA,cutD,HT.eG,bA,z2]
theorem wU (l:Lk) (G:DH):bw [l.D] G=.ok (.con ((csl l).map Lk.D)) G:=by
 have z1:(1:Nat)≤WO:=lz (by nofun)
 have z2:(2:Nat)≤WO:=lz (by nofun)
 have z3:(3:Nat)≤WO:=lz (by nofun)
 have hcl:aD ((csl l).map Lk.D)=true:=ay qU
 have n0:(aP [] G).fw G=.ok (.con []) G:=cU (XQ _) rfl
 unfold bw
 refine aR ?_ (by rw [aJ];exact hcl)
 cases l with
 | any=>
  have e1:=eqs "any" "way" G jX qx (b:=false) (by symm)
  have e2:=O2 "any" G jX (b:=false) (by symm)
  simp! [dX,Lk.D,csl,O1,e1,e2,z3,bG,n0]
 | kind nm=>
  have e1:=eqs "kind" "way" G gM qx (b:=false) (by symm)
  have e2:=O2 "kind" G gM (b:=false) (by symm)
  simp! [dX,Lk.D,csl,Of,e1,e2,z3,bG,n0]
 | not l=>
  have f:(aP [l.D] G).fw G=.ok (.con [l.D]) G:=cU (by simpa using z1) (by simp [aH,bh,qU])
  have e1:=eqs "not" "way" G gw qx (b:=false) (by symm)
  have e2:=O2 "not" G gw (b:=true) (by symm)
  simp! [dX,Lk.D,csl,Of,e1,e2,z3,bG,Lz,mL,f]
 | bin e l r=>
  have f:(aP [l.D,r.D] G).fw G=.ok (.con [l.D,r.D]) G:=cU (by simpa using z2) (by simp [aH,bh,qU])
  have e1:=eqs (jW e) "way" G (oj e) qx (b:=false) (by cases e<;>symm)
  have e2:=O2 (jW e) G (oj e) (b:=true) (by cases e<;>symm)
  simp! [dX,Lk.D,csl,Rj,e1,e2,z3,bG,LA,mL,f]
theorem Iu:XZ ("look_parts":Str) [("placed_parts",aW),("look_parts",bw)]=some bw:=by
 simp [XZ,show (("look_parts":Str)=="placed_parts")=false by symm]
theorem sJ (G:DH) (a0:Option D):∀ (n fl:Nat) (stk acc:List Lk) (one:Option D),szl stk=n→n<fl→acc.length+n≤900 →
  ∃ one',fy (fH (ak rH (aj cA (aa (af 3) (ah))) (eC (.int 0)))) dz fl [a0,some (.fn "look_parts"),some (.obj G.length),some (.obj (G.length+1)),one] (G++[.lst (acc.map Lk.D),.lst (stk.map Lk.D).reverse])=.nx [a0,some (.fn "look_parts"),some (.obj G.length),some (.obj (G.length+1)),one'] (G++[.lst ((acc++stk.flatMap Lk.pre).map Lk.D),.lst []])
 | n,0,stk,acc,one,_,h,_=>by nofun
 | n,fl+1,[],acc,one,hn,h,hb=>by
  refine ⟨one,?_⟩
  have g1:∀ x y:DO,(G++[x,y])[G.length+1]?=some y:=λx y=>H8 G x y []
  rw [lQ]
  simp! [g1,rH]
 | n,fl+1,t::stk,acc,one,hn,h,hb=>by
  rw [szl] at hn
  have hq:=wR t
  have hss:=zz (csl t) stk
  have hl1:=DZ (csl t)
  have hl2:=DZ stk
  obtain ⟨one',e⟩:=sJ G a0 (n - 1) fl (csl t++stk) (acc++[t]) (some t.D) (by nofun) (by nofun) (by simp;nofun)
  refine ⟨one',?_⟩
  have g1:∀ x y:DO,(G++[x,y])[G.length+1]?=some y:=λx y=>H8 G x y []
  have hz:stk.length+1≤WO:=lz (by nofun)
  have hp:(0:Int)<(stk.length:Int)+1:=by nofun
  have et:=nB Iu G a0 one (acc.map Lk.D) (stk.map Lk.D).reverse ((csl t).map Lk.D) t.D (wU t) (ay qU) (by simp;nofun) (by simp;nofun)
  have es:((t::stk).map Lk.D).reverse=(stk.map Lk.D).reverse++[t.D]:=by simp
  have ec:fH (ak rH (aj cA (aa (af 3) (ah))) (eC (.int 0))) [a0,some (.fn "look_parts"),some (.obj G.length),some (.obj (G.length+1)),one] (G++[.lst (acc.map Lk.D),.lst ((t::stk).map Lk.D).reverse])=.ok true (G++[.lst (acc.map Lk.D),.lst ((t::stk).map Lk.D).reverse]):=by
   simp! [g1,rH,hz,hp]
  rw [lQ,ec,qL,Ib,es,et,fP]
  have e5:(stk.map Lk.D).reverse++((csl t).map Lk.D).reverse=((csl t++stk).map Lk.D).reverse:=by simp
  have e6:acc.map Lk.D++[t.D]=(acc++[t]).map Lk.D:=by simp
  rw [e5,e6,e,abx,Zo,D0 t]
  simp
theorem Bg (t:Lk) (h:t.sz≤900) (G:DH):d7 [t.D,.fn "look_parts"] G=.ok (.con (t.pre.map Lk.D)) G:=by
 obtain ⟨one',e⟩:=sJ G (some t.D) t.sz fuel [t] [] none (by simp [szl]) (by unfold fuel;nofun) (by simp;nofun)
 have hp:[t].flatMap Lk.pre=t.pre:=by simp
 rw [hp] at e
 simp only [XU,aaM,Xd,WU,Xk] at e
 have z1:(1:Nat)≤WO:=lz (by nofun)
 have hcl:aD (t.pre.map Lk.D)=true:=ay qU
 unfold d7
 refine fj (R:=[.dead,.lst []]) ?_ (by rw [aJ];exact hcl)
 have Vy:(Out.ok (D.obj G.length) (G++[.lst (t.pre.map Lk.D),.lst []])).fz=.ok (.con (t.pre.map Lk.D)) (G++[.dead,.lst []]):=Ic
 unfold gG
 generalize fuel=fl at e ⊢
 simp! [aP,z1,e,Vy]
theorem zA {ml:DS→M (List D)} {τ:DS} {G:DH}:iT ml τ G=(ml τ G).bd λds=>match ds with
 | [d,e]=>λG=>match cG G d,cG G e with
  | some (_,xs),some (_,ys)=>.ok (min xs.length ys.length+1,lW d e) G
  | _,_=>.stuck
 | _=>M.stop:=ai
theorem qy {gO:D→Option (List D)} {ks:List Bool} {tt:DS→M Bool} {te:DS→M D} {n:Nat} {τ:DS} {G:DH} {xs ys:List D}:iy gO ks tt te n (lW (.con xs) (.con ys)) (min xs.length ys.length+1) 0 τ G=bU gO ks tt te n (XA (λx y=>.tup [x,y]) xs ys) τ G:=by
 have:=gQ (n:=n) (gO:=gO) (ks:=ks) (tt:=tt) (te:=te) (xs:=XA (λx y=>D.tup [x,y]) xs ys) (vw:=lW (.con xs) (.con ys)) (λG i h=>by
  simp only [lW,cG,aA,List.getElem?_zipWith]
  cases xs[i]?<;>cases ys[i]?<;>rfl) (min xs.length ys.length+1) 0 τ G (by simp) (by simp)
 simpa using this
noncomputable def Vz (e:Bool):Bool→Bool→Bool:=if e then or else and
noncomputable def Lk.tr (ks:List Str):Lk→List Bool
 | .any=>ks.map λ_=>true
 | .kind s=>ks.map (·==s)
 | .not l=>(l.tr ks).map (!·)
 | .bin e l r=>XA (Vz e) (l.tr ks) (r.tr ks)
noncomputable def bD (bs:List Bool):D:=.con (bs.map .bl)
theorem Bh {b:Bool}:(D.bl b).closed=true:=rfl
theorem iX (bs:List Bool):aD (bs.map D.bl)=true:=ay λ_=>Bh
theorem sL (bs:List Bool):(bD bs).closed=true:=by rw [bD,aJ];exact iX bs
theorem ic (ks:List Str):∀ l:Lk,(l.tr ks).length=ks.length
 | .any=>by simp [Lk.tr]
 | .kind s=>by simp [Lk.tr]
 | .not l=>by rw [Lk.tr,W8,ic ks l]
 | .bin e l r=>by rw [Lk.tr,List.length_zipWith,ic ks l,ic ks r,Nat.min_self]
theorem Og (f:Bool→Bool→Bool) (g:D→D) (hg:∀ a b,g (.tup [.bl a,.bl b])=.bl (f a b)):∀ (as bs:List Bool),(XA (λx y=>D.tup [x,y]) (as.map .bl) (bs.map .bl)).map g=(XA f as bs).map .bl
 | [],bs=>by simp
 | a::as,[]=>by simp
 | a::as,b::bs=>by
  have:=Og f g hg as bs
  simp only [WU,Ym,hg,this]
theorem qA:∀ (as bs:List Bool) (x:D),x∈XA (λx y=>D.tup [x,y]) (as.map .bl) (bs.map .bl)→∃ a b,x=.tup [.bl a,.bl b]
 | [],bs,x,h=>by simp at h
 | a::as,[],x,h=>by simp at h
 | a::as,b::bs,x,h=>by
  simp only [WU,Ym,Xl] at h
  rcases h with rfl | h
  ·exact ⟨a,b,rfl⟩
  ·exact qA as bs x h
noncomputable def gB (f:Bool→Bool→Bool):D→D
 | .tup [.bl a,.bl b]=>.bl (f a b)
 | _=>.eO
theorem D3 (f:Bool→Bool→Bool) (te:DS→M D) (QY:∀ a b (τ:DS) (G:DH),te (some (.bl a)::some (.bl b)::τ) G=.ok (.bl (f a b)) G) (a0 a1 a2:Option D) (as bs:List Bool) (ha:as.length≤1000) (G:DH) :
  eFn (bZ (oT 2) [] (iT (aa (ak aT (af 3) (eC (.int 0))) (aa (ak aT (af 3) (eC (.int 1))) (ah)))) (bW) te) [a0,a1,a2,some (.con [bD as,bD bs])] G=.ok (bD (XA f as bs)) G:=by
 have hc:=iX (XA f as bs)
 have c1:=bQ (τ:=[a0,a1,a2,some (.con [bD as,bD bs])]) (G:=G) (gO:=oT 2) (ks:=[]) (te:=te) (own:=A7) (f:=gB f) (XA (λx y=>D.tup [x,y]) (as.map .bl) (bs.map .bl)) [] (by simp;nofun) (λx hx=>by
   obtain ⟨a,b,rfl⟩:=qA as bs x hx
   rfl) (λx hx acc=>by
   obtain ⟨a,b,rfl⟩:=qA as bs x hx
   exact QY a b _ _)
 rw [Xd,Og f (gB f) (λ_ _=>rfl)] at c1
 rw [bG]
 show _=Out.ok (D.con ((XA f as bs).map .bl)) G
 rw [← dQ hc,← c1,← qy]
 have hi:iT (aa (ak aT (af 3) (eC (.int 0))) (aa (ak aT (af 3) (eC (.int 1))) (ah))) [a0,a1,a2,some (.con [bD as,bD bs])] G=.ok (min (as.map D.bl).length (bs.map D.bl).length+1,lW (.con (as.map .bl)) (.con (bs.map .bl))) G:=by
  unfold bD
  generalize as.map D.bl=xs
  generalize bs.map D.bl=ys
  simp [zA,aI,aL,eN,ao,ai,aX,aT,aA,Of,SJ,cG]
 rw [jJ,hi,ao]
theorem D4 (ks:List Str) (hk:ks.length≤1000) (hok:∀ s∈ks,WW s=true) (r:D) (l:Lk) (ho:l.Ok) (G:DH) :
  dG [.con (ks.map .str),r,l.D,.con ((csl l).map λc=>bD (c.tr ks))] G=.ok (bD (l.tr ks)) G:=by
 unfold dG
 refine aR ?_ (sL _)
 cases l with
 | any=>
  have e1:=eqs "any" "kind" G jX gM (b:=false) (by symm)
  have e2:=eqs "any" "not" G jX gw (b:=false) (by symm)
  have e3:=eqs "any" "both" G jX kh (b:=false) (by symm)
  have e4:=eqs "any" "either" G jX gS (b:=false) (by symm)
  have e5:=eqs "any" "way" G jX qx (b:=false) (by symm)
  have hc:=iX (ks.map λ_=>true)
  have c1:=bQ (τ:=[some (.con (ks.map .str)),some r,some (Lk.any).D,some (.con [])]) (G:=G) (gO:=oN) (ks:=[]) (te:=eC (.bl true)) (own:=λd=>[d]) (f:=λ_=>.bl true) (ks.map D.str) [] (by simp;nofun) (λx _=>rfl) (λx hx acc=>rfl)
  rw [Xd,Xo] at c1
  have ef:eFn (dF oN [] (af 0) (bW) (eC (.bl true))) [some (.con (ks.map .str)),some r,some (Lk.any).D,some (.con [])] G=.ok (bD (ks.map λ_=>true)) G:=by
   have em:ks.map ((λ_=>D.bl true)∘D.str)=(ks.map λ_=>true).map .bl:=by rw [Xo];rfl
   rw [em] at c1
   rw [bG]
   show _=Out.ok (D.con ((ks.map λ_=>true).map .bl)) G
   rw [← dQ hc,← c1,jd,NB,ao]
  rw [Lk.tr]
  generalize hE:eFn (dF oN [] (af 0) (bW) (eC (.bl true)))=E at ef
  unfold aU
  rw [hE]
  generalize bD (ks.map λ_=>true)=res at ef
  rw [Lk.D] at ef ⊢
  simp! [csl,O1,e1,e2,e3,e4,e5,ef]
 | kind s=>
  have hs:WW s=true:=ho
  have e1:=eqs "kind" "kind" G gM gM (b:=true) (by symm)
  have hc:=iX (ks.map (·==s))
  have c1:=bQ (τ:=[some (.con (ks.map .str)),some r,some (Lk.kind s).D,some (.con [])]) (G:=G) (gO:=oN) (ks:=[false,false,true]) (te:=ak (fG false) (af 0) (ak aT (af 3) (eC (.int 1)))) (own:=λd=>[d]) (f:=λd=>match d with | .str x=>.bl (x==s) | _=>.eO) (ks.map D.str) [] (by simp;nofun) (λx _=>rfl) (λx hx acc=>by
    obtain ⟨y,hy,rfl⟩:=Xf.mp hx
    have e2:=eqs y s (G++[.lst acc]) (hok y hy) hs rfl
    show ak (fG false) (af 0) (ak aT (af 3) (eC (.int 1))) [some (.str y),none,none,some (Lk.kind s).D,none] _=_
    rw [Lk.D,UP,Lo]
    simp only [aT,aA,SJ,ao]
    exact e2)
  rw [Xd,Xo] at c1
  have ef:eFn (dF oN [false,false,true] (af 0) (bW) (ak (fG false) (af 0) (ak aT (af 3) (eC (.int 1))))) [some (.con (ks.map .str)),some r,some (Lk.kind s).D,some (.con [])] G=.ok (bD (ks.map (·==s))) G:=by
   have em:ks.map ((λd=>match d with | .str x=>D.bl (x==s) | _=>.eO)∘D.str)=(ks.map (·==s)).map .bl:=by rw [Xo];rfl
   rw [em] at c1
   rw [bG]
   show _=Out.ok (D.con ((ks.map (·==s)).map .bl)) G
   rw [← dQ hc,← c1,jd,NB,ao]
  rw [Lk.tr]
  generalize hE:eFn (dF oN [false,false,true] (af 0) (bW) (ak (fG false) (af 0) (ak aT (af 3) (eC (.int 1)))))=E at ef
  unfold aU
  rw [hE]
  generalize bD (ks.map (·==s))=res at ef
  rw [Lk.D] at ef ⊢
  simp! [csl,Of,e1,ef]
 | not l=>
  have e1:=eqs "not" "kind" G gw gM (b:=false) (by symm)
  have e2:=eqs "not" "not" G gw gw (b:=true) (by symm)
  have ht:=ic ks l
  rw [Lk.tr]
  show cI 4 aU [.con (ks.map .str),r,(Lk.not l).D,.con [bD (l.tr ks)]] G=_
  generalize l.tr ks=bs at ht
  have hc:=iX (bs.map (!·))
  have c1:=bQ (τ:=[some (.con (ks.map .str)),some r,some (Lk.not l).D,some (.con [bD bs])]) (G:=G) (gO:=oN) (ks:=[]) (te:=B9 (af 0)) (own:=λd=>[d]) (f:=λd=>match d with | .bl b=>.bl (!b) | _=>.eO) (bs.map D.bl) [] (by simp;nofun) (λx _=>rfl) (λx hx acc=>by
    obtain ⟨y,hy,rfl⟩:=Xf.mp hx
    rfl)
  rw [Xd,Xo] at c1
  have ef:eFn (dF oN [] (ak aT (af 3) (eC (.int 0))) (bW) (B9 (af 0))) [some (.con (ks.map .str)),some r,some (Lk.not l).D,some (.con [bD bs])] G=.ok (bD (bs.map (!·))) G:=by
   have em:bs.map ((λd=>match d with | .bl b=>D.bl (!b) | _=>.eO)∘D.bl)=(bs.map (!·)).map .bl:=by rw [Xo];rfl
   rw [em] at c1
   rw [bG]
   show _=Out.ok (D.con ((bs.map (!·)).map .bl)) G
   rw [← dQ hc,← c1,jd,Lo]
   simp only [aT,aA,O1,ao,bD]
  generalize hE:eFn (dF oN [] (ak aT (af 3) (eC (.int 0))) (bW) (B9 (af 0)))=E at ef
  unfold aU
  rw [hE]
  generalize bD (bs.map (!·))=res at ef
  generalize bD bs=bb at ef
  rw [Lk.D] at ef ⊢
  simp! [Of,e1,e2,ef]
 | bin e l r'=>
  have ht:=ic ks l
  rw [Lk.tr]
  show cI 4 aU [.con (ks.map .str),r,(Lk.bin e l r').D,.con [bD (l.tr ks),bD (r'.tr ks)]] G=_
  generalize l.tr ks=as at ht
  generalize r'.tr ks=bs
  rw [Lk.D]
  cases e with
  | false=>
   have e1:=eqs "both" "kind" G kh gM (b:=false) (by symm)
   have e2:=eqs "both" "not" G kh gw (b:=false) (by symm)
   have e3:=eqs "both" "both" G kh kh (b:=true) (by symm)
   have ef:=D3 and (B8 (af 0) (af 1)) (λa b τ G=>by cases a<;>rfl) (some (.con (ks.map .str))) (some r) (some (.tup [.str (jW false),l.D,r'.D])) as bs (by nofun) G
   generalize hE:eFn (bZ (oT 2) [] (iT (aa (ak aT (af 3) (eC (.int 0))) (aa (ak aT (af 3) (eC (.int 1))) (ah)))) (bW) (B8 (af 0) (af 1)))=E at ef
   unfold aU
   rw [hE]
   show _=Out.ok (bD (XA and as bs)) G
   generalize bD (XA and as bs)=res at ef
   generalize [bD as,bD bs]=bb at ef
   rw [show jW false="both" from rfl] at ef ⊢
   simp! [Rj,e1,e2,e3,ef]
  | true=>
   have e1:=eqs "either" "kind" G gS gM (b:=false) (by symm)
   have e2:=eqs "either" "not" G gS gw (b:=false) (by symm)
   have e3:=eqs "either" "both" G gS kh (b:=false) (by symm)
   have e4:=eqs "either" "either" G gS gS (b:=true) (by symm)
   have ef:=D3 or (MV (af 0) (af 1)) (λa b τ G=>by cases a<;>rfl) (some (.con (ks.map .str))) (some r) (some (.tup [.str (jW true),l.D,r'.D])) as bs (by nofun) G
   generalize hE:eFn (bZ (oT 2) [] (iT (aa (ak aT (af 3) (eC (.int 0))) (aa (ak aT (af 3) (eC (.int 1))) (ah)))) (bW) (MV (af 0) (af 1)))=E at ef
   unfold aU
   rw [hE]
   show _=Out.ok (bD (XA or as bs)) G
   generalize bD (XA or as bs)=res at ef
   generalize [bD as,bD bs]=bb at ef
   rw [show jW true="either" from rfl] at ef ⊢
   simp! [Rj,e1,e2,e3,e4,ef]
theorem LB:XZ ("truths_of":Str) [("truths_of",((2:Nat),bz))]=some (2,bz):=by
 simp only [XZ,beq_self_eq_true]
theorem Iv (G Z:DH) (x y:DO):(G++x::(Z++[y]))[G.length+(Z.length+1)]?=some y:=by
 have e:G++x::(Z++[y])=(G++x::Z)++y::[]:=by simp
 have l:G.length+(Z.length+1)=(G++x::Z).length:=by simp
 rw [e,l]
 exact oY _ _ _
theorem Iw (G Z:DH) (x y z:DO):(G++x::(Z++[y])).set (G.length+(Z.length+1)) z=G++x::(Z++[z]):=by
 have e:G++x::(Z++[y])=(G++x::Z)++y::[]:=by simp
 have l:G.length+(Z.length+1)=(G++x::Z).length:=by simp
 rw [e,l,vm]
 simp
theorem sM (G Z:DH) (a0 a1 a2 a4:Option D) (B:List D):∀ (xs:List D) (j:Nat) (ps:List D) (a6:Option D),ps.length+xs.length≤1000 →
  ∃ b6,bC (gN 6) gR ((Xs j xs.length).map λ(k:Nat)=>.int (0+(k:Int))) [a0,a1,a2,some (.obj G.length),a4,some (.obj (G.length+(Z.length+1))),a6] (G++.lst (B++xs.reverse)::(Z++[.lst ps])) =
   .nx [a0,a1,a2,some (.obj G.length),a4,some (.obj (G.length+(Z.length+1))),b6] (G++.lst B::(Z++[.lst (ps++xs)]))
 | [],j,ps,a6,_=>⟨a6,by simp [bC]⟩
 | x::xs,j,ps,a6,h=>by
  simp only [WR] at h
  obtain ⟨b6,e⟩:=sM G Z a0 a1 a2 a4 B xs (j+1) (ps++[x]) (some (.int (0+(j:Int)))) (by simp;nofun)
  refine ⟨b6,?_⟩
  have hz:ps.length<WO:=W0 (by nofun) (lz (n:=2000) (by nofun))
  have er:B++(x::xs).reverse=(B++xs.reverse)++[x]:=by simp
  rw [er]
  generalize B++xs.reverse=C at e
  have hdl:(C++[x]).dropLast=C:=List.dropLast_concat
  have hix:(C++[x])[(C++[x]).length - 1]?=some x:=by simp
  have g1:=λx y=>Iv G Z x y
  have s1:=λx y z=>Iw G Z x y z
  have g0:∀ x y,(G++x::(Z++[y]))[G.length]?=some x:=λx y=>oY G x _
  have s0:∀ x y z,(G++x::(Z++[y])).set G.length z=G++z::(Z++[y]):=λx y z=>vm G x z _
  have ep:bK "list" kN (af 3) ah [a0,a1,a2,some (.obj G.length),a4,some (.obj (G.length+(Z.length+1))),some (.int (0+(j:Int)))] (G++.lst (C++[x])::(Z++[.lst ps]))=.ok x (G++.lst C::(Z++[.lst ps])):=by
   simp only [dN,aQ,W4,WX,ao,cT,g0,aL,kN,hix,hdl,beq_self_eq_true,if_true,s0]
  have e1:gR [a0,a1,a2,some (.obj G.length),a4,some (.obj (G.length+(Z.length+1))),some (.int (0+(j:Int)))] (G++.lst (C++[x])::(Z++[.lst ps]))=.nx [a0,a1,a2,some (.obj G.length),a4,some (.obj (G.length+(Z.length+1))),some (.int (0+(j:Int)))] (G++.lst C::(Z++[.lst (ps++[x])])):=by
   simp only [gR,f7,dN (g:=aS),aQ,W4,WX,ao,cT,g1,aI,ep,aL,ai,aX,aS,beq_self_eq_true,if_true,hz,s1,jI]
  rw [WR,Ys,WU,bE rfl]
  simp only [Xq,Xp,e1,fP]
  rw [e]
  simp
theorem D5 (A Z:DH) (a0 a5 a6:Option D) (caps:List D) (B:List D) (t:Lk) (lD:List D) (rd:D) (hl:lD.length=(csl t).length) (hz:t.sz≤900) (hB:B.length≤5000) (hc2:caps.length=2) (em:∀ G,bz ([t.D,.con lD]++caps) G=.ok rd G) :
  ∃ (b5 b6:Option D),cu [a0,some (.fn "look_parts"),some (.ig "truths_of" caps),some (.obj A.length),some t.D,a5,a6] (A++.lst (B++lD.reverse)::Z) =
   .nx [a0,some (.fn "look_parts"),some (.ig "truths_of" caps),some (.obj A.length),some t.D,b5,b6] (A++.lst (B++[rd])::(Z++[.dead])):=by
 have hlt:=DZ (csl t)
 have WL:=wR t
 have WM:lD.length≤1000:=by nofun
 obtain ⟨b6,e⟩:=sM A Z a0 (some (.fn "look_parts")) (some (.ig "truths_of" caps)) (some t.D) B lD 0 [] a6 (by simp;nofun)
 have ep:=λG=>wU t G
 have hr:=iA (j:=(lD.length:Int)) (by nofun) (by nofun)
 rw [Y4] at hr
 simp only [Xd] at e
 have hcl:((csl t).map Lk.D).length=lD.length:=by rw [W8,hl]
 generalize t.D=td at e ep em
 generalize (csl t).map Lk.D=cD at ep hcl
 generalize ((Xs 0 lD.length).map λ(k:Nat)=>D.int (0+(k:Int)))=rg at hr e
 have VA:lD.length≤WO:=lz (by nofun)
 have VB:B.length<WO:=W0 (by nofun) (lz (n:=6000) (by nofun))
 refine ⟨some (.obj (A.length+(Z.length+1))),b6,?_⟩
 have n0:∀ M:DO,aP [] (A++M::Z)=.ok (.obj (A.length+(Z.length+1))) (A++M::(Z++[.lst []])):=λM=>by simp [aP]
 have g1:=λx y=>Iv A Z x y
 have s1:=λx y z=>Iw A Z x y z
 have g0:∀ x Y,(A++x::Y)[A.length]?=some x:=λx Y=>oY A x Y
 have s0:∀ x z Y,(A++x::Y).set A.length z=A++z::Y:=λx z Y=>vm A x z Y
 have S1:(aN 5 (aj aP (ah))) [a0,some (.fn "look_parts"),some (.ig "truths_of" caps),some (.obj A.length),some td,a5,a6] (A++.lst (B++lD.reverse)::Z)=.nx [a0,some (.fn "look_parts"),some (.ig "truths_of" caps),some (.obj A.length),some td,some (.obj (A.length+(Z.length+1))),a6] (A++.lst (B++lD.reverse)::(Z++[.lst []])):=by
  simp only [di,bM,aL,ao,n0,fO,UY]
 have S2:(fL eV (gN 6) (aa (aj cA (aa (jb 1 1 (λy=>XZ y [("placed_parts",aW),("look_parts",bw)]) (aa (af 4) (ah))) (ah))) (ah)) gR) [a0,some (.fn "look_parts"),some (.ig "truths_of" caps),some (.obj A.length),some td,some (.obj (A.length+(Z.length+1))),a6] (A++.lst (B++lD.reverse)::(Z++[.lst []]))=.nx [a0,some (.fn "look_parts"),some (.ig "truths_of" caps),some (.obj A.length),some td,some (.obj (A.length+(Z.length+1))),b6] (A++.lst B::(Z++[.lst lD])):=by
  simp! [Iu,ep,hcl,VA,hr,e]
 have eA:(aa (af 4) (aa (xm (af 5)) (ah))) [a0,some (.fn "look_parts"),some (.ig "truths_of" caps),some (.obj A.length),some td,some (.obj (A.length+(Z.length+1))),b6] (A++.lst B::(Z++[.lst lD]))=.ok [td,.con lD] (A++.lst B::(Z++[.dead])):=by
  have ef:xm (af 5) [a0,some (.fn "look_parts"),some (.ig "truths_of" caps),some (.obj A.length),some td,some (.obj (A.length+(Z.length+1))),b6] (A++.lst B::(Z++[.lst lD]))=.ok (.con lD) (A++.lst B::(Z++[.dead])):=by
   unfold xm
   rw [LY]
   simp only [g1,s1]
  rw [aI,Su,ao,ai,aI,ef,ao,ai,aL,ao,aX,ao,aX]
 have eC:kT 2 2 (λy=>XZ y [("truths_of",(2,bz))]) (aa (af 4) (aa (xm (af 5)) (ah))) [a0,some (.fn "look_parts"),some (.ig "truths_of" caps),some (.obj A.length),some td,some (.obj (A.length+(Z.length+1))),b6] (A++.lst B::(Z++[.lst lD]))=.ok rd (A++.lst B::(Z++[.dead])):=by
  unfold kT
  rw [So]
  dsimp only
  rw [ai,eA,ao]
  unfold tU
  rw [So]
  dsimp only
  rw [LB]
  simp only [hc2]
  exact em _
 rw [cu,bq,S1,b9,bq,S2,b9,f7,dN (g:=aS),Q7]
 simp only [ao,cT,g0,aI,eC,ai,aL,aX,aS,beq_self_eq_true,if_true,VB,s0,jI]
noncomputable def yC (A:DH) (a0:Option D) (caps:List D) (ks:List Str) (t:Lk):Prop:=∀ (B:List D) (Z:DH) (a4 a5 a6:Option D),B.length+t.sz≤4000→∃ (Z':DH) (b4 b5 b6:Option D),∀ rest:List D,
  bC (gN 4) cu (t.pre.reverse.map Lk.D++rest) [a0,some (.fn "look_parts"),some (.ig "truths_of" caps),some (.obj A.length),a4,a5,a6] (A++.lst B::Z) =
  bC (gN 4) cu rest [a0,some (.fn "look_parts"),some (.ig "truths_of" caps),some (.obj A.length),b4,b5,b6] (A++.lst (B++[bD (t.tr ks)])::Z')
theorem zB (A:DH) (a0:Option D) (caps:List D) (ks:List Str):∀ (ts:List Lk),(∀ t∈ts,yC A a0 caps ks t)→∀ (B:List D) (Z:DH) (a4 a5 a6:Option D),B.length+szl ts≤4000→∃ (Z':DH) (b4 b5 b6:Option D),∀ rest:List D,
  bC (gN 4) cu ((ts.flatMap Lk.pre).reverse.map Lk.D++rest) [a0,some (.fn "look_parts"),some (.ig "truths_of" caps),some (.obj A.length),a4,a5,a6] (A++.lst B::Z) =
  bC (gN 4) cu rest [a0,some (.fn "look_parts"),some (.ig "truths_of" caps),some (.obj A.length),b4,b5,b6] (A++.lst (B++(ts.map λc=>bD (c.tr ks)).reverse)::Z')
 | [],_,B,Z,a4,a5,a6,_=>⟨Z,a4,a5,a6,λrest=>by simp⟩
 | t::ts,h,B,Z,a4,a5,a6,hB=>by
  rw [szl] at hB
  have hlt:=DZ ts
  obtain ⟨Z',b4,b5,b6,e⟩:=zB A a0 caps ks ts (λx hx=>h x (by simp [hx])) B Z a4 a5 a6 (by nofun)
  obtain ⟨Z2,c4,c5,c6,e1⟩:=h t (by simp) (B++(ts.map λc=>bD (c.tr ks)).reverse) Z' b4 b5 b6 (by rw [W9,Zy,W8];nofun)
  refine ⟨Z2,c4,c5,c6,λrest=>?_⟩
  have er:((t::ts).flatMap Lk.pre).reverse.map Lk.D++rest=(ts.flatMap Lk.pre).reverse.map Lk.D++(t.pre.reverse.map Lk.D++rest):=by
   rw [Zo,abw,Xu,Yk]
  rw [er,e,e1]
  simp
theorem zC:∀ {ls:List Lk} {l:Lk},l∈ls→l.sz≤szl ls
 | l'::ls,l,h=>by
  rw [szl]
  rcases Xl.mp h with rfl | h
  ·nofun
  ·have:=zC h;nofun
theorem LC (t:Lk) (h:t.Ok):∀ c∈csl t,c.Ok:=by
 intro c hc
 cases t with
 | any=>simp [csl] at hc
 | kind s=>simp [csl] at hc
 | not l=>simp [csl] at hc;rw [hc];exact h
 | bin e l r=>
  simp [csl] at hc
  rcases hc with rfl | rfl
  ·exact h.1
  ·exact h.2
theorem LD (ks:List Str) (hk:ks.length≤1000) (hok:∀ s∈ks,WW s=true) (r:D) (l:Lk) (ho:l.Ok) (G:DH) :
  bz ([l.D,.con ((csl l).map λc=>bD (c.tr ks))]++[r,.con (ks.map .str)]) G=.ok (bD (l.tr ks)) G:=by
 have e:=D4 ks hk hok r l ho G
 show iU (AK 4 cP [l.D,.con ((csl l).map λc=>bD (c.tr ks)),r,.con (ks.map .str)] G)=_
 generalize (csl l).map (λc=>bD (c.tr ks))=ps at e
 generalize bD (l.tr ks)=res at e
 generalize l.D=ld at e
 generalize ks.map D.str=kk at e
 have e2:AK 4 cP [ld,.con ps,r,.con kk] G=.ok res G:=by
  show cP [some ld,some (.con ps),some r,some (.con kk)] G=_
  unfold cP
  simp only [cO,UU,US,Sn,UQ,aL,ao,aX,WR,Xb,if_true,e]
 rw [e2];rfl
theorem Bj (A Z' Z:DH) (a0:Option D) (caps:List D) (ks:List Str) (t:Lk) (B:List D) (a4 a5 a6 b4 b5 b6:Option D) (lD:List D) (hl:lD.length=(csl t).length) (hz:t.sz≤900) (hB:B.length≤5000) (hc2:caps.length=2) (em:∀ G,bz ([t.D,.con lD]++caps) G=.ok (bD (t.tr ks)) G)
  (e:∀ rest:List D,bC (gN 4) cu (((csl t).flatMap Lk.pre).reverse.map Lk.D++rest) [a0,some (.fn "look_parts"),some (.ig "truths_of" caps),some (.obj A.length),a4,a5,a6] (A++.lst B::Z) =
  bC (gN 4) cu rest [a0,some (.fn "look_parts"),some (.ig "truths_of" caps),some (.obj A.length),b4,b5,b6] (A++.lst (B++lD.reverse)::Z')) :
  ∃ (Z2:DH) (c4 c5 c6:Option D),∀ rest:List D,bC (gN 4) cu (t.pre.reverse.map Lk.D++rest) [a0,some (.fn "look_parts"),some (.ig "truths_of" caps),some (.obj A.length),a4,a5,a6] (A++.lst B::Z) =
  bC (gN 4) cu rest [a0,some (.fn "look_parts"),some (.ig "truths_of" caps),some (.obj A.length),c4,c5,c6] (A++.lst (B++[bD (t.tr ks)])::Z2):=by
 obtain ⟨c5,c6,e1⟩:=D5 A Z' a0 b5 b6 caps B t lD (bD (t.tr ks)) hl hz hB hc2 em
 refine ⟨Z'++[.dead],some t.D,c5,c6,λrest=>?_⟩
 have er:t.pre.reverse.map Lk.D++rest=((csl t).flatMap Lk.pre).reverse.map Lk.D++t.D::rest:=by
  rw [D0,XU,Xu,Yk];rfl
 rw [er,e]
 have ec:=bE (g:=gN 4) (body:=cu) (x:=t.D) (r:=rest) (G:=A++.lst (B++lD.reverse)::Z') (τ:=[a0,some (.fn "look_parts"),some (.ig "truths_of" caps),some (.obj A.length),b4,b5,b6]) (τ1:=[a0,some (.fn "look_parts"),some (.ig "truths_of" caps),some (.obj A.length),some t.D,b5,b6]) rfl
 rw [ec,e1,fP]
theorem Hz (A:DH) (a0:Option D) (ks:List Str) (hk:ks.length≤1000) (hok:∀ s∈ks,WW s=true) (r:D) (caps:List D) (hcap:caps=[r,.con (ks.map .str)]):∀ (n:Nat) (t:Lk),t.sz≤n→t.sz≤900→t.Ok→yC A a0 caps ks t:=by
 intro n
 induction n with
 | zero=>intro t h;have:=wR t;nofun
 | succ n ih=>
  intro t hn hz ho B Z a4 a5 a6 hB
  have hq:=wR t
  have VC:B.length≤5000:=by nofun
  have hs:B.length+szl (csl t)≤4000:=by nofun
  have Rk:∀ G,bz ([t.D,.con ((csl t).map λc=>bD (c.tr ks))]++caps) G=.ok (bD (t.tr ks)) G:=λG=>by rw [hcap];exact LD ks hk hok r t ho G
  have hcp:caps.length=2:=by rw [hcap];rfl
  have hch:∀ c∈csl t,yC A a0 caps ks c:=λc hc=>by
   have:=zC hc
   exact ih c (by nofun) (by nofun) (LC t ho c hc)
  obtain ⟨Z',b4,b5,b6,e⟩:=zB A a0 caps ks (csl t) hch B Z a4 a5 a6 hs
  exact Bj A Z' Z a0 caps ks t B a4 a5 a6 b4 b5 b6 _ (W8 _) hz VC hcp Rk e
theorem Bk (ks:List Str) (hk:ks.length≤1000) (hok:∀ s∈ks,WW s=true) (r:D) (l:Lk) (hz:l.sz≤900) (ho:l.Ok) (G:DH) (hG:G.any (kG "truths_of")=true):dU [.con (ks.map .str),r,l.D] G=.ok (bD (l.tr ks)) G:=by
 obtain ⟨Z',b4,b5,b6,e⟩:=Hz G (some l.D) ks hk hok r [r,.con (ks.map .str)] rfl l.sz l (WZ _) hz ho [] [] none none none (by simp;nofun)
 have e2:=e []
 rw [Xv,dO] at e2
 have ew:=Bg l hz (G++[.lst []])
 have hfr:=λτ G=>yZ (g:=gN 4) (body:=cu) (xs:=l.pre.map Lk.D) (τ:=τ) (G:=G)
 rw [Zu] at e2
 simp only [Xd] at e2
 have n0:aP [] G=.ok (.obj G.length) (G++[.lst []]):=by simp [aP]
 have g0:∀ x Y,(G++x::Y)[G.length]?=some x:=λx Y=>oY G x Y
 have ef:l5 [l.D,.fn "look_parts",.ig "truths_of" [r,.con (ks.map .str)]] G=.ok (bD (l.tr ks)) (G++.lst [bD (l.tr ks)]::Z'):=by
  unfold l5
  generalize l.pre.map Lk.D=pD at e2 ew hfr
  generalize bD (l.tr ks)=tD at e2
  generalize l.D=ld at e2 ew
  generalize ks.map D.str=kk at e2
  simp! [pW,n0,ew,hfr,e2,g0,O1]
 unfold dU
 refine fj (R:=.lst [bD (l.tr ks)]::Z') ?_ (sL _)
 generalize bD (l.tr ks)=tD at ef
 generalize l.D=ld at ef
 generalize ks.map D.str=kk at ef
 have eL:AO "truths_of" [1,0] [some (.con kk),some r,some ld] G=.ok (.ig "truths_of" [r,.con kk]) G:=by
  unfold AO
  rw [if_pos hG]
  rfl
 have e5:cI 3 gk [.con kk,r,ld] G=.ok tD (G++.lst [tD]::Z'):=by
  simp! [gk,eL,ef]
 show iU (cI 3 gk [.con kk,r,ld] G)=_
 rw [e5];rfl
noncomputable def kn:T→Str
 | .nd k _=>k
theorem Oh (t:T):t.subs.map kd=(t.subs.map kn).map .str:=by
 rw [Xo]
 refine YD λx _=>?_
 cases x;rfl
noncomputable def due (ps:List (List Int)) (bs:List Bool):List D:=((ps.zip bs).filter (·.2)).map λq=>pl q.1
theorem D6:∀ (ps:List (List Int)) (bs:List Bool),XA (λx y=>D.tup [x,y]) (ps.map pl) (bs.map .bl)=(ps.zip bs).map λq=>.tup [pl q.1,.bl q.2]
 | [],bs=>by simp
 | p::ps,[]=>by simp
 | p::ps,b::bs=>by
  have:=D6 ps bs
  simp only [WU,Ym,YN,this]
theorem qB (ps:List (List Int)) (bs:List Bool):aD (due ps bs)=true:=ay λ_=>g8 _
noncomputable def wV:DS→M D:=bZ (oT 2) [] (iT (aa (av 1 aV (aa (af 0) (ah))) (aa (af 2) (ah)))) (iH kr (af 1)) (af 0)
theorem Bl (t:T) (ht:t.subs.length≤100) (a1:Option D) (bs:List Bool) (G:DH):wV [some t.d,a1,some (bD bs)] G=.ok (.obj G.length) (G++[.lst (due ((t.prs []).map (·.1)) bs)]):=by
 have hz:(t.prs []).length=t.subs.length:=by rw [← dw [] t,W8]
 have hc:=gE (gO:=oT 2) (ks:=[]) (tt:=iH kr (af 1)) (te:=af 0) (own:=λq:List Int×Bool=>[pl q.1,D.bl q.2]) (dat:=λq=>D.tup [pl q.1,.bl q.2]) (f:=λq=>pl q.1) (c:=λq=>q.2) (G:=G) (τ:=[some t.d,a1,some (bD bs)]) (((t.prs []).map (·.1)).zip bs) [] (by simp;nofun) (λ_ _=>rfl) (λq _ acc=>rfl) (λq _ acc=>rfl)
 have e:=places_eq t (by nofun) G
 rw [← D6,Xd] at hc
 rw [due,← hc,← qy]
 have hi:iT (aa (av 1 aV (aa (af 0) (ah))) (aa (af 2) (ah))) [some t.d,a1,some (bD bs)] G=.ok (min (((t.prs []).map (·.1)).map pl).length (bs.map D.bl).length+1,lW (.con (((t.prs []).map (·.1)).map pl)) (.con (bs.map .bl))) G:=by
  unfold bD
  generalize ((t.prs []).map (·.1)).map pl=xs at e
  generalize bs.map D.bl=ys
  generalize t.d=td at e
  simp [zA,cO,aI,aL,eN,ao,ai,aX,e,cG,aA]
 unfold wV
 rw [jJ,hi,ao]
theorem D7 (t:T) (ht:t.subs.length≤100) (hgd:∀ s∈t.subs.map kn,WW s=true) (l:Lk) (hz:l.sz≤900) (ho:l.Ok) (G:DH) (hG:G.any (kG "truths_of")=true):∃ R:DH,
  av 3 dU (aa (av 1 fZ (aa (af 0) (ah))) (aa (av 1 dm (aa (af 0) (ah))) (aa (af 1) (ah)))) [some t.d,some l.D,none] G=.ok (bD (l.tr (t.subs.map kn))) (G++R):=by
 obtain ⟨R,e2⟩:=yz t ht G
 have e1:=DV t (by nofun) G
 rw [Oh] at e1
 have e3:=Bk (t.subs.map kn) (by rw [W8];nofun) hgd (.obj (G.length+1)) l hz ho (G++R) (by rw [ab9,hG];rfl)
 refine ⟨R,?_⟩
 generalize bD (l.tr (t.subs.map kn))=res at e3
 generalize (t.subs.map kn).map D.str=kk at e1 e3
 generalize t.d=td at e1 e2
 generalize l.D=ld at e3
 simp [cO,aI,aL,ao,ai,aX,e1,e2,e3]
theorem D8 (t:T) (ht:t.subs.length≤100) (hgd:∀ s∈t.subs.map kn,WW s=true) (l:Lk) (hz:l.sz≤900) (ho:l.Ok) (G:DH) (hG:G.any (kG "truths_of")=true) :
  n9 [t.d,l.D] G=.ok (.con (due ((t.prs []).map (·.1)) (l.tr (t.subs.map kn)))) G∧j9 [t.d,l.D] G=.ok (.obj G.length) (G++[.lst (due ((t.prs []).map (·.1)) (l.tr (t.subs.map kn)))]):=by
 obtain ⟨R,e1⟩:=D7 t ht hgd l hz ho G hG
 have e2:=Bl t ht (some l.D) (l.tr (t.subs.map kn)) (G++R)
 have hc:=qB ((t.prs []).map (·.1)) (l.tr (t.subs.map kn))
 have e3:eFn wV [some t.d,some l.D,some (bD (l.tr (t.subs.map kn)))] (G++R)=.ok (.con (due ((t.prs []).map (·.1)) (l.tr (t.subs.map kn)))) (G++R):=by rw [bG,e2,dQ hc]
 generalize due ((t.prs []).map (·.1)) (l.tr (t.subs.map kn))=L at e2 e3 hc
 generalize bD (l.tr (t.subs.map kn))=bb at e1 e2 e3
 generalize hE:av 3 dU (aa (av 1 fZ (aa (af 0) (ah))) (aa (av 1 dm (aa (af 0) (ah))) (aa (af 1) (ah))))=E at e1
 generalize t.d=td at e1 e2 e3
 generalize l.D=ld at e1 e2 e3
 constructor
 ·unfold n9
  refine fj (R:=R) ?_ (by rw [aJ];exact hc)
  show (n8 [some td,some ld,none] G).fn=_
  unfold n8
  rw [hE]
  show (aG (aN 2 E) (cj (eFn wV)) [some td,some ld,none] G).fn=_
  rw [bq,di,e1,fO,Sq,b9,fY,e3,iR,iS]
 ·have e4:cI 3 iW [td,ld] G=.ok (.obj (G++R).length) ((G++R)++[.lst L]):=by
   show (iW [some td,some ld,none] G).fn=_
   unfold iW
   rw [hE]
   show (aG (aN 2 E) (cj wV) [some td,some ld,none] G).fn=_
   rw [bq,di,e1,fO,Sq,b9,fY,e2,iR,iS]
  unfold j9 o8
  dsimp only
  rw [e4]
  dsimp only
  rw [oY]
  dsimp only
  have Rl:((G++R)++[DO.lst L]).take G.length=G:=by rw [Yk,List.take_left]
  rw [Rl,mO]
  simp [hc]
noncomputable def nb:List Bool→Nat
 | []=>0
 | b::r=>b.toNat+2*nb r
theorem Bm (a b:Bool) (m n:Nat):(a.toNat+2*m) &&& (b.toNat+2*n)=(a&&b).toNat+2*(m &&& n):=by
 have h1:(a.toNat+2*m) / 2=m:=by cases a<;>simp<;>nofun
 have h2:(b.toNat+2*n) / 2=n:=by cases b<;>simp<;>nofun
 have h3:((a&&b).toNat+2*(m &&& n)) / 2=m &&& n:=by cases a<;>cases b<;>simp<;>nofun
 apply Nat.eq_of_testBit_eq
 intro i
 cases i with
 | zero=>
  rw [aa7,aaN,aaN,aaN]
  cases a<;>cases b<;>simp<;>nofun
 | succ i=>rw [aa7,aaO,aaO,aaO,h1,h2,h3,aa7]
theorem yD:∀ as bs:List Bool,as.length=bs.length→nb (XA and as bs)=nb as &&& nb bs
 | [],[],_=>rfl
 | a::as,b::bs,h=>by
  rw [Ym,nb,nb,nb,Bm,yD as bs (by simpa using h)]
theorem Iz:∀ as bs:List Bool,as.length=bs.length→nb (XA or as bs)+nb (XA and as bs)=nb as+nb bs
 | [],[],_=>rfl
 | a::as,b::bs,h=>by
  have:=Iz as bs (by simpa using h)
  rw [Ym,Ym,nb,nb,nb,nb]
  cases a<;>cases b<;>simp<;>nofun
theorem D9:∀ bs:List Bool,nb (bs.map (!·))+nb bs=2^bs.length - 1
 | []=>rfl
 | b::bs=>by
  have:=D9 bs
  have hp:1≤2^bs.length:=aar
  rw [WU,nb,nb,WR,aa2]
  cases b<;>simp<;>nofun
theorem Ea (n:Nat):nb (Xi n true)=2^n - 1:=by
 induction n with
 | zero=>rfl
 | succ n ih=>
  have hp:1≤2^n:=aar
  rw [aby,nb,ih,aa2]
  simp;nofun
theorem uB:∀ (bs:List Bool) (b:Bool),nb (bs++[b])=nb bs+b.toNat*2^bs.length
 | [],b=>by simp [nb]
 | a::bs,b=>by
  rw [XT,nb,uB bs b,nb,WR,aa2]
  cases b<;>simp<;>nofun
theorem IA:∀ (bs:List Bool) (j:Nat) (b:Bool),bs[j]?=some b→nb bs / 2^j % 2=b.toNat
 | c::bs,0,b,h=>by
  simp at h;subst h
  rw [nb];cases c<;>simp<;>nofun
 | c::bs,j+1,b,h=>by
  have:=IA bs j b (by simpa using h)
  have e:nb (c::bs) / 2=nb bs:=by rw [nb];cases c<;>simp<;>nofun
  rw [aa2,Nat.mul_comm,← Nat.div_div_eq_div_mul,e,this]
theorem Oi (m n:Nat):Yu (m:Int) (n:Int)=((m &&& n:Nat):Int):=by
 rfl
theorem IB (as bs:List Bool) (h:as.length=bs.length):Yu (nb as:Int) (nb bs:Int)=(nb (XA and as bs):Int):=by
 rw [Oi,yD as bs h]
theorem Oj (bs:List Bool):Yc ((2^bs.length - 1:Nat):Int) (nb bs:Int)=(nb (bs.map (!·)):Int):=by
 have e:=yD (Xi bs.length true) bs (by simp)
 have ez:XA and (Xi bs.length true) bs=bs:=by
  apply YJ
  ·simp
  ·intro i h1 h2;simp
 rw [Ea,ez] at e
 rw [aaP,Oi,← e]
 have:=D9 bs
 nofun
theorem Ol (as bs:List Bool) (h:as.length=bs.length):YF (nb as:Int) (nb bs:Int)=(nb (XA or as bs):Int):=by
 have e1:=aaP (nb as:Int) (nb bs:Int)
 have e2:Yc (nb as:Int) (nb bs:Int)=YF (nb as:Int) (nb bs:Int) - Yu (nb as:Int) (nb bs:Int):=rfl
 have e3:=IB as bs h
 have:=Iz as bs h
 nofun
theorem LF (bs:List Bool) (b:Bool):YF (nb bs:Int) ((b.toNat:Int)*2^bs.length)=(nb (bs++[b]):Int):=by
 have h0:∀ n,nb (Xi n false)=0:=λn=>by
  induction n with
  | zero=>rfl
  | succ n ih=>rw [aby,nb,ih];rfl
 have h1:nb (bs++[false])=nb bs:=by rw [uB];simp
 have h2:nb (Xi bs.length false++[b])=b.toNat*2^bs.length:=by rw [uB,h0,ZT];nofun
 have h3:=Ol (bs++[false]) (Xi bs.length false++[b]) (by simp)
 have h4:XA or (bs++[false]) (Xi bs.length false++[b])=bs++[b]:=by
  rw [List.zipWith_append (by simp)]
  congr 1
  ·apply YJ
   ·simp
   ·intro i h1 h2;simp
 rw [h1,h2,h4] at h3
 rw [← h3]
 congr 1
mutual
theorem Eb (n:Nat):∀ t:T,(t.pre n).map (·.2)=t.subs.map kn
 | .nd k ps=>by rw [T.pre,T.subs,WU,WU,zD (n+1) ps];rfl
theorem zD (n:Nat):∀ ts:List T,(gm n ts).map (·.2)=(bO ts).map kn
 | []=>rfl
 | t::r=>by rw [gm,bO,Xu,Xu,Eb n t,zD n r]
end
structure Qt where
 l:Lk
 s:Int
 d:Int
noncomputable def Qt.D (ks:List Str) (q:Qt):L3.D:=.tup [q.l.D,.int (nb (q.l.tr ks):Int),.int q.s,.int q.d]
noncomputable def Qt.Ok (q:Qt):Prop:=q.l.Ok∧(q.l.sz:Int)≤q.s∧q.s≤40∧q.d≤12
theorem Om (ks:List Str) (q:Qt):(q.D ks).closed=true:=by simp [Qt.D,D.closed,aH,bh,qU]
theorem LG {a b c d:D}:iL [a,b,c,d] 0=some a:=rfl
theorem Oo {a b c d:D}:iL [a,b,c,d] 1=some b:=rfl
theorem LH {a b c d:D}:iL [a,b,c,d] 2=some c:=rfl
theorem LI {a b c d:D}:iL [a,b,c,d] 3=some d:=rfl
theorem Bo (a0 a1 a2:Option D) (s:Str) (hs:WW s=true) (bs:List Bool) (hb:bs.length≤1000) (p:Nat×Str) (hp:WW p.2=true) (G:DH) :
  eB [a0,a1,a2,some (.str s),some (.int (nb bs:Int)),some (.int (bs.length:Int)),some (row p)] G=.nx [a0,a1,a2,some (.str s),some (.int (nb (bs++[p.2==s]):Int)),some (.int (bs.length:Int)),some (row p)] G:=by
 have e:=eqs p.2 s G hp hs rfl
 have eo:=LF bs (p.2==s)
 have z1:((bs.length:Nat):Int)≤1000000:=by nofun
 have hi:rO [D.bl (p.2==s)] G=.ok (.int ((p.2==s).toNat:Int)) G:=by cases (p.2==s)<;>rfl
 have hsh:pO (.int ((p.2==s).toNat:Int)) (.int (bs.length:Int)) G=.ok (.int (((p.2==s).toNat:Int)*2^bs.length)) G:=by
  have hn:(p.2==s).toNat<18446744073709551616:=by cases (p.2==s)<;>decide
  simp [pO,cH,z1,hn,M.ret]
 generalize (p.2==s)=b at e eo hi hsh
 have ho:NX (.int (nb bs:Int)) (.int ((b.toNat:Int)*2^bs.length)) G=.ok (.int (nb (bs++[b]):Int)) G:=by rw [← eo];rfl
 have ex:ak aT (af 6) (eC (.int 1)) [a0,a1,a2,some (.str s),some (.int (nb bs:Int)),some (.int (bs.length:Int)),some (row p)] G=.ok (.str p.2) G:=by rw [Q8];rfl
 unfold eB
 generalize (nb (bs++[b]):Int)=v at ho
 generalize ((b.toNat:Int)*2^bs.length)=u at ho hsh
 rw [di,UX,cg,bM,aI,cg,ex,ao,ai,Q7,ao,e,ao,ai,aL,ao,aX,ao,hi,ao,ai,LY,ao,hsh,ao,ho,fO,Ss]
theorem sN (a0 a1 a2:Option D) (s:Str) (hs:WW s=true) (G:DH):∀ (ps:List (Nat×Str)) (bs:List Bool) (a5 a6:Option D),bs.length+ps.length≤1000→(∀ p∈ps,WW p.2=true)→∃ b5 b6,
  bC (gP 5 6) eB (ps.mapIdx λi p=>.tup [.int ((bs.length+i:Nat):Int),row p]) [a0,a1,a2,some (.str s),some (.int (nb bs:Int)),a5,a6] G=.nx [a0,a1,a2,some (.str s),some (.int (nb (bs++ps.map λp=>p.2==s):Int)),b5,b6] G
 | [],bs,a5,a6,_,_=>⟨a5,a6,by simp [dO]⟩
 | p::ps,bs,a5,a6,h,hp=>by
  rw [WR] at h
  obtain ⟨b5,b6,e⟩:=sN a0 a1 a2 s hs G ps (bs++[p.2==s]) (some (.int (bs.length:Int))) (some (row p)) (by simp;nofun) (λq hq=>hp q (by simp [hq]))
  refine ⟨b5,b6,?_⟩
  have e1:=Bo a0 a1 a2 s hs bs (by nofun) p (hp p (by simp)) G
  rw [ab0,bE (g:=gP 5 6) (τ1:=[a0,a1,a2,some (.str s),some (.int (nb bs:Int)),some (.int (bs.length:Int)),some (row p)]) rfl,e1,fP]
  have em:(ps.mapIdx λi p=>D.tup [.int ((bs.length+(i+1):Nat):Int),row p])=(ps.mapIdx λi q=>D.tup [.int (((bs++[p.2==s]).length+i:Nat):Int),row q]):=by
   congr 1
   funext i q
   rw [W9,ZU,Nat.add_assoc,Nat.add_comm 1 i]
  rw [em,e]
  simp
theorem zE (n:Nat) (hn:n≤1000) (G:DH):pO (.int 1) (.int (n:Int)) G=.ok (.int (2^n)) G:=by
 have z1:((n:Nat):Int)≤1000000:=by nofun
 simp [pO,cH,z1,M.ret]
theorem wW (n:Nat):((2:Int)^n - 1)=((2^n - 1:Nat):Int):=by
 have hp:1≤2^n:=aar
 rw [Int.natCast_sub hp];simp
theorem HA (c:Int) (ws:List Str) (h5:ws.length=5) (hw:∀ s∈ws,WW s=true) (rs:List (Nat×Str)) (hr:rs.length≤100) (hrs:∀ p∈rs,WW p.2=true) (G:DH):∃ q:Qt,q.Ok∧dS [.int c,.con (ws.map .str),.con (rs.map row)] G=.ok (q.D (rs.map (·.2))) G:=by
 have hm:=dW c 10 (by nofun) (by nofun)
 have hm2:=dW c 14 (by nofun) (by nofun)
 have hn1:=jS c 10
 have hn2:=jS c 14
 have z1:(1:Nat)≤WO:=lz (by nofun)
 have z2:(2:Nat)≤WO:=lz (by nofun)
 have z4:(4:Nat)≤WO:=lz (by nofun)
 have zr:rs.length≤WO:=lz (by nofun)
 generalize mx c 10=v at hm hn1
 generalize mx c 14=u at hm2 hn2
 by_cases c0:v % 5=0
 ·refine ⟨⟨.any,1,1⟩,⟨trivial,by simp [Lk.sz],by show (1:Int)≤40;nofun,by show (1:Int)≤12;nofun⟩,?_⟩
  have eD:(Qt.mk .any 1 1).D (rs.map (·.2))=.tup [.tup [.str "any"],.int (2^rs.length - 1),.int 1,.int 1]:=by
   rw [Qt.D,Lk.D,Lk.tr,Xo,wW,← Ea]
   congr 5
   refine congrArg nb ?_
   apply YJ
   ·simp
   ·intro i h1 h2;simp
  unfold dS
  refine aR ?_ (Om _ _)
  rw [eD]
  have hsh:=zE rs.length (by nofun) G
  have hlen:(rs.map row).length=rs.length:=W8 _
  generalize D.con (ws.map .str)=wD
  generalize rs.map row=rr at hlen
  simp! [iC,hm,c0,cN,z1,z4,hlen,zr,hsh]
 ·have hu:0≤u % 5∧u % 5<5:=by nofun
  obtain ⟨x,hx,Oq⟩:=lK (xs:=ws.map D.str) hu.1 (by simp [h5];nofun)
  rw [Xn] at Oq
  cases hg:ws[(u % 5).toNat]? with
  | none=>rw [hg] at Oq;cases Oq
  | some k=>
   rw [hg] at Oq;cases Oq
   have hk:=hw k (XE hg)
   refine ⟨⟨.kind k,1,1⟩,⟨hk,by simp [Lk.sz],by show (1:Int)≤40;nofun,by show (1:Int)≤12;nofun⟩,?_⟩
   obtain ⟨b5,b6,e⟩:=sN (some (.int c)) (some (.con (ws.map .str))) (some (.con (rs.map row))) k hk G rs [] none none (by simp;nofun) hrs
   have eD:(Qt.mk (.kind k) 1 1).D (rs.map (·.2))=.tup [.tup [.str "kind",.str k],.int (nb (rs.map λp=>p.2==k):Int),.int 1,.int 1]:=by
    rw [Qt.D,Lk.D,Lk.tr,Xo];rfl
   unfold dS
   refine aR ?_ (Om _ _)
   rw [eD]
   have VD:(v % 5==(0:Int))=false:=beq_eq_false_iff_ne.mpr c0
   have em:(rs.mapIdx λi p=>D.tup [.int (((([]:List Bool).length+i:Nat)):Int),row p])=((rs.map row).mapIdx λi x=>D.tup [.int (i:Int),x]):=by
    apply YJ
    ·simp
    ·intro i h1 h2;simp
   rw [em,Xd,show nb []=0 from rfl] at e
   simp only [ab1] at e
   generalize (nb (rs.map λp=>p.2==k):Int)=bits at e
   have hfe:=λτ G=>wQ (g:=gP 5 6) (body:=eB) (xs:=rs.map row) (τ:=τ) (G:=G)
   generalize ((rs.map row).mapIdx λi x=>D.tup [.int (i:Int),x])=its at e hfe
   generalize rs.map row=rr at e hfe
   generalize ws.map D.str=ww at hx e
   simp! [iC,hm,hm2,VD,cN,hx,hfe,e,z2,z4]
structure Qu where
 l:Lk
 b:Int
 s:Int
 d:Int
noncomputable def Qu.D (q:Qu):L3.D:=.tup [q.l.D,.int q.b,.int q.s,.int q.d]
noncomputable def Qu.Ok (ks:List Str) (q:Qu):Prop:=q.l.Ok∧(q.l.sz:Int)≤q.s∧q.b=(nb (q.l.tr ks):Int)∧q.s≤40∧q.d≤12
theorem Ec (q:Qu):q.D.closed=true:=by simp [Qu.D,D.closed,aH,bh,qU]
theorem VE (i j:Int) (G:DH):NX (.int i) (.int j) G=.ok (.int (YF i j)) G:=rfl
theorem Ot (i j:Int) (G:DH):AR (.int i) (.int j) G=.ok (.int (Yu i j)) G:=rfl
theorem Rm (i j:Int) (G:DH):GI (.int i) (.int j) G=.ok (.int (Yc i j)) G:=rfl
theorem HB {ks:List Str} {q:Qt} (h:q.Ok):∃ u:Qu,u.Ok ks∧u.D=q.D ks:=⟨⟨q.l,nb (q.l.tr ks),q.s,q.d⟩,⟨h.1,h.2.1,rfl,h.2.2.1,h.2.2.2⟩,rfl⟩
theorem Rn (xs:List D) (x:D):iL (xs++[x]) (-1)=some x:=by
 have e:zW (xs++[x]).length (-1)=some xs.length:=by
  unfold zW
  rw [if_neg (by nofun),if_pos (by simp;nofun)]
  simp;nofun
 unfold iL
 rw [e]
 simp
theorem Ro (xs:List D) (x y:D):iL (xs++[x,y]) (-2)=some x:=by
 have e:zW (xs++[x,y]).length (-2)=some xs.length:=by
  unfold zW
  rw [if_neg (by nofun),if_pos (by simp;nofun)]
  simp;nofun
 unfold iL
 rw [e]
 simp
theorem Ed (q:Qu) (G:DH):(aP [q.D] G).fw G=.ok (.con [q.D]) G:=cU (lz (n:=1) (by nofun)) (by simp [aH,bh,Ec])
theorem zF (G:DH):(aP [] G).fw G=.ok (.con []) G:=cU (XQ _) rfl
theorem SK (τ:DS) (G:DH):gA (eC (.int 1)) τ G=.ok (.int (-1)) G:=rfl
theorem O3 (τ:DS) (G:DH):gA (eC (.int 2)) τ G=.ok (.int (-2)) G:=rfl
theorem wX (ks:List Str) (c ev:Int) (hev:ev=((2^ks.length - 1:Nat):Int)) (A B:DH) (iG:List Qu) (q1:Qu) (hq:∀ q∈iG++[q1],q.Ok ks) (hz:iG.length≤1000):∃ rs:List Qu,rs.length≤1∧(∀ q∈rs,q.Ok ks)∧(∀ q∈rs,(∃ x,q.l=.not x)∨(1≤iG.length∧∃ e x y,q.l=.bin e x y)) ∧
  bu [.obj A.length,.int c,.int ev] (A++.lst ((iG++[q1]).map Qu.D)::B)=.ok (.con (rs.map Qu.D)) (A++.lst ((iG++[q1]).map Qu.D)::B):=by
 have hm:=dW c 11 (by nofun) (by nofun)
 have hn1:=jS c 11
 generalize mx c 11=v at hm hn1
 have VF:=hq q1 (by simp)
 have g0:∀ x Y,(A++x::Y)[A.length]?=some x:=λx Y=>oY A x Y
 have z2:(2:Nat)≤WO:=lz (by nofun)
 have z3:(3:Nat)≤WO:=lz (by nofun)
 have z4:(4:Nat)≤WO:=lz (by nofun)
 have em:(iG++[q1]).map Qu.D=iG.map Qu.D++[.tup [q1.l.D,.int q1.b,.int q1.s,.int q1.d]]:=by simp [Qu.D]
 have hat:=Rn (iG.map Qu.D) (.tup [q1.l.D,.int q1.b,.int q1.s,.int q1.d])
 obtain ⟨w1,w2,w3,w4,w5⟩:=VF
 have hlen:((iG++[q1]).map Qu.D).length=iG.length+1:=by simp
 have VG:iG.length+1≤WO:=lz (by nofun)
 rw [← em] at hat
 by_cases hA:v % 6=0∧q1.d<12∧q1.s<40
 ·obtain ⟨h1,h2,h3⟩:=hA
  refine ⟨[⟨.not q1.l,Yc ev q1.b,q1.s+1,q1.d+1⟩],by simp,λq h=>?_,λq h=>.inl ⟨q1.l,by rw [Xj.mp h]⟩,?_⟩
  ·rw [Xj.mp h]
   refine ⟨by rw [Lk.Ok];exact w1,?_,?_,?_,?_⟩
   ·show ((Lk.not q1.l).sz:Int)≤q1.s+1;rw [Lk.sz];nofun
   ·show Yc ev q1.b=(nb ((Lk.not q1.l).tr ks):Int);rw [Lk.tr,w3,hev,← Oj,ic]
   ·show q1.s+1≤40;nofun
   ·show q1.d+1≤12;nofun
  have f:=λG=>Ed ⟨.not q1.l,Yc ev q1.b,q1.s+1,q1.d+1⟩ G
  have eD:(Qu.mk (.not q1.l) (Yc ev q1.b) (q1.s+1) (q1.d+1)).D=.tup [.tup [.str "not",q1.l.D],.int (Yc ev q1.b),.int (q1.s+1),.int (q1.d+1)]:=by simp [Qu.D,Lk.D]
  unfold bu
  refine aR ?_ (by rw [aJ];exact ay Ec)
  rw [WU,Xk]
  rw [eD] at f ⊢
  generalize (iG++[q1]).map Qu.D=xs at hat hlen
  generalize q1.l.D=ld at f hat
  have hx:=λG=>Rm ev q1.b G
  generalize Yc ev q1.b=bx at f hx
  simp! [br,hm,h1,g0,SK,hat,cN,LG,Oo,LH,LI,h2,h3,hx,z2,z4,bG,f]
 ·have O4:∀ S:MS,(aG (aN 3 (ak eT (av 2 aB (aa (af 1) (aa (eC (.int 11)) (ah)))) (eC (.int 6)))) (aG (aN 4 (ak aT (af 0) (gA (eC (.int 1))))) S)) [some (.obj A.length),some (.int c),some (.int ev),none,none,none,none,none] (A++.lst ((iG++[q1]).map Qu.D)::B)=S [some (.obj A.length),some (.int c),some (.int ev),some (.int (v % 6)),some (.tup [q1.l.D,.int q1.b,.int q1.s,.int q1.d]),none,none,none] (A++.lst ((iG++[q1]).map Qu.D)::B):=by
   intro S
   generalize (iG++[q1]).map Qu.D=xs at hat hlen
   generalize q1.l.D=ld at hat
   simp! [hm,g0,SK,hat]
  have SA:(iO (jF (fH (ak (fG false) (af 3) (eC (.int 0)))) (jF (fH (ak BY (ak aT (af 4) (eC (.int 3))) (eC (.int 12)))) (fH (ak BY (ak aT (af 4) (eC (.int 2))) (eC (.int 40)))))) (cj (eFn (aj aP (aa (aj bA (aa (aj bA (aa (eC (.str "not")) (aa (ak aT (af 4) (eC (.int 0))) (ah)))) (aa (ak GI (af 2) (ak aT (af 4) (eC (.int 1)))) (aa (ak aE (ak aT (af 4) (eC (.int 2))) (eC (.int 1))) (aa (ak aE (ak aT (af 4) (eC (.int 3))) (eC (.int 1))) (ah)))))) (ah))))) (bI)) [some (.obj A.length),some (.int c),some (.int ev),some (.int (v % 6)),some (.tup [q1.l.D,.int q1.b,.int q1.s,.int q1.d]),none,none,none] (A++.lst ((iG++[q1]).map Qu.D)::B)=.nx [some (.obj A.length),some (.int c),some (.int ev),some (.int (v % 6)),some (.tup [q1.l.D,.int q1.b,.int q1.s,.int q1.d]),none,none,none] (A++.lst ((iG++[q1]).map Qu.D)::B):=by
   generalize (iG++[q1]).map Qu.D=xs at hat hlen
   generalize q1.l.D=ld at hat
   by_cases h1:v % 6=0
   ·by_cases h2:q1.d<12
    ·have h3:¬ q1.s<40:=λh3=>hA ⟨h1,h2,h3⟩
     simp! [h1,cN,LH,LI,h2,h3]
    ·simp! [h1,cN,LH,LI,h2]
   ·have hb:(v % 6==(0:Int))=false:=beq_eq_false_iff_ne.mpr h1
    simp! [cN,hb]
  by_cases hB:v % 6<3∧1≤iG.length
  ·obtain ⟨wY,q2,rfl⟩:∃ (wY:List Qu) (q2:Qu),iG=wY++[q2]:=⟨iG.dropLast,iG.getLast (by intro h;rw [h] at hB;simp at hB),(Zi _).symm⟩
   have ho2:=hq q2 (by simp)
   obtain ⟨u1,u2,u3,u4,u5⟩:=ho2
   have Rp:(wY++[q2]++[q1]).map Qu.D=wY.map Qu.D++[.tup [q2.l.D,.int q2.b,.int q2.s,.int q2.d],.tup [q1.l.D,.int q1.b,.int q1.s,.int q1.d]]:=by simp [Qu.D]
   have l9:=Ro (wY.map Qu.D) (.tup [q2.l.D,.int q2.b,.int q2.s,.int q2.d]) (.tup [q1.l.D,.int q1.b,.int q1.s,.int q1.d])
   rw [← Rp] at l9
   have O5:=hB.1
   obtain ⟨n,Er,hl1⟩:∃ n:Nat,((wY++[q2]++[q1]).map Qu.D).length=n∧(1:Int)<(n:Int):=⟨_,rfl,by simp;nofun⟩
   obtain ⟨me,hp1,hp2,O6⟩:∃ me:Int,q1.d≤me∧q2.d≤me∧(if q1.d<q2.d then q2.d else q1.d)=me:=⟨_,by split<;>nofun,by split<;>nofun,rfl⟩
   have hok:∀ (e:Bool) (b:Int),b=(nb ((Lk.bin e q2.l q1.l).tr ks):Int)→q1.s+q2.s+1<41→me+1<13→(Qu.mk (.bin e q2.l q1.l) b (q1.s+q2.s+1) (me+1)).Ok ks:=λe b LO k1 k2=>by
    refine ⟨by rw [Lk.Ok];exact ⟨u1,w1⟩,?_,?_,?_,?_⟩
    ·show ((Lk.bin e q2.l q1.l).sz:Int)≤q1.s+q2.s+1;rw [Lk.sz];nofun
    ·exact LO
    ·show q1.s+q2.s+1≤40;nofun
    ·show me+1≤12;nofun
   have hD:∀ (e:Bool) (b:Int),(Qu.mk (.bin e q2.l q1.l) b (q1.s+q2.s+1) (me+1)).D=.tup [.tup [.str (jW e),q2.l.D,q1.l.D],.int b,.int (q1.s+q2.s+1),.int (me+1)]:=λe b=>by simp [Qu.D,Lk.D]
   have bF:jW false="both":=rfl
   have bT:jW true="either":=rfl
   have O7:n≤WO:=lz (by simp at Er hz;nofun)
   by_cases hC:q1.s+q2.s+1<41∧me+1<13
   ·obtain ⟨k1,k2⟩:=hC
    by_cases hv1:v % 6=1
    ·refine ⟨[⟨.bin false q2.l q1.l,Yu q2.b q1.b,q1.s+q2.s+1,me+1⟩],by simp,λq h=>by rw [Xj.mp h];exact hok _ _ (by rw [u3,w3,IB _ _ (by rw [ic,ic])];rfl) k1 k2,λq h=>.inr ⟨by simp,by rw [Xj.mp h];exact ⟨_,_,_,rfl⟩⟩,?_⟩
     have f:=λG=>Ed ⟨.bin false q2.l q1.l,Yu q2.b q1.b,q1.s+q2.s+1,me+1⟩ G
     unfold bu
     refine aR ?_ (by rw [aJ];exact ay Ec)
     rw [fB]
     show (br [some (.obj A.length),some (.int c),some (.int ev),none,none,none,none,none] _).fn=_
     unfold br
     rw [O4,bq,SA,b9,WU,Xk]
     rw [hD,bF] at f ⊢
     have hx:=λG=>Ot q2.b q1.b G
     generalize Yu q2.b q1.b=bx at f hx
     generalize (wY++[q2]++[q1]).map Qu.D=xs at l9 Er
     generalize q1.l.D=l1 at f l9
     generalize q2.l.D=l2 at f l9
     simp! [cX,g0,Er,O7,O5,hl1,O3,l9,LG,Oo,LH,LI,O6,k1,k2,hv1,cN,hx,z3,z4,bG,f]
    ·refine ⟨[⟨.bin true q2.l q1.l,YF q2.b q1.b,q1.s+q2.s+1,me+1⟩],by simp,λq h=>by rw [Xj.mp h];exact hok _ _ (by rw [u3,w3,Ol _ _ (by rw [ic,ic])];rfl) k1 k2,λq h=>.inr ⟨by simp,by rw [Xj.mp h];exact ⟨_,_,_,rfl⟩⟩,?_⟩
     have f:=λG=>Ed ⟨.bin true q2.l q1.l,YF q2.b q1.b,q1.s+q2.s+1,me+1⟩ G
     have Rq:(v % 6==(1:Int))=false:=beq_eq_false_iff_ne.mpr hv1
     unfold bu
     refine aR ?_ (by rw [aJ];exact ay Ec)
     rw [fB]
     show (br [some (.obj A.length),some (.int c),some (.int ev),none,none,none,none,none] _).fn=_
     unfold br
     rw [O4,bq,SA,b9,WU,Xk]
     rw [hD,bT] at f ⊢
     have hx:=λG=>VE q2.b q1.b G
     generalize YF q2.b q1.b=bx at f hx
     generalize (wY++[q2]++[q1]).map Qu.D=xs at l9 Er
     generalize q1.l.D=l1 at f l9
     generalize q2.l.D=l2 at f l9
     simp! [cX,g0,Er,O7,O5,hl1,O3,l9,LG,Oo,LH,LI,O6,k1,k2,Rq,cN,hx,z3,z4,bG,f]
   ·refine ⟨[],by simp,λq h=>by simp at h,λq h=>by simp at h,?_⟩
    unfold bu
    refine aR ?_ rfl
    rw [fB]
    show (br [some (.obj A.length),some (.int c),some (.int ev),none,none,none,none,none] _).fn=_
    unfold br
    rw [O4,bq,SA,b9,Xk]
    generalize (wY++[q2]++[q1]).map Qu.D=xs at l9 Er
    generalize q1.l.D=l1 at l9
    generalize q2.l.D=l2 at l9
    by_cases k1:q1.s+q2.s+1<41
    ·have k2:¬ me+1<13:=λk2=>hC ⟨k1,k2⟩
     simp! [cX,g0,Er,O7,O5,hl1,O3,l9,LG,Oo,LH,LI,O6,k1,k2,cN,bG,zF]
    ·simp! [cX,g0,Er,O7,O5,hl1,O3,l9,LG,Oo,LH,LI,O6,k1,cN,bG,zF]
  ·refine ⟨[],by simp,λq h=>by simp at h,λq h=>by simp at h,?_⟩
   unfold bu
   refine aR ?_ rfl
   rw [fB]
   show (br [some (.obj A.length),some (.int c),some (.int ev),none,none,none,none,none] _).fn=_
   unfold br
   rw [O4,bq,SA,b9,Xk]
   generalize (iG++[q1]).map Qu.D=xs at hlen
   generalize q1.l.D=l1
   by_cases k1:v % 6<3
   ·have k2:¬ (1:Int)<(iG.length:Int)+1:=λk2=>hB ⟨k1,by nofun⟩
    simp! [g0,hlen,VG,k1,k2,bG,zF]
   ·simp! [k1,bG,zF]
theorem yE {gO:D→Option (List D)} {ks:List Bool} {tt:DS→M Bool} {te:DS→M D} {n:Nat} {xs:List D} {τ:DS} {G:DH}:iy gO ks tt te n (iz (.con xs)) (xs.length+1) 0 τ G=bU gO ks tt te n (xs.mapIdx λi x=>.tup [.int i,x]) τ G:=by
 have:=gQ (n:=n) (gO:=gO) (ks:=ks) (tt:=tt) (te:=te) (xs:=xs.mapIdx λi x=>D.tup [.int i,x]) (vw:=iz (.con xs)) (λG i h=>by
  simp only [iz,aA,Zs]) (xs.length+1) 0 τ G (by simp) (by simp)
 simpa using this
noncomputable def Ef:DS→M Bool:=fH (ak (fG false) (ak AR (ak Dj (ak aT (af 3) (eC (.int 1))) (af 0)) (eC (.int 1))) (eC (.int 1)))
theorem HC (bs:List Bool) (j:Nat) (b:Bool) (h:bs[j]?=some b) (p ld sd dd:D) (τ:DS) (G:DH):Ef (some (.int (j:Int))::some p::none::some (.tup [ld,.int (nb bs:Int),sd,dd])::τ) G=.ok b G:=by
 have e1:Dj (.int (nb bs:Int)) (.int (j:Int)) G=.ok (.int ((nb bs / 2^j:Nat):Int)) G:=by
  simp [Dj,cH,M.ret]
 have e2:AR (.int ((nb bs / 2^j:Nat):Int)) (.int 1) G=.ok (.int (b.toNat:Int)) G:=by
  rw [Ot,PyProof.Rows.bitAnd_m1,← IA bs j b h];rfl
 have e3:fG false (.int (b.toNat:Int)) (.int 1) G=.ok (.bl b) G:=by rw [cN];cases b<;>rfl
 generalize ((nb bs / 2^j:Nat):Int)=v at e1 e2
 unfold Ef
 rw [gh,cg,cg,cg,Lo]
 have e0:aT (.tup [ld,.int (nb bs:Int),sd,dd]) (.int 1) G=.ok (.int (nb bs:Int)) G:=rfl
 rw [e0,ao,ai,NB,ao,e1,ao,ai,eN,ao,e2,ao,ai,eN,ao,e3,ao,dM]
theorem HE:∀ (ps:List (List Int)) (bs:List Bool),ps.length=bs.length→((ps.zip bs).mapIdx λi q=>(i,q)).map (λx=>x.2)=ps.zip bs:=λps bs _=>by
 apply YJ
 ·simp
 ·intro i h1 h2;simp
theorem LJ (ps:List (List Int)) (bs:List Bool) (hl:ps.length=bs.length) (hz:ps.length≤1000) (a0 a3 a4:Option D) (ld sd dd:D) (G:DH) :
  eFn (bZ (oT 2) [false,true] (dP (aa (af 2) (ah))) Ef (af 1)) [a0,some (.tup [ld,.int (nb bs:Int),sd,dd]),some (.con (ps.map pl)),a3,a4] G=.ok (.con (due ps bs)) G:=by
 have hc:=qB ps bs
 have c1:=gE (gO:=oT 2) (ks:=[false,true]) (tt:=Ef) (te:=af 1) (own:=λx:Nat×(List Int×Bool)=>[D.int (x.1:Int),pl x.2.1]) (dat:=λx=>D.tup [.int (x.1:Int),pl x.2.1]) (f:=λx=>pl x.2.1) (c:=λx=>x.2.2) (G:=G) (τ:=[a0,some (.tup [ld,.int (nb bs:Int),sd,dd]),some (.con (ps.map pl)),a3,a4]) ((ps.zip bs).mapIdx λi q=>(i,q)) [] (by simp;nofun) (λ_ _=>rfl) (λx hx acc=>by
   obtain ⟨i,hi,rfl⟩:=ZE.mp hx
   refine HC bs i _ ?_ _ ld sd dd _ _
   have hb:i<bs.length:=by rw [aa6] at hi;nofun
   rw [W2 hb,List.getElem_zip]) (λx _ acc=>rfl)
 have em:((ps.zip bs).mapIdx λi q=>(i,q)).map (λx=>D.tup [.int (x.1:Int),pl x.2.1])=(ps.map pl).mapIdx λi x=>D.tup [.int (i:Int),x]:=by
  apply YJ
  ·simp;nofun
  ·intro i h1 h2;simp
 have ef:((((ps.zip bs).mapIdx λi q=>(i,q)).filter λx=>x.2.2).map λx=>pl x.2.1)=due ps bs:=by
  have e0:=HE ps bs hl
  rw [due]
  conv=>rhs;rw [← e0,ab8,Xo]
  rfl
 rw [em,Xd,ef] at c1
 rw [bG,← dQ hc,← c1,← yE,jJ]
 have hi:dP (aa (af 2) (ah)) [a0,some (.tup [ld,.int (nb bs:Int),sd,dd]),some (.con (ps.map pl)),a3,a4] G=.ok ((ps.map pl).length+1,iz (.con (ps.map pl))) G:=by
  generalize ps.map pl=xs
  simp [pC,aI,aL,ao,ai,aX,aA]
 rw [hi,ao]
theorem HF (ps:List (List Int)) (bs:List Bool):∃ P:List (List Int),due ps bs=P.map pl∧P.length≤ps.length:=by
 refine ⟨((ps.zip bs).filter (·.2)).map (·.1),by rw [due,Xo];rfl,?_⟩
 have:=abe (λq:List Int×Bool=>q.2) (ps.zip bs)
 rw [aa6] at this
 rw [W8];nofun
theorem HG (t:T) (ht:t.subs.length≤100) (hgd:∀ s∈t.subs.map kn,WW s=true) (q:Qu) (hq:q.Ok (t.subs.map kn)) (G:DH) (hG:G.any (kG "truths_of")=true):iF [t.d,q.D,.con (((t.prs []).map (·.1)).map pl)] G=.ok (.bl true) G:=by
 obtain ⟨h1,h2,h3,h4,h5⟩:=hq
 have hz:(t.prs []).length=t.subs.length:=by rw [← dw [] t,W8]
 have Er:((t.prs []).map (·.1)).length=(q.l.tr (t.subs.map kn)).length:=by rw [ic,W8,W8,hz]
 have ed:=LJ ((t.prs []).map (·.1)) (q.l.tr (t.subs.map kn)) Er (by rw [W8];nofun) (some t.d) none none q.l.D (.int q.s) (.int q.d) G
 have eh:=D8 t ht hgd q.l (by nofun) h1
 obtain ⟨P,eP,lP⟩:=HF ((t.prs []).map (·.1)) (q.l.tr (t.subs.map kn))
 rw [W8] at lP
 have e1:=(eh G hG).2
 have VH:∀ x:DO,(G++[x]).any (kG "truths_of")=true:=λx=>by rw [ab9,hG];rfl
 rw [eP] at ed e1 eh
 have e3:=(eh (G++[.lst (P.map pl++[.tup []])]) (VH _)).1
 have q1:=Gm true (P.map pl) G.length (G++[.lst (P.map pl)]) (by simp) (sF P) (by have:=DK P;nofun)
 have q2:=pI false (.con (P.map pl)) (G++[.lst (P.map pl++[.tup []])]) (by rw [D.plain];exact sF P) (by rw [D.dp];have:=DK P;nofun)
 have hlen:(P.map pl).length<WO:=W0 (by simp;nofun) (lz (n:=1001) (by nofun))
 have z0:(0:Nat)≤WO:=XQ _
 have VI:q.D=.tup [q.l.D,.int (nb (q.l.tr (t.subs.map kn)):Int),.int q.s,.int q.d]:=by rw [Qu.D,h3]
 unfold iF
 refine fj (R:=[.lst (P.map pl++[.tup []])]) ?_ rfl
 rw [VI]
 generalize (nb (q.l.tr (t.subs.map kn)):Int)=bits at ed
 generalize P.map pl=L at ed e1 e3 q1 q2 hlen
 generalize ((t.prs []).map (·.1)).map pl=PL at ed
 generalize t.d=td at ed e1 e3
 generalize q.l.D=ld at ed e1 e3
 show (iE [some td,some (.tup [ld,.int bits,.int q.s,.int q.d]),some (.con PL),none,none] G).fn=_
 unfold iE
 change (aG (aN 3 (eFn (bZ (oT 2) [false,true] (dP (aa (af 2) (ah))) Ef (af 1)))) gK _ _).fn=_
 rw [bq,di,ed,fO,UT,b9]
 unfold gK
 simp only [bq,di,cO,Sn,aI,aL,N4,aQ,eN,aT,aA,LG,W4,WX,ao,ai,aX,WR,Xb,if_true,e1,fO,b9,Xq,Xp,iQ,KU,F5,CF,CG,qI,LP,oY,Ty.is,kr,gh,cg,q1,dM]
 simp [f7,dN,cT,aS,hlen,qM,jc,b9,jI,cO,aI,aL,aQ,bM,bA,ao,ai,aX,iQ,gh,cg,eN,dM,bq,vm,e3,q2,e1,q1,qI,LP,Ty.is,kr,KS,CG,aT,aA,LG,fY,iR,iS]
theorem Eg (x:Lk) (b s d:D) (τ:DS) (G:DH) (a0 a1 a2 a3 a4 a5 a6 a7:Option D):fH (ak (fG true) (ak aT (ak aT (af 8) (eC (.int 0))) (eC (.int 0))) (eC (.str "not"))) (a0::a1::a2::a3::a4::a5::a6::a7::some (.tup [(Lk.not x).D,b,s,d])::τ) G=.ok false G:=by
 have e:fG true (.str "not") (.str "not") G=.ok (.bl false) G:=by rw [lJ _ _ _ _ gw gw];simp
 rw [Lk.D,gh,cg,cg,N5]
 have e0:aT (.tup [.tup [.str "not",x.D],b,s,d]) (.int 0) G=.ok (.tup [.str "not",x.D]) G:=rfl
 have e1:aT (.tup [.str "not",x.D]) (.int 0) G=.ok (.str "not") G:=rfl
 rw [e0,ao,ai,eN,ao,e1,ao,ai,eN,ao,e,ao,dM]
theorem Eh (e':Bool) (x y:Lk) (b s d:D) (τ:DS) (G:DH) (a0 a1 a2 a3 a4 a5 a6 a7:Option D):fH (ak (fG true) (ak aT (ak aT (af 8) (eC (.int 0))) (eC (.int 0))) (eC (.str "not"))) (a0::a1::a2::a3::a4::a5::a6::a7::some (.tup [(Lk.bin e' x y).D,b,s,d])::τ) G=.ok true G:=by
 have e:fG true (.str (jW e')) (.str "not") G=.ok (.bl true) G:=by
  rw [lJ _ _ _ _ (oj e') gw,show (jW e'=="not")=false by cases e'<;>symm];rfl
 rw [Lk.D,gh,cg,cg,N5]
 have e0:aT (.tup [.tup [.str (jW e'),x.D,y.D],b,s,d]) (.int 0) G=.ok (.tup [.str (jW e'),x.D,y.D]) G:=rfl
 have e1:aT (.tup [.str (jW e'),x.D,y.D]) (.int 0) G=.ok (.str (jW e')) G:=rfl
 rw [e0,ao,ai,eN,ao,e1,ao,ai,eN,ao,e,ao,dM]
theorem zG (A B:DH) (xs:List D) (x:D) (a0 a1 a2 a3 a4:Option D) (τ:DS):eU (bK "list" kN (af 5) ah) (a0::a1::a2::a3::a4::some (.obj A.length)::τ) (A++.lst (xs++[x])::B)=.nx (a0::a1::a2::a3::a4::some (.obj A.length)::τ) (A++.lst xs::B):=by
 have hg:(xs++[x])[(xs++[x]).length - 1]?=some x:=by simp
 have hd:(xs++[x]).dropLast=xs:=by simp
 simp only [f7,dN,LY,ao,cT,oY,beq_self_eq_true,if_true,aL,kN,hg,hd,vm,jI]
theorem wZ (A B:DH) (xs:List D) (x:D) (hz:xs.length≤1000) (a0 a1 a2 a3 a4 a6 a7:Option D) (τ:DS):eU (bK "list" aS (af 5) (aa (af 8) (ah))) (a0::a1::a2::a3::a4::some (.obj A.length)::a6::a7::some x::τ) (A++.lst xs::B)=.nx (a0::a1::a2::a3::a4::some (.obj A.length)::a6::a7::some x::τ) (A++.lst (xs++[x])::B):=by
 have z:xs.length<WO:=W0 (by nofun) (lz (n:=1001) (by nofun))
 simp only [f7,dN,LY,ao,cT,oY,beq_self_eq_true,if_true,U3,aL,aX,aS,z,vm,jI]
theorem Bp (ks:List Str) (A:DH) (iG:List Qu) (q1 q:Qu) (hz:iG.length≤900) (hs:(∃ x,q.l=.not x)∨(1≤iG.length∧∃ e x y,q.l=.bin e x y)) (a0 a1 a2 a3 a4 a6 a7:Option D) :
  ∃ qs:List Qu,qs.length≤iG.length+1∧(∀ u∈qs,u=q∨u∈iG++[q1])∧qs≠[] ∧
   pY [a0,a1,a2,a3,a4,some (.obj A.length),a6,a7,some q.D] (A++[.lst ((iG++[q1]).map Qu.D)])=.nx [a0,a1,a2,a3,a4,some (.obj A.length),a6,a7,some q.D] (A++[.lst (qs.map Qu.D)]):=by
 have em:(iG++[q1]).map Qu.D=iG.map Qu.D++[q1.D]:=by simp
 unfold pY
 rw [em,bq,zG A [],b9,bq,iQ]
 obtain ⟨l,b,s,d⟩:=q
 rcases hs with ⟨x,hx⟩ | ⟨hl,e,x,y,hx⟩
 ·dsimp only at hx
  subst hx
  refine ⟨iG++[⟨.not x,b,s,d⟩],by simp,λu hu=>?_,by simp,?_⟩
  ·rcases Xy.mp hu with h | h
   ·exact .inr (by simp [h])
   ·exact .inl (Xj.mp h)
  ·rw [show (Qu.mk (.not x) b s d).D=.tup [(Lk.not x).D,.int b,.int s,.int d] from rfl,Eg,qM,jc,b9,wZ A [] _ _ (by simp;nofun)]
   simp [Qu.D]
 ·dsimp only at hx
  subst hx
  obtain ⟨wY,q2,rfl⟩:∃ (wY:List Qu) (q2:Qu),iG=wY++[q2]:=⟨iG.dropLast,iG.getLast (by intro h;rw [h] at hl;simp at hl),(Zi _).symm⟩
  refine ⟨wY++[⟨.bin e x y,b,s,d⟩],by simp,λu hu=>?_,by simp,?_⟩
  ·rcases Xy.mp hu with h | h
   ·exact .inr (by simp [h])
   ·exact .inl (Xj.mp h)
  ·rw [show (Qu.mk (.bin e x y) b s d).D=.tup [(Lk.bin e x y).D,.int b,.int s,.int d] from rfl,Eh,qL]
   have Rp:(wY++[q2]).map Qu.D=wY.map Qu.D++[q2.D]:=by simp
   rw [Rp,zG A [],b9,wZ A [] _ _ (by simp at hz ⊢;nofun)]
   simp [Qu.D]
theorem zH:∀ (l:Lk),l.Ok→l.D.plain=true
 | .any,_=>by simp [Lk.D,D.plain,bR,jX]
 | .kind nm,h=>by rw [Lk.Ok] at h;simp [Lk.D,D.plain,bR,gM,h]
 | .not l,h=>by rw [Lk.Ok] at h;simp [Lk.D,D.plain,bR,gw,zH l h]
 | .bin e l r,h=>by rw [Lk.Ok] at h;simp [Lk.D,D.plain,bR,oj,zH l h.1,zH r h.2]
theorem zI:∀ (l:Lk),l.D.dp≤4*l.sz
 | .any=>by simp [Lk.D,D.dp,pG,Lk.sz]
 | .kind nm=>by simp [Lk.D,D.dp,pG,Lk.sz]
 | .not l=>by have:=zI l;simp only [Lk.D,D.dp,pG,Lk.sz];nofun
 | .bin e l r=>by have:=zI l;have:=zI r;simp only [Lk.D,D.dp,pG,Lk.sz];nofun
theorem HH (x:D) (hp:x.plain=true) (hd:x.dp≤500) (G:DH):fG false (.con [x]) (.con []) G=.ok (.bl false) G:=by
 have p1:(D.con [x]).plain=true:=by simp [D.plain,bR,hp]
 have p2:(D.con []).plain=true:=by simp [D.plain,bR]
 have d1:(D.con [x]).dp≤510:=by simp only [D.dp,pG];nofun
 have d2:(D.con []).dp≤510:=by simp [D.dp,pG]
 have h1:=vK (D.con [x])
 unfold fG tw
 rw [kP G (.con [x]) deep p1 (by show (D.con [x]).dp<600;nofun),kP G (.con []) deep p2 (by show (D.con []).dp<600;nofun)]
 dsimp only
 rw [if_pos (by rw [lay_of _ p1,lay_of _ p2];simp;nofun)]
 rfl
theorem Ei (G:DH):fG false (.con []) (.con []) G=.ok (.bl true) G:=pI false (.con []) G (by simp [D.plain,bR]) (by simp [D.dp,pG])
theorem Ej {ks:List Str} {q:Qu} (h:q.Ok ks):q.D.plain=true:=by
 simp [Qu.D,D.plain,bR,zH q.l h.1]
theorem Ou {ks:List Str} {q:Qu} (h:q.Ok ks):q.D.dp≤500:=by
 have:=zI q.l
 have h2:=h.2.1
 have h4:=h.2.2.2.1
 simp only [Qu.D,D.dp,pG]
 nofun
noncomputable def w6:MS:=iO (fH (ak (fG false) (af 7) (eFn (aj aP (ah))))) (eU (bK "list" aS (af 5) (aa (av 3 dS (aa (af 6) (aa (af 1) (aa (af 2) (ah))))) (ah)))) (bI)
theorem w9 (ws:List Str) (h5:ws.length=5) (hw:∀ s∈ws,WW s=true) (rs:List (Nat×Str)) (hr:rs.length≤100) (hrs:∀ p∈rs,WW p.2=true) (A:DH) (qs:List Qu) (hq:∀ q∈qs,q.Ok (rs.map (·.2))) (hz:qs.length≤800) (c:Int) (a0 a3 a4 a8:Option D) :
  ∃ xg:List Qu,(∀ q∈xg,q.Ok (rs.map (·.2)))∧xg.length≤qs.length+1∧w6 [a0,some (.con (ws.map .str)),some (.con (rs.map row)),a3,a4,some (.obj A.length),some (.int c),some (.con []),a8] (A++[.lst (qs.map Qu.D)])=.nx [a0,some (.con (ws.map .str)),some (.con (rs.map row)),a3,a4,some (.obj A.length),some (.int c),some (.con []),a8] (A++[.lst (xg.map Qu.D)]):=by
 obtain ⟨q,Ov,e⟩:=HA c ws h5 hw rs hr hrs (A++[.lst (qs.map Qu.D)])
 obtain ⟨u,hu,eu⟩:=HB (ks:=rs.map (·.2)) Ov
 rw [← eu] at e
 refine ⟨qs++[u],λx hx=>?_,by simp,?_⟩
 ·rcases Xy.mp hx with h | h
  ·exact hq x h
  ·rw [Xj.mp h];exact hu
 have z:(qs.map Qu.D).length<WO:=W0 (by simp;nofun) (lz (n:=1001) (by nofun))
 have em:(qs++[u]).map Qu.D=qs.map Qu.D++[u.D]:=by simp
 rw [em]
 have n1:=Ei (A++[.lst (qs.map Qu.D)])
 have n2:=λτ=>mZ τ (A++[.lst (qs.map Qu.D)])
 generalize u.D=ud at e
 generalize qs.map Qu.D=L at e z n1 n2
 generalize ws.map D.str=ww at e
 generalize rs.map row=rr at e
 have ec:fH (ak (fG false) (af 7) (eFn (aj aP (ah)))) [a0,some (.con ww),some (.con rr),a3,a4,some (.obj A.length),some (.int c),some (.con []),a8] (A++[.lst L])=.ok true (A++[.lst L]):=by
  rw [gh,Sw,n2,ao,n1,ao,dM]
 have el:aa (av 3 dS (aa (af 6) (aa (af 1) (aa (af 2) (ah))))) (ah) [a0,some (.con ww),some (.con rr),a3,a4,some (.obj A.length),some (.int c),some (.con []),a8] (A++[.lst L])=.ok [ud] (A++[.lst L]):=by
  simp [aI,aL,cO,ao,ai,aX,e]
 unfold w6
 rw [iQ,ec,qL,f7,dN,LY,ao]
 simp only [cT,oY,beq_self_eq_true,if_true,el,ao,aS,z,vm,jI]
theorem Bq (A:DH) (x:D) (hp:x.plain=true) (hd:x.dp≤500) (a0 a1 a2 a3 a4 a5 a6 a8:Option D):w6 [a0,a1,a2,a3,a4,a5,a6,some (.con [x]),a8] A=.nx [a0,a1,a2,a3,a4,a5,a6,some (.con [x]),a8] A:=by
 have n1:=HH x hp hd A
 have n2:=λτ=>mZ τ A
 unfold w6
 rw [iQ,gh,Sw,n2,ao,n1,ao,dM,qM,jc]
theorem Br (ws:List Str) (h5:ws.length=5) (hw:∀ s∈ws,WW s=true) (rs:List (Nat×Str)) (hr:rs.length≤100) (hrs:∀ p∈rs,WW p.2=true) (A:DH) (qs:List Qu) (hq:∀ q∈qs,q.Ok (rs.map (·.2))) (hz:qs.length≤800) (c:Int) (a0 a3 a4 a7 a8:Option D) :
  ∃ (xg:List Qu) (b7 b8:Option D),(∀ q∈xg,q.Ok (rs.map (·.2)))∧xg.length≤qs.length+1∧kW [a0,some (.con (ws.map .str)),some (.con (rs.map row)),a3,a4,some (.obj A.length),some (.int c),a7,a8] (A++[.lst (qs.map Qu.D)])=.nx [a0,some (.con (ws.map .str)),some (.con (rs.map row)),a3,a4,some (.obj A.length),some (.int c),b7,b8] (A++[.lst (xg.map Qu.D)]):=by
 have n2:=λτ=>mZ τ (A++[.lst (qs.map Qu.D)])
 have zq:(qs.map Qu.D).length≤WO:=lz (by simp;nofun)
 have zr:(rs.map row).length≤WO:=lz (by simp;nofun)
 have S0:∀ k,kW=k→k=aG (aN 7 (eFn (aj aP (ah)))) (aG (iO (fH (ak rH (aj cA (aa (af 5) (ah))) (eC (.int 0)))) (aN 7 (av 3 bu (aa (af 5) (aa (af 6) (aa (ak kq (ak pO (eC (.int 1)) (aj cA (aa (af 2) (ah)))) (eC (.int 1))) (ah)))))) (bI)) (aG (gp (gN 8) (af 7) pY) w6)):=λk h=>h▸rfl
 rw [S0 kW rfl,bq,di,n2,fO,U0,b9,bq]
 rcases List.eq_nil_or_concat qs with rfl | ⟨iG,q1,rfl⟩
 ·obtain ⟨xg,h1,h2,e⟩:=w9 ws h5 hw rs hr hrs A [] hq hz c a0 a3 a4 a8
  refine ⟨xg,some (.con []),a8,h1,h2,?_⟩
  have ec:(iO (fH (ak rH (aj cA (aa (af 5) (ah))) (eC (.int 0)))) (aN 7 (av 3 bu (aa (af 5) (aa (af 6) (aa (ak kq (ak pO (eC (.int 1)) (aj cA (aa (af 2) (ah)))) (eC (.int 1))) (ah)))))) (bI)) [a0,some (.con (ws.map .str)),some (.con (rs.map row)),a3,a4,some (.obj A.length),some (.int c),some (.con []),a8] (A++[.lst (([]:List Qu).map Qu.D)])=.nx [a0,some (.con (ws.map .str)),some (.con (rs.map row)),a3,a4,some (.obj A.length),some (.int c),some (.con []),a8] (A++[.lst (([]:List Qu).map Qu.D)]):=by
   simp! [oY,rH]
  rw [ec,b9,bq,oZ,Sv,rR]
  dsimp only
  rw [dO,b9]
  exact e
 ·rw [List.concat_eq_append] at hq hz zq n2 ⊢
  obtain ⟨rs',l1,o1,o2,et⟩:=wX (rs.map (·.2)) c (2^rs.length - 1) (by rw [wW,W8]) A [] iG q1 hq (by simp at hz;nofun)
  have hsh:=λG=>zE rs.length (by nofun) G
  have hlr:(rs.map row).length=rs.length:=W8 _
  have hpos:(0:Int)<(((iG++[q1]).map Qu.D).length:Int):=by simp
  have ec:(iO (fH (ak rH (aj cA (aa (af 5) (ah))) (eC (.int 0)))) (aN 7 (av 3 bu (aa (af 5) (aa (af 6) (aa (ak kq (ak pO (eC (.int 1)) (aj cA (aa (af 2) (ah)))) (eC (.int 1))) (ah)))))) (bI)) [a0,some (.con (ws.map .str)),some (.con (rs.map row)),a3,a4,some (.obj A.length),some (.int c),some (.con []),a8] (A++[.lst ((iG++[q1]).map Qu.D)])=.nx [a0,some (.con (ws.map .str)),some (.con (rs.map row)),a3,a4,some (.obj A.length),some (.int c),some (.con (rs'.map Qu.D)),a8] (A++[.lst ((iG++[q1]).map Qu.D)]):=by
   generalize (iG++[q1]).map Qu.D=L at et zq hpos
   generalize rs.map row=rr at hlr zr
   generalize ws.map D.str=ww
   generalize rs'.map Qu.D=R at et
   have VJ:rs.length≤WO:=lz (by nofun)
   have hp2:0<L.length:=by nofun
   simp! [oY,rH,zq,hp2,hlr,VJ,hsh,et]
  rw [ec,b9,bq,oZ,Sv,rR]
  dsimp only
  match rs',l1,o1,o2 with
  | [],_,_,_=>
   obtain ⟨xg,h1,h2,e⟩:=w9 ws h5 hw rs hr hrs A (iG++[q1]) hq hz c a0 a3 a4 a8
   refine ⟨xg,some (.con []),a8,h1,h2,?_⟩
   rw [Xk,dO,b9]
   exact e
  | [q],_,o1,o2=>
   have Ov:=o1 q (by simp)
   obtain ⟨qs,m1,m2,m3,e⟩:=Bp (rs.map (·.2)) A iG q1 q (by simp at hz;nofun) (o2 q (by simp)) a0 (some (.con (ws.map .str))) (some (.con (rs.map row))) a3 a4 (some (.int c)) (some (.con [q.D]))
   refine ⟨qs,some (.con [q.D]),some q.D,λu hu=>?_,by simp;nofun,?_⟩
   ·rcases m2 u hu with rfl | h
    ·exact Ov
    ·exact hq u h
   ·rw [WU,Xk,bE (g:=gN 8) (τ1:=[a0,some (.con (ws.map .str)),some (.con (rs.map row)),a3,a4,some (.obj A.length),some (.int c),some (.con [q.D]),some q.D]) rfl,e,fP,dO,b9]
    exact Bq _ _ (Ej Ov) (Ou Ov) _ _ _ _ _ _ _ _
  | _::_::_,l1,_,_=>simp at l1
theorem qC (ws:List Str) (h5:ws.length=5) (hw:∀ s∈ws,WW s=true) (rs:List (Nat×Str)) (hr:rs.length≤100) (hrs:∀ p∈rs,WW p.2=true) (A:DH) (a0 a3 a4:Option D):∀ (cs:List Int) (qs:List Qu) (a6 a7 a8:Option D),(∀ q∈qs,q.Ok (rs.map (·.2)))→qs.length+cs.length≤800 →
  ∃ (xg:List Qu) (b6 b7 b8:Option D),(∀ q∈xg,q.Ok (rs.map (·.2)))∧xg.length≤qs.length+cs.length∧bC (gN 6) kW (cs.map .int) [a0,some (.con (ws.map .str)),some (.con (rs.map row)),a3,a4,some (.obj A.length),a6,a7,a8] (A++[.lst (qs.map Qu.D)])=.nx [a0,some (.con (ws.map .str)),some (.con (rs.map row)),a3,a4,some (.obj A.length),b6,b7,b8] (A++[.lst (xg.map Qu.D)])
 | [],qs,a6,a7,a8,hq,_=>⟨qs,a6,a7,a8,hq,WZ _,by rw [Xk,dO]⟩
 | c::cs,qs,a6,a7,a8,hq,hz=>by
  rw [WR] at hz
  obtain ⟨wY,b7,b8,h1,h2,e1⟩:=Br ws h5 hw rs hr hrs A qs hq (by nofun) c a0 a3 a4 a7 a8
  obtain ⟨xg,c6,c7,c8,h3,h4,e2⟩:=qC ws h5 hw rs hr hrs A a0 a3 a4 cs wY (some (.int c)) b7 b8 h1 (by nofun)
  refine ⟨xg,c6,c7,c8,h3,by rw [WR];nofun,?_⟩
  have ec:=bE (g:=gN 6) (body:=kW) (x:=.int c) (r:=cs.map .int) (G:=A++[.lst (qs.map Qu.D)]) (τ:=[a0,some (.con (ws.map .str)),some (.con (rs.map row)),a3,a4,some (.obj A.length),a6,a7,a8]) (τ1:=[a0,some (.con (ws.map .str)),some (.con (rs.map row)),a3,a4,some (.obj A.length),some (.int c),a7,a8]) rfl
  rw [WU,ec,e1,fP,e2]
theorem zJ {xs:List D} {lo hi:Option Int} {x:D} (h:x∈cutD xs lo hi):x∈xs:=List.mem_of_mem_drop (List.mem_of_mem_take h)
theorem HJ (xs:List D) (lo hi:Option Int):(cutD xs lo hi).length≤xs.length:=by
 unfold cutD
 rw [Zt,aaH];nofun
theorem last_eq (A:DH) (xs:List D) (hc:aD (cutD xs (some (-6)) none)=true) (hz:xs.length≤1000) (a0 a1 a2 a3 a4:Option D) (τ:DS) :
  eFn (j5 (af 5) (bY (gA (eC (.int 6)))) (cE)) (a0::a1::a2::a3::a4::some (.obj A.length)::τ) (A++[.lst xs])=.ok (.con (cutD xs (some (-6)) none)) (A++[.lst xs]):=by
 have hl:=HJ xs (some (-6)) none
 have f:=cU (G:=A++[.lst xs]) (lz (n:=(cutD xs (some (-6)) none).length) (by nofun)) hc
 have n6:∀ τ G,gA (eC (.int 6)) τ G=.ok (.int (-6)) G:=λ_ _=>rfl
 have es:uD (.obj A.length) (some (-6)) none (A++[.lst xs])=aP (cutD xs (some (-6)) none) (A++[.lst xs]):=by
  unfold uD
  simp only [aA,oY]
 rw [bG,vq,LY,ao,ai,lN,n6,ao]
 simp only [lO,ao,ai,lM,es,f]
theorem sO (t:T) (ht:t.subs.length≤100) (hgd:∀ s∈t.subs.map kn,WW s=true) (H:DH) (hH:H.any (kG "truths_of")=true) (a0 a1 a2 a5 a6 a7:Option D):∀ (ys:List D) (a8:Option D),(∀ y∈ys,∃ q:Qu,q.Ok (t.subs.map kn)∧y=q.D)→∃ b8,
  bC (gN 8) mW ys [a0,a1,a2,some t.d,some (.con (((t.prs []).map (·.1)).map pl)),a5,a6,a7,a8] H=.nx [a0,a1,a2,some t.d,some (.con (((t.prs []).map (·.1)).map pl)),a5,a6,a7,b8] H
 | [],a8,_=>⟨a8,by rw [dO]⟩
 | y::ys,a8,h=>by
  obtain ⟨q,hq,rfl⟩:=h y (by simp)
  obtain ⟨b8,e⟩:=sO t ht hgd H hH a0 a1 a2 a5 a6 a7 ys (some q.D) (λz hz=>h z (by simp [hz]))
  refine ⟨b8,?_⟩
  have es:=HG t ht hgd q hq H hH
  have ec:=bE (g:=gN 8) (body:=mW) (x:=q.D) (r:=ys) (G:=H) (τ:=[a0,a1,a2,some t.d,some (.con (((t.prs []).map (·.1)).map pl)),a5,a6,a7,a8]) (τ1:=[a0,a1,a2,some t.d,some (.con (((t.prs []).map (·.1)).map pl)),a5,a6,a7,some q.D]) rfl
  have e1:mW [a0,a1,a2,some t.d,some (.con (((t.prs []).map (·.1)).map pl)),a5,a6,a7,some q.D] H=.nx [a0,a1,a2,some t.d,some (.con (((t.prs []).map (·.1)).map pl)),a5,a6,a7,some q.D] H:=by
   generalize ((t.prs []).map (·.1)).map pl=PL at es
   generalize q.D=qd at es
   generalize t.d=td at es
   simp! [mW,es]
  rw [ec,e1,fP,e]
theorem Ek (ns:List Int) (hl:ns.length≤63):∃ G,Ip [.con (ns.map .int)] [.tab "truths_of"]=.ok (.bl true) G:=by
 let G0:DH:=[.tab "truths_of"]
 obtain ⟨c,e1⟩:=wu ns [none,none,none,none,none,none,none,none] G0
 obtain ⟨ws,hws,hok,e2⟩:=DA c G0
 obtain ⟨x0,WN,VL,e3⟩:=wz ns hl 0 (by nofun) G0
 obtain ⟨x1,OQ,VM,e4⟩:=wz ns hl 1 (by nofun) (G0++[.lst []])
 obtain ⟨m,hm1,hm2,e5⟩:=G4 ns G0
 obtain ⟨rs,e,hv,hrl,hrs,e6⟩:=G6 x0 (by nofun) ws hws hok m hm2 G0
 obtain ⟨t,ht1,Rl⟩:=G9 hv
 have hpl:t.subs.length≤100:=by rw [← zm 0 t,← ht1];exact hrl
 have hgood:t.good=true:=wB 0 t (by rw [← ht1];exact hrs)
 have hks:rs.map (·.2)=t.subs.map kn:=by rw [ht1];exact Eb 0 t
 have hgd:∀ s∈t.subs.map kn,WW s=true:=λs hs=>by
  rw [← hks] at hs
  obtain ⟨p,hp,rfl⟩:=Xf.mp hs
  exact hrs p hp
 have e7:=DE rs hrl
 rw [Rl] at e7
 have e8:=DF t hpl
 rw [← ht1] at e8
 have h0:iL (t.subs.map T.d) 0=some t.d:=by
  have:=f6 (xs:=t.subs.map T.d) (j:=0) (v:=t.d) (by cases t;rw [T.subs];rfl)
  simpa using this
 have Ow:∀ G,fG false t.d t.d G=.ok (.bl (false ^^ true)) G:=λG=>pI false _ G (qf t hgood) (by have:=N8 t;nofun)
 rw [show (((0:Nat):Int))=0 from rfl] at e3
 rw [show (((1:Nat):Int))=1 from rfl] at e4
 obtain ⟨qs,b6,b7,b8,hq,VN,ef⟩:=qC ws hws (λs hs=>(hok s hs).1) rs hrl hrs G0 (some (.con (ns.map .int))) (some t.d) (some (.con (((t.prs []).map (·.1)).map pl))) x1 [] none none none (by simp) (by simp;nofun)
 rw [hks] at hq
 simp only [Xb,aag] at VN
 have hcl:aD (cutD (qs.map Qu.D) (some (-6)) none)=true:=gY λy hy=>by
  obtain ⟨q,_,rfl⟩:=Xf.mp (zJ hy)
  exact Ec q
 have HL:=last_eq G0 (qs.map Qu.D) hcl (by simp;nofun) (some (.con (ns.map .int))) (some (.con (ws.map .str))) (some (.con (rs.map row))) (some t.d) (some (.con (((t.prs []).map (·.1)).map pl))) [b6,b7,b8]
 obtain ⟨d8,eL⟩:=sO t hpl hgd (G0++[.lst (qs.map Qu.D)]) rfl (some (.con (ns.map .int))) (some (.con (ws.map .str))) (some (.con (rs.map row))) (some (.obj G0.length)) b6 b7 (cutD (qs.map Qu.D) (some (-6)) none) b8 (λy hy=>by
  obtain ⟨q,hq',rfl⟩:=Xf.mp (zJ hy)
  exact ⟨q,hq q hq',rfl⟩)
 refine ⟨G0,?_⟩
 show cF (λds G=>iU (cI 9 pZ ds G)) [.con (ns.map .int)] G0=_
 refine fj (R:=[.lst (qs.map Qu.D)]) ?_ rfl
 generalize cutD (qs.map Qu.D) (some (-6)) none=ys at HL eL
 rw [Xk] at ef
 generalize qs.map Qu.D=QD at ef HL eL
 have e9:=e7 (G0++[.lst QD])
 generalize ((t.prs []).map (·.1)).map pl=PL at e8 ef HL eL
 generalize t.subs.map T.d=TD at e7 e9 h0
 generalize t.d=td at h0 Ow ef HL eL
 generalize rs.map row=rr at e6 e7 e8 e9 ef HL eL
 generalize ws.map D.str=ww at e2 e6 ef HL eL
 generalize ns.map D.int=nn at e1 e3 e4 e5 ef HL eL
 have VO:=e7 G0
 have VP:=e8 G0
 generalize hG:G0=GG at *
 have n0:aP [] GG=.ok (.obj GG.length) (GG++[.lst []]):=by simp [aP]
 have hr:cI 9 pZ [.con nn] GG=.ok (.bl true) (GG++[.lst QD]):=by
  generalize hS:aj tG (aa (eFn (j5 (af 0) (cE) (bY (eC (.int 1))))) (ah))=S at e1
  generalize hE:eFn (j5 (af 5) (bY (gA (eC (.int 6)))) (cE))=E at HL
  rw [fB]
  show (pZ [some (.con nn),none,none,none,none,none,none,none,none] GG).fn=_
  unfold pZ yl
  rw [hS,hE]
  simp! [e1,e2,e3,e4,e5,e6,VO,h0,VP,n0,ef,HL,eL,e9,Ow]
 show iU (cI 9 pZ [.con nn] GG)=_
 rw [hr];rfl
end K34
end
namespace K34
open PySem PySem.Spec L2 L3
theorem walk {l:ab7} {qq:Xx} {loose:List Str} {XP:(Str→Option V0)→Heap→Prop} {YP:XR→Heap→Prop} {d dy:DefRec} {K:Params→WV} (hn:l.most=some 63) (hdf:d.params.defaults=[]) (hrec:(PyProof.Rows.recsOf qq).find? (λe=>e.name==("truths_of":Str))=some dy)
    (hY:∀ (w:XR) (h:Heap),YP w h→(K w.params).In h) (hT:∀ w:XR,abr (K w.params)=true) (hd:d.name="law")
    (F:∀ (w:XR) (mg:Str→Option V0) (h:Heap),(K w.params).In h→h.Ns mainGlobals mg→qQ (K w.params) mg defs∧kB mg Lp∧∃ c Pt,YG (K w.params) "truths_of"=some (c,Pt)) :
    PySem.W.WalkO qq loose XP YP l.row.toRowW d [] (λf vs=>ace f vs):=
  Dg (n:=63) (k:=9) (x:="_law_script") (y:="truths_of") (CX:=λw=>nj l.prog w) hn (by decide) hdf ⟨rfl,by decide,by decide⟩ hrec hY hT (λw mg fa h KX G hm=>by
    obtain ⟨Td,Tn,c,Pt,ht⟩:=F w mg h KX G
    obtain ⟨f,fd,Fu,hm1⟩:=Td.at 25 rfl
    rw [hd,hm1] at hm;cases hm
    obtain ⟨_,_,Fy,hy⟩:=Td.at 13 rfl
    exact ⟨fd,c,Pt,_,ht,AX Fu (by intro _ _ _ _ _ _;exact GQ λ_=>rfl),λbase _ _ hC hB=>Lq (g:=⟨l.prog,w,K w.params,mg,base⟩) ⟨Td,Tn,c,Pt,ht,hC,hB⟩ Fu,λH a ns hl hO hS=>Lg Ek hl ht (ye (k:=jO) Fy hy rfl) hO hS⟩) λ_ _ _ _ _ zz=>by obtain ⟨_,_,_,_,_,_,_,_,z⟩:=zz;exact z
end K34
open PySem PySem.W PyProof.Rows
set_option maxRecDepth 100000 in
set_option maxHeartbeats 0 in
theorem PySem.Challenge.cw_pathshape_k34_looks_without_ways_holds : PySem.Challenge.rw_pathshape_k34_looks_without_ways.Holds := by
  w_on;o_law;k_head;(case hw=>w_witness2)
  k_fill
  refine K34.walk (l:=PySem.Challenge.rw_pathshape_k34_looks_without_ways) rfl rfl rfl (λw h Y=>PySem.W.km_in_of Y) ?TB rfl ?F
  case TB=>intro w;kernel_rfl
  case F=>
    intro w mg h KX G
    refine ⟨?_,?_,?_⟩
    · delta K34.defs
      repeat (refine' L3.qQ.cons KX G ?_ ?_ ?_ ?_ ?_;any_goals k_is)
      exact trivial
    · delta K34.Lp
      repeat (refine L3.kB.cons KX G ?_ ?_;k_is)
      exact trivial
    · refine' ⟨_,_,L3.Dh ?my_t1 ?my_t2 ?my_t3 ?my_t4 ?my_t5⟩
      (case my_t1=>k_is)
      (case my_t2=>k_is)
      (case my_t3=>exact rfl)
      (case my_t4=>k_is)
      (case my_t5=>exact rfl)
